import PyProof.Rows.All
import Wide.All
import OpenK.AllK
import Wide.FinOn
import HandS.ForMost
import HandS.ForExc
import HandS.More
import HandS.Flow
import HandS.Style
import HandS.IsInst
import HandS.Property
import HandS.OwnEq
import HandS.Evl
import KE.GoesEnum
import HandS.SortKw
import KE.GoesEnumKw
import HandS.Walk
import HandS.TupAny
import PySem.Challenge.RW_earlyorlate_k93_kinds_and_times_as_texts
import HandS.Defaults
import HandS.ExcField
import HandS.ExcIs
import KE.KExcIs
import HandS.Finally
import HandS.StrMore
import HandS.TupMul
import PyProof.StrLawsTight
import PyProof.StrLawsJoin
import PyProof.StrOps2
import KE.KIntText
import KE.IntTextText
import KE.IntTextLaws
import HandS.ExcInit
import HandS.Conv
set_option Elab.async false
set_option linter.all false
set_option maxRecDepth 100000
set_option maxHeartbeats 4000000
/- part P0 -/
/-! Early or late: own words over the hand layer. Part 0: defs that know that no repr is under way. -/
namespace EL
open PySem PySem.Spec PyProof.Rows L2
open PySem.W (Frag)

/-- no repr is under way around -/
abbrev Quiet (A : Around) : Prop := A.guards = some []

/-- a def's promise, for callers around which no repr is under way -/
structure FnG (P : Program) (w : World) (K : Frag) (mg : Str → Option Value) (base : Heap) (X : CXT) (k : Nat) (f : Addr) (fd : FuncData) (ps : List Str) (sp : Sp) : Prop where
  len : ∀ vs H Q E, sp vs H Q E → vs.length = ps.length
  run : ∀ (A : Around) (out : List Env) (s : Shared) (H : Hp) (args : Args) (us : List Value) (vs : List V) (Q : VK) (E : XK),
    Room k A → Quiet A → Env0 P w K mg base A out s H → BindsTo s fd args (ps.zip us) → Vals vs us → sp vs H Q E →
    codeAny (model P w) A (.call (.ref f) args) (CR X out P w H s Q E) s

theorem FnG.of {P : Program} {w : World} {K : Frag} {mg : Str → Option Value} {base : Heap} {X : CXT} {k : Nat} {f : Addr} {fd : FuncData} {ps : List Str} {sp : Sp}
    (F : FnOk P w K mg base X k f fd ps sp) : FnG P w K mg base X k f fd ps sp :=
  ⟨F.len, fun A out s H args us vs Q E hr _ he hb hv hs => F.run A out s H args us vs Q E hr he hb hv hs⟩

theorem FnG.up {P : Program} {w : World} {K : Frag} {mg : Str → Option Value} {base : Heap} {X : CXT} {j k : Nat} {f : Addr} {fd : FuncData} {ps : List Str} {sp : Sp}
    (F : FnG P w K mg base X j f fd ps sp) (h : j ≤ k) : FnG P w K mg base X k f fd ps sp :=
  ⟨F.len, fun A out s H args us vs Q E hr => F.run A out s H args us vs Q E (hr.mono h)⟩

/-- the end of a body, told to the caller -/
theorem ended {X : CXT} {P : Program} {w : World} {K : Frag} {mg : Str → Option Value} {base : Heap} {N : List Str} {qual : Str} {sc : Scope} {f : Addr} {cd : Value} {A : Around} {out : List Env}
    {s s' : Shared} {H H' : Hp} {E : XK} {Q : VK} {σ : L2.St} {v : V} {u : Value}
    (J : Inv (cxOf X P w K mg base N qual sc f cd A out s H E) [] σ H' s') (rv : RelV v u) (q : Q v H') : CE out P w H s Q u s' :=
  ⟨v, H', J.os, J.bare, J.base, J.hok, rv, q⟩

theorem fnG_of {X : CXT} {P : Program} {w : World} {K : Frag} {mg : Str → Option Value} {base : Heap} {k : Nat} {x qual : Str} {st : Stmt} {f : Addr} {fd : FuncData} {N ps : List Str} {sp : Sp}
    (F : Fun K x qual st f fd) (S : FnScope N ps (defScope st)) (len : ∀ vs H Q E, sp vs H Q E → vs.length = ps.length)
    (hbody : ∀ (cd : Value) (A : Around) (out : List Env) (s : Shared) (H : Hp) (vs : List V) (Q : VK) (E : XK), Room k (A.deeper (envOfC qual (defScope st) s.heap.objs.size f cd)) →
      Quiet (A.deeper (envOfC qual (defScope st) s.heap.objs.size f cd)) → sp vs H Q E →
      ∃ t, PSs (cxOf X P w K mg base N qual (defScope st) f cd A out s H E) (defBody st) t ∧ t { nx := fun _ H' => Q .non H', rt := Q } (start N vs) H) :
    FnG P w K mg base X (k + 1) f fd ps sp := by
  obtain ⟨oc, od, kV, doc, pm, an, cd, ct, osl, rfl, lk, hcd⟩ := F.ex
  constructor
  · exact len
  intro A out s H args us vs Q E hr hg e0 hb r hsp
  have old : ∀ b o, base.get? b = some o → s.heap.get? b = some o := fun b o e => (e0.bs b o e).1
  have KX := e0.mod.kin.keeps old
  have kinds : ∀ y ∈ ps.zip us, (defScope st).names.lookup y.1 = some .local ∨ ((defScope st).names.lookup y.1 = some .cell ∧ ((cellsFrom (s.heap.objs.size + 1) (defScope st).names []).lookup y.1).isSome = true) := by
    rintro ⟨n, v⟩ hy
    cases S.par n (List.of_mem_zip hy).1 with
    | inl q => exact .inl q
    | inr q => exact .inr ⟨q, PySem.W.cellsFrom_some _ _ _ (.inl q)⟩
  apply codeAny_call_function hr.depth (KX _ _ lk) rfl S.co S.gen rfl (PySem.W.codeRec_of KX hcd)
  apply hb
  apply wpAny_newFunctionEnv_cells S.kind kinds
  rintro env rfl s1 x
  refine ⟨(e0.mod.nolimit.keeps old).keeps x.toInCall.keep, codeAny_func ?_⟩
  obtain ⟨t, ht, hq⟩ := hbody cd A out s H vs Q E (hr.deeper _) hg hsp
  have I := inv_start (CX := X) (E := E) S hr.hd e0 (len _ _ _ _ hsp) r x
  refine wpAny_mono (ht.run [] s1 _ H _ I hq) ?_ (fun _ _ z => z)
  intro fl s' hs
  cases fl with
  | next =>
    obtain ⟨σ', H', J, q⟩ := hs
    exact ended (v := V.non) (u := Value.none) J rfl q
  | ret u =>
    obtain ⟨v, σ', H', J, rv, q⟩ := hs
    exact ended J rv q
  | brk => exact (let ⟨_, _, _, z⟩ := hs; False.elim z)
  | cont => exact (let ⟨_, _, _, z⟩ := hs; False.elim z)

/-- a def of the module by its name: where it stands, how its arguments bind, its promise -/
structure Cal (P : Program) (w : World) (K : Frag) (mg : Str → Option Value) (base : Heap) (CX : CXT) (k : Nat) (x : Str) (ps : List Str) (sp : Sp) : Prop where
  ex : ∃ f fd, mg x = some (.ref f) ∧ PySem.W.keepIn K (.ref f) = true ∧ Binds K fd ps [] ∧ FnOk P w K mg base CX k f fd ps sp
structure CalG (P : Program) (w : World) (K : Frag) (mg : Str → Option Value) (base : Heap) (CX : CXT) (k : Nat) (x : Str) (ps : List Str) (sp : Sp) : Prop where
  ex : ∃ f fd, mg x = some (.ref f) ∧ PySem.W.keepIn K (.ref f) = true ∧ Binds K fd ps [] ∧ FnG P w K mg base CX k f fd ps sp
theorem Cal.g {P : Program} {w : World} {K : Frag} {mg : Str → Option Value} {base : Heap} {CX : CXT} {k : Nat} {x : Str} {ps : List Str} {sp : Sp} (C : Cal P w K mg base CX k x ps sp) : CalG P w K mg base CX k x ps sp := by
  obtain ⟨f, fd, h1, h2, h3, h4⟩ := C.ex
  exact ⟨f, fd, h1, h2, h3, .of h4⟩
section
variable {X : Cx} {CX : CXT} {k : Nat} {x : Str} {ps : List Str} {sp : Sp} {E : XK} {p pos : Pos} {e : Expr} {es : List Expr} {t : TA}
theorem pe_cal (C : Cal X.prog X.w X.K X.mg X.base CX k x ps sp) (hr : Room k X.A) (hx : Passes CX X E) (ha : PA X (e :: es) t) (hg : Gl X x := by rfl) (hdb : (x == ("__debug__" : Str)) = false := by decide)
    (he : starEach (e :: es) X.env = (false, eval e X.env) :: starEach es X.env := by rfl) (hpl : (backTo pos (starEach es X.env)).any (·.1) = false := by rfl) :
    PE X (.Call (.Name x p) (e :: es) [] pos) (tCall sp [] E t) := by
  obtain ⟨f, fd, h1, h2, h3, h4⟩ := C.ex
  exact pe_call h4 hr hg h1 h2 h3 .nil hx ha hdb he hpl
theorem pe_cal0 (C : Cal X.prog X.w X.K X.mg X.base CX k x ps sp) (hr : Room k X.A) (hx : Passes CX X E) (hg : Gl X x := by rfl) (hdb : (x == ("__debug__" : Str)) = false := by decide) :
    PE X (.Call (.Name x p) [] [] pos) (tCall sp [] E tNil) := by
  obtain ⟨f, fd, h1, h2, h3, h4⟩ := C.ex
  exact pe_call0 h4 hr hg h1 h2 h3 .nil hx hdb
theorem run_calG {f : Addr} {fd : FuncData} {pins : List (Addr × Obj)} {σ : L2.St} {H : Hp} {s : Shared} {Q : VK} {us : List Value} {vs : List V} (F : FnG X.prog X.w X.K X.mg X.base CX k f fd ps sp) (hr : Room k X.A) (hq : Quiet X.A) (hb : Binds X.K fd ps [])
    (hx : Passes CX X E) (I : Inv X pins σ H s) (r : Vals vs us) (h : sp vs H Q E) : wpAny (model X.prog X.w) X.A (call (.ref f) us) (EP X pins σ Q) X.xe s := by
  have hl : us.length = ps.length := r.length.symm.trans (F.len _ _ _ _ h)
  have hb1 := hb s us I.kIn (by rw [List.append_nil]; exact hl)
  rw [List.append_nil] at hb1
  refine wpAny_call (codeAny_mono (F.run X.A X.stack s H ⟨us, []⟩ us vs Q E hr hq I.env0 hb1 r h) ?_)
  rintro (e | fl) s' hz
  · exact hx pins σ H s e s' I hz
  · cases fl with
    | ret u => exact I.after hz
    | next => exact False.elim hz
    | brk => exact False.elim hz
    | cont => exact False.elim hz
theorem pe_calG (C : CalG X.prog X.w X.K X.mg X.base CX k x ps sp) (hr : Room k X.A) (hq : Quiet X.A) (hx : Passes CX X E) (ha : PA X (e :: es) t) (hg : Gl X x := by rfl) (hdb : (x == ("__debug__" : Str)) = false := by decide)
    (he : starEach (e :: es) X.env = (false, eval e X.env) :: starEach es X.env := by rfl) (hpl : (backTo pos (starEach es X.env)).any (·.1) = false := by rfl) :
    PE X (.Call (.Name x p) (e :: es) [] pos) (tCall sp [] E t) := by
  obtain ⟨f, fd, h1, h2, h3, h4⟩ := C.ex
  constructor
  intro pins s σ H Q I h
  apply wpAny_Call_Name_kw
  refine ld_glob I hg h1 (PySem.W.callWith_K (h₀ := X.base) I.ok.mod.kin h2 (thn (ha.run pos pins s σ H _ I h) ?_) he hpl) hdb
  rintro us s1 ⟨vs, H1, I1, r, q⟩
  rw [List.append_nil] at q
  exact ⟨I1.kIn, run_calG h4 hr hq h3 hx I1 r q⟩
theorem pe_calG0 (C : CalG X.prog X.w X.K X.mg X.base CX k x ps sp) (hr : Room k X.A) (hq : Quiet X.A) (hx : Passes CX X E) (hg : Gl X x := by rfl) (hdb : (x == ("__debug__" : Str)) = false := by decide) :
    PE X (.Call (.Name x p) [] [] pos) (tCall sp [] E tNil) := by
  obtain ⟨f, fd, h1, h2, h3, h4⟩ := C.ex
  constructor
  intro pins s σ H Q I h
  apply wpAny_Call_Name_kw
  exact ld_glob I hg h1 (PySem.W.callWith_K0 I.kIn h2 (run_calG (us := []) h4 hr hq h3 hx I .nil h)) hdb
end
end EL

/- part P1 -/
/-! the end of a law whose def wants that no repr is under way -/
namespace EL
open PySem PySem.Spec PyProof.Rows L2
open PySem.W (Frag)

theorem law_from {P : Program} {w : World} {K : Frag} {mg mb : Str → Option Value} {CX : CXT} {k : Nat} {fa a : Addr} {fd : FuncData} {x : Str} {sp : Sp} {s : Shared} {vs : List Value} {H : Hp}
    (KX : K.In s.heap) (hns : s.heap.Ns mainGlobals mg) (hb : s.heap.Ns builtinsNs mb) (hbb : ∀ y : Str, y ≠ "__name__" → mb y = bootBuiltins y) (hlim : s.heap.NoLimit) (hg : s.gens = #[])
    (ha : s.heap.get? a = some { cls := .type "list", data := .seq vs.toArray }) (hr : Room k PySem.callerA)
    (F : ∀ base : Heap, K.In base → base.Ns mainGlobals mg → FnG P w K mg base CX k fa fd [x] sp) (hbind : ∀ (s : Shared) (u : Value), BindsTo s fd ⟨[u], []⟩ [(x, u)])
    (hsp : sp [.ref a] H (fun v _ => v = .bl true) fun _ _ _ => False) (hCX : ∀ e s', CX [] H s (fun _ _ _ => False) e s' → False)
    (hO : Only H) (hok : HOk P w H s.heap) (hA : ∀ b, H b ≠ none → b = a) (hK : H a ≠ none → K.lookup a = none) :
    codeAny (model P w) PySem.callerA (.call (.ref fa) ⟨[.ref a], []⟩) (fun r s' => r = .ok (.ret (.bool true)) ∧ OldK s.heap s'.heap ∧ s'.os = s.os ∧ AllBare s'.gens) s := by
  have free : ∀ {b : Addr} {o : Obj}, s.heap.get? b = some o → (b = a → False) ∨ (H b = none) → (hidT s.heap H).get? b = some o := by
    intro b o e z
    apply hidT_get e
    rcases z with z | z
    · cases q : H b with
      | none => rfl
      | some u => exact (z (hA b (by simp [q]))).elim
    · exact z
  have dict : ∀ {b : Addr} {m : Str → Option Value}, s.heap.Ns b m → (hidT s.heap H).Ns b m := by
    rintro b m ⟨o, es, ep, e, d, r⟩
    refine ⟨o, es, ep, free e (.inl fun z => ?_), d, r⟩
    rw [z, ha] at e
    cases e
    exact nomatch d
  have kin : K.In (hidT s.heap H) := by
    intro b o e
    cases q : H b with
    | none => exact free (KX b o e) (.inr q)
    | some u =>
      have ba := hA b (by simp [q])
      rw [ba] at e q
      rw [hK (by simp [q])] at e
      exact nomatch e
  have M : Mod K mg (hidT s.heap H) := ⟨kin, dict hns, ⟨mb, dict hb, hbb⟩, let ⟨mc, h1, h2⟩ := hlim; ⟨mc, dict h1, h2⟩⟩
  have none_in : ∀ b : Addr, b ∉ ([] : List Addr) := fun b z => by simp at z
  have e0 : Env0 P w K mg (hidT s.heap H) PySem.callerA [] s H :=
    { frames := rfl, mod := M, bs := fun b o e => of_hidT e, bsz := Nat.le_of_eq (hidT_size _ _), funs := trivial, frf := fun b z => (none_in b z).elim, hok := hok, bare := .of_eq hg }
  refine codeAny_mono ((F _ kin (dict hns)).run PySem.callerA [] s H _ [.ref a] [.ref a] _ _ hr rfl e0 (hbind s (.ref a)) (.cons rfl .nil) hsp) ?_
  rintro (e | fl) s' hz
  · exact (hCX e s' hz).elim
  · cases fl with
    | next => exact False.elim hz
    | brk => exact False.elim hz
    | cont => exact False.elim hz
    | ret u =>
      obtain ⟨v, H', os, bare, un, hok', r', q⟩ := hz
      have q2 : v = .bl true := q
      rw [q2] at r'
      have u2 : u = Value.bool true := r'
      rw [u2]
      refine ⟨rfl, OldK.of_keep fun b o e => ?_, os, bare⟩
      rcases hO b with z | ⟨ob, xs, z⟩
      · exact un.keep b o e z (none_in b) (none_in b)
      · have e1 := (hok b _ z).1
        rw [e] at e1
        rw [Option.some.inj e1]
        exact (hok' b _ (un.frzs b ob _ z)).1

theorem law_runs {P : Program} {w : World} {K : Frag} {mg mb : Str → Option Value} {CX : CXT} {k : Nat} {fa a : Addr} {fd : FuncData} {x : Str} {sp : Sp} {s : Shared} {vs : List Value} {ns : List Int}
    (KX : K.In s.heap) (hns : s.heap.Ns mainGlobals mg) (hb : s.heap.Ns builtinsNs mb) (hbb : ∀ y : Str, y ≠ "__name__" → mb y = bootBuiltins y) (hlim : s.heap.NoLimit) (hg : s.gens = #[])
    (ha : s.heap.get? a = some { cls := .type "list", data := .seq vs.toArray }) (hi : IntsAre vs ns) (hl : ns.length ≤ sizeLine) (hr : Room k PySem.callerA)
    (F : ∀ base : Heap, K.In base → base.Ns mainGlobals mg → FnG P w K mg base CX k fa fd [x] sp) (hbind : ∀ (s : Shared) (u : Value), BindsTo s fd ⟨[u], []⟩ [(x, u)])
    (hsp : ∀ H : Hp, Only H → SqL K H a (ns.map V.int) → sp [.ref a] H (fun v _ => v = .bl true) fun _ _ _ => False)
    (hCX : ∀ H e s', CX [] H s (fun _ _ _ => False) e s' → False) :
    codeAny (model P w) PySem.callerA (.call (.ref fa) ⟨[.ref a], []⟩) (fun r s' => r = .ok (.ret (.bool true)) ∧ OldK s.heap s'.heap ∧ s'.os = s.os ∧ AllBare s'.gens) s := by
  have rv := vals_ints hi
  by_cases hk : K.lookup a = none
  · let H : Hp := fun b => if b = a then some (.frz { cls := .type "list", data := .seq vs.toArray } (.lst (ns.map V.int))) else none
    have at_ : H a = some (.frz { cls := .type "list", data := .seq vs.toArray } (.lst (ns.map V.int))) := if_pos rfl
    have other : ∀ b, b ≠ a → H b = none := fun b h => if_neg h
    have hO : Only H := fun b => by
      by_cases q : b = a
      · exact .inr ⟨_, _, by rw [q]; exact at_⟩
      · exact .inl (other b q)
    refine law_from (H := H) KX hns hb hbb hlim hg ha hr F hbind (hsp H hO (.inl (.inr ⟨_, at_⟩))) (hCX H) hO ?_ ?_ fun _ => hk
    · intro b u z
      by_cases q : b = a
      · subst q
        rw [at_] at z
        cases z
        refine ⟨ha, ?_, vs, _, rv, ha⟩
        rw [List.length_map]
        exact hl
      · rw [other b q] at z
        exact nomatch z
    · intro b z
      by_cases q : b = a
      · exact q
      · exact (z (other b q)).elim
  · obtain ⟨o, hk⟩ := Option.ne_none_iff_exists'.mp hk
    have e := KX a o hk
    rw [ha] at e
    cases e
    let H : Hp := fun _ => none
    have hO : Only H := fun _ => .inl rfl
    have hS : SqL K H a (ns.map V.int) := .inr ⟨_, vs.toArray, _, hk, rfl, rfl, rfl, by simpa [hi.length] using hl, by simpa using rv⟩
    exact law_from (H := H) KX hns hb hbb hlim hg ha hr F hbind (hsp H hO hS) (hCX H) hO (fun b u z => nomatch (show (none : Option HO) = some u from z)) (fun b z => (z rfl).elim) fun z => (z rfl).elim

theorem walk_law {l : PySem.W.OpenLaw} {n k : Nat} {q : Program} {loose : List Str} {XP : (Str → Option Value) → Heap → Prop} {YP : World → Heap → Prop} {d : DefRec} {K : Params → Frag} {CX : World → CXT} {sp : World → Sp} {x : Str}
    (hn : l.most = some n) (hn2 : n ≤ sizeLine) (hdf : d.params.defaults = []) (hr : Room k PySem.callerA) (hY : ∀ (w : World) (h : Heap), YP w h → (K w.params).In h)
    (F : ∀ (w : World) (mg : Str → Option Value) (fa : Addr) (h : Heap), (K w.params).In h → h.Ns mainGlobals mg → mg d.name = some (.ref fa) →
      ∃ fd : FuncData, (∀ (s : Shared) (u : Value), BindsTo s fd ⟨[u], []⟩ [(x, u)]) ∧ ∀ base : Heap, (K w.params).In base → base.Ns mainGlobals mg → FnG l.prog w (K w.params) mg base (CX w) k fa fd [x] (sp w))
    (hsp : ∀ (w : World) (H : Hp) (a : Addr) (ns : List Int), ns.length ≤ n → Only H → SqL (K w.params) H a (ns.map V.int) → sp w [.ref a] H (fun v _ => v = .bl true) fun _ _ _ => False)
    (hCX : ∀ (w : World) (H : Hp) (s : Shared) (e : Value) (s' : Shared), CX w [] H s (fun _ _ _ => False) e s' → False) :
    PySem.W.WalkO q loose XP YP l.row.toRowW d [] (fun f vs => PySem.call f vs) := by
  refine Att.attach_call hn hdf ?_
  intro w s₀ s₁ mg mb fa o pm cd doc a vs ns G Y ho hd hcd hmg hobj hints hlen hg
  obtain ⟨fd, hb, hF⟩ := F w mg fa _ (hY w _ Y) G.T.g hmg
  exact law_runs (hY w _ Y) G.T.g G.T.b G.T.builtins G.T.nolimit hg hobj hints (Nat.le_trans hlen hn2) hr hF hb (fun H => hsp w H a ns hlen) fun H => hCX w H s₁
end EL

/- part P2 -/
/-! repr of data, where no repr is under way -/
namespace EL
open PySem PySem.Spec PyProof.Rows L2
open PySem.W (Frag)
mutual
theorem dp_nodict {K : Frag} {H : Hp} : ∀ (d : PyData) (v : V), Dp K H v d → d.hasDict = false
  | .none, _, _ => rfl
  | .bool _, _, _ => rfl
  | .int _, _, _ => rfl
  | .str _, _, _ => rfl
  | .list ds, _, h => by
    cases h with
    | lst _ ha => exact dp_nodictAll ds _ ha
  | .tuple ds, _, h => by
    cases h with
    | tup _ ha => exact dp_nodictAll ds _ ha
  | .dict _, _, h => by cases h
theorem dp_nodictAll {K : Frag} {H : Hp} : ∀ (ds : List PyData) (vs : List V), DpAll K H vs ds → PyData.hasDictAll ds = false
  | [], _, _ => rfl
  | d :: ds, _, h => by
    cases h with
    | cons h1 h2 =>
      show (d.hasDict || PyData.hasDictAll ds) = false
      rw [dp_nodict d _ h1, dp_nodictAll ds _ h2]
      rfl
end
/-- what repr hands back of data -/
def rShow (K : Frag) : List V → Hp → VK → Prop := fun xs H Q => ∃ x d, xs = [x] ∧ Dp K H x d ∧ d.showable = true ∧ d.depth ≤ 50 ∧ d.shown.length ≤ sizeLine ∧ Q (.str d.shown) H
theorem call_show {X : Cx} (hq : Quiet X.A) (hu : X.A.units + 64 < cLine) : CallR X (.builtin "repr") (rShow X.K) := by
  rintro pins s σ H xs us Q I r ⟨x, d, rfl, hd, hs, hdep, hlen, q⟩
  cases r with
  | cons rx rn =>
    rename_i u us
    cases rn
    obtain ⟨as, rd⟩ := Dp.reads I d x u hd rx
    have fin : ∀ t k, EP X pins σ Q (.str d.shown t) { s with toks := k } := fun t k => ⟨V.str d.shown, H, I.tok _, ⟨t, rfl⟩, q⟩
    cases rd with
    | none => exact PySem.P.repr_of_none (fin _ _)
    | bool b => exact PySem.P.repr_of_bool (fin _ _)
    | int i t => exact PySem.P.repr_of_int (by simpa [PyData.showable] using hs) (fin _ _)
    | str y t => exact PySem.P.repr_of_str (fin _ _) hlen
    | list h1 h2 h3 h4 =>
      have nd := dp_nodict _ _ hd
      refine repr_of_reads' (h₀ := s.heap) (.list h1 h2 h3 h4) hs (fun z => by rw [nd] at z; cases z) hq (by omega) (fun _ _ e => e) ?_ hlen
      intro h' t tk k
      exact ⟨V.str _, H, I.kept k, ⟨t, rfl⟩, q⟩
    | tuple h1 h2 h3 h4 =>
      have nd := dp_nodict _ _ hd
      refine repr_of_reads' (h₀ := s.heap) (.tuple h1 h2 h3 h4) hs (fun z => by rw [nd] at z; cases z) hq (by omega) (fun _ _ e => e) ?_ hlen
      intro h' t tk k
      exact ⟨V.str _, H, I.kept k, ⟨t, rfl⟩, q⟩
    | dict h1 h2 h3 h4 h5 => cases hd
theorem call_showE {X : Cx} (hq : Quiet X.A) (hu : X.A.units + 64 < cLine) : CallR X (.builtin "repr") (fun xs H Q => ∃ p, xs = [.ref p] ∧ H p = some (.dK []) ∧ Q (.str (PyData.dict []).shown) H) := by
  rintro pins s σ H xs us Q I r ⟨p, rfl, hp, q⟩
  cases r with
  | cons rx rn =>
    rename_i u us
    cases rn
    cases rx
    obtain ⟨_, ns, vs, kv, o, es, ep, ho, ex, hd, _, pr, _⟩ := I.hok p _ hp
    cases kv
    have e0 : es.toList = [] := by
      generalize es.toList = l at pr
      cases pr
      rfl
    have e1 : es = #[] := Array.toList_inj.mp e0
    subst e1
    have hz : X.A.units + ((PyData.dict []).depth + 1) < cLine := by
      have z : (PyData.dict []).depth ≤ 50 := by decide +kernel
      omega
    refine repr_of_reads' (d := .dict []) (h₀ := s.heap) (.dict ho ex.1 hd .nil .nil) (by decide +kernel) (fun _ z => ?_) hq hz (fun _ _ e => e) ?_ (by decide +kernel)
    · have z' : sysModules = p := by simpa using z
      rw [← z'] at ns
      exact absurd ns (by decide)
    · intro h' t tk k
      exact ⟨V.str _, H, I.kept k, ⟨t, rfl⟩, q⟩
/-- repr of data, or of an empty dict -/
def rShowU (K : Frag) : List V → Hp → VK → Prop := fun xs H Q => rShow K xs H Q ∨ ∃ p, xs = [.ref p] ∧ H p = some (.dK []) ∧ Q (.str (PyData.dict []).shown) H
theorem u_show {X : Cx} (hq : Quiet X.A) (hu : X.A.units + 64 < cLine) : CallR X (.builtin "repr") (rShowU X.K) := (call_show hq hu).or (call_showE hq hu)
end EL

/- part E1 -/
/-! enumerate(v, start=k): how it is made -/
namespace EL
open PySem PySem.Spec PyProof.Rows L2
open PySem.W (Frag)
theorem tcall_enum_kw (a b : Value) : checkTypeCall "enumerate" ⟨[a], [("start", b)]⟩ = pure () := by kernel_rfl
theorem ncall_enum_kw (a b : Value) : checkBuiltinCall "enumerate.__new__" ⟨[.type "enumerate", a], [("start", b)]⟩ = pure () := by kernel_rfl
/-- the enumerate object, before its first turn -/
abbrev enumObj (r : Value) (k : Int) : Obj := { cls := .type "enumerate", data := .fields #[.none, .bool false, r, rawInt k, .none, .none] }
set_option maxHeartbeats 2000000 in
theorem meets_enum_kw {v : Value} {rv : Heap → Value} {f : Heap → Heap} {W : Heap → Prop}
    (IT : ∀ (prog : Program) (w : World) (A : Around) (E : Value → Shared → Prop) (s : Shared) (Q : Value → Shared → Prop), W s.heap → Q (rv s.heap) { s with heap := f s.heap } → wpAny (model prog w) A (pyIter v) Q E s)
    (k : Int) (t : Tok) (fit : Builtin.SmallTypes.fitsIndex k = true) :
    Meets (Builtin.«enumerate.__new__» ⟨[.type "enumerate", v], [("start", .int k t)]⟩) (fun _ R s => W s.heap ∧ R (.ok (.ret (.ref (f s.heap).objs.size))) { s with heap := (f s.heap).push (enumObj (rv s.heap) k) }) :=
  .of_wp fun prog w A R s h => by
    obtain ⟨hp, g, d, tk, os⟩ := s
    obtain ⟨h1, h⟩ := h
    have sub := sub_enumerate
    have nf : (!Builtin.SmallTypes.fitsIndex k) = false := by rw [fit]; rfl
    have go : ∀ {A' : Around} {E : Value → Shared → Prop} {Q : Value → Shared → Prop}, Q (rv hp) ⟨f hp, g, d, tk, os⟩ → wpAny (model prog w) A' (pyIter v) Q E ⟨hp, g, d, tk, os⟩ := fun q => IT prog w _ _ ⟨hp, g, d, tk, os⟩ _ h1 q
    wp_walk using go
    refine wpAny_stack_any fun st => wpAny_pure ?_
    split
    · rename_i c _ _ _ _ _
      cases (c == Value.type "enumerate")
      · wp_walk using go
        exact ⟨_, rfl, h⟩
      · wp_walk using go
        exact ⟨_, rfl, h⟩
    · wp_walk using go
      exact ⟨_, rfl, h⟩
end EL

/- part E2 -/
/-! enumerate over any iterator: one turn; zip over two tuples whose pair may still be about -/
namespace EL
open PySem PySem.Spec PyProof.Rows L2
open PySem.W (Frag)
section
variable {prog : Program} {w : World} {A : Around} {E : Value → Shared → Prop} {s : Shared}
theorem alive {a : Addr} {Q : Option Obj → Shared → Prop} (h : Q (s.heap.get? a) s) : wpAny (model prog w) A (loadIfAlive a) Q E s := fun _ _ _ => h
theorem enum_turn {e it : Addr} {c : Int} {old : Value} {R : Value → Heap → Prop} {Q : Value → Shared → Prop} (he : IsEnum s.heap e it c old)
    (inner : ∀ (Q' E' : Value → Shared → Prop), (∀ x h1 tk, IsEnum h1 e it c old → R x h1 → Q' x { s with heap := h1, toks := tk }) → wpAny (model prog w) A (Builtin.SmallTypes.nextOf (.ref it)) Q' E' s)
    (hQ : ∀ x h1 h' tk, R x h1 → e < h1.objs.size → IsEnumOut h' e it (c + 1) x h1.objs.size → h'.get? h1.objs.size = some { cls := .type "tuple", data := .seq #[.int c tk, x] } → h'.objs.size = h1.objs.size + 1 →
      (∀ b o, b ≠ e → h1.get? b = some o → h'.get? b = some o) → Q (.ref h1.objs.size) { s with heap := h', toks := tk + 1 }) :
    wpAny (model prog w) A (Builtin.«enumerate.__next__» ⟨[.ref e], []⟩) (fun fin s' => ∃ v, fin = .done (.ret v) ∧ Q v s') E s := by
  obtain ⟨hp, g, d, tk0, os⟩ := s
  refine wpAny_bind (m := field (.ref e) 2) (wpAny_field he rfl (x := .ref it) rfl (wpAny_bind (inner _ _ fun x h1 tk e1 r1 => ?_)))
  have lt : e < h1.objs.size := Heap.lt_size e1
  refine wpAny_bind (m := field (.ref e) 3) (wpAny_field e1 rfl (x := rawInt c) rfl ?_)
  refine wpAny_bind (m := field (.ref e) 4) (wpAny_field e1 rfl (x := .none) rfl ?_)
  refine wpAny_bind (m := mkInt c) (wpAny_mkInt ?_)
  refine wpAny_bind (m := setField (.ref e) 3 (rawInt (c + 1))) (wpAny_setField_rec e1 (by simp) fun h2 e2 k2 => ?_)
  have e2' : IsEnum h2 e it (c + 1) old := e2
  refine wpAny_bind (m := setField (.ref e) 4 .none) (wpAny_setField_rec e2' (by simp) fun h3 e3 k3 => ?_)
  have e3' : IsEnum h3 e it (c + 1) old := e3
  have z3 : h3.objs.size = h1.objs.size := k3.1.trans k2.1
  have up3 : ∀ b o, b ≠ e → h1.get? b = some o → h3.get? b = some o := fun b o hb q => Heap.SameBut.extBut k3 b o hb (Heap.SameBut.extBut k2 b o hb q)
  refine wpAny_bind (m := newTuple [.int c tk, x]) (wpAny_newTuple ?_)
  have e4 : IsEnum (h3.push { cls := .type "tuple", data := .seq #[.int c tk, x] }) e it (c + 1) old := Heap.get?_push_of_some _ e3'
  have t4 : (h3.push { cls := .type "tuple", data := .seq #[.int c tk, x] }).get? h1.objs.size = some { cls := .type "tuple", data := .seq #[.int c tk, x] } := by
    have q := Heap.get?_push_size h3 (o := { cls := .type "tuple", data := .seq #[.int c tk, x] }) rfl
    rw [z3] at q
    exact q
  have s4 : (h3.push { cls := .type "tuple", data := .seq #[.int c tk, x] }).objs.size = h1.objs.size + 1 := (Heap.size_push ..).trans (by rw [z3])
  have up4 : ∀ b o, b ≠ e → h1.get? b = some o → (h3.push { cls := .type "tuple", data := .seq #[.int c tk, x] }).get? b = some o := fun b o hb q => Heap.get?_push_of_some _ (up3 b o hb q)
  refine wpAny_bind (m := Builtin.SmallTypes.ownedTupleIsFree (.ref e)) ?_
  unfold Builtin.SmallTypes.ownedTupleIsFree
  refine wpAny_bind (m := field (.ref e) 0) (wpAny_field e4 rfl (x := .none) rfl (wpAny_pure ?_))
  rw [if_pos rfl]
  refine wpAny_bind (wpAny_rule (wpAny_bind (wpAny_field e4 rfl (x := old) rfl (wpAny_bind (wpAny_setField_rec e4 (by simp) fun h5 e5 k5 => ?_)))))
  have e5' : IsEnum h5 e it (c + 1) x := e5
  show wpAny _ _ (Builtin.SmallTypes.ownedTupleHandOut (.ref e) (.ref h3.objs.size) >>= _) _ _ _
  rw [z3]
  refine wpAny_bind ?_
  unfold Builtin.SmallTypes.ownedTupleHandOut
  refine wpAny_bind (wpAny_setField_rec e5' (by simp) fun h6 e6 k6 => wpAny_setField_rec e6 (by simp) fun h7 e7 k7 => ?_)
  have up : ∀ b o, b ≠ e → h1.get? b = some o → h7.get? b = some o := fun b o hb q =>
    Heap.SameBut.extBut k7 b o hb (Heap.SameBut.extBut k6 b o hb (Heap.SameBut.extBut k5 b o hb (up4 b o hb q)))
  have ne : h1.objs.size ≠ e := Nat.ne_of_gt lt
  refine wpAny_bind (wpAny_letGo (wpAny_pure ⟨_, rfl, hQ x h1 h7 tk r1 lt e7 ?_ ?_ up⟩))
  · exact Heap.SameBut.extBut k7 _ _ ne (Heap.SameBut.extBut k6 _ _ ne (Heap.SameBut.extBut k5 _ _ ne t4))
  · exact k7.1.trans (k6.1.trans (k5.1.trans s4))
end
end EL

/- part E3 -/
/-! one turn of zip(t1, t2), whatever became of the pair that it handed out last -/
namespace EL
open PySem PySem.Spec PyProof.Rows L2
open PySem.W (Frag)
/-- a zip object; f0 tells the pair that is out, b that it was met alive -/
abbrev zipObj (f0 : Value) (b : Bool) (TI TO : Addr) : Obj := { cls := .type "zip", dict := none, data := .fields #[f0, .bool b, .bool false, .ref TI, .ref TO], slots := #[] }
def OutMark (f0 : Value) : Prop := f0 = .none ∨ ∃ a : Addr, f0 = rawInt a
def ZipAt (h : Heap) (z TI TO : Addr) : Prop := ∃ f0 b, h.get? z = some (zipObj f0 b TI TO) ∧ OutMark f0
/-- the cells of the zip and of its two iterators lie apart -/
structure Apart (z TI TO i1 i2 t1 t2 : Addr) : Prop where
  zTI : z ≠ TI
  zTO : z ≠ TO
  zi1 : z ≠ i1
  zi2 : z ≠ i2
  zt1 : z ≠ t1
  zt2 : z ≠ t2
  TITO : TI ≠ TO
  TIi1 : TI ≠ i1
  TIi2 : TI ≠ i2
  TOi1 : TO ≠ i1
  TOi2 : TO ≠ i2
  TOt1 : TO ≠ t1
  TOt2 : TO ≠ t2
  i12 : i1 ≠ i2
  t1i1 : t1 ≠ i1
  t1i2 : t1 ≠ i2
  t2i1 : t2 ≠ i1
  t2i2 : t2 ≠ i2
section
variable {prog : Program} {w : World} {A : Around} {E : Value → Shared → Prop} {s : Shared} {z TI TO i1 i2 t1 t2 : Addr} {xs ys : Array Value} {i : Nat}
/-- what the zip stands on -/
structure ZipSt (h : Heap) (z TI TO i1 i2 t1 t2 : Addr) (xs ys : Array Value) (i : Nat) : Prop where
  zip : ZipAt h z TI TO
  ti : IsTupOf2 h TI (.ref i1) (.ref i2)
  to : ∃ a b, IsTupOf2 h TO a b
  it1 : h.IsTupleIter i1 t1 i
  it2 : h.IsTupleIter i2 t2 i
  tu1 : h.IsTuple t1 xs
  tu2 : h.IsTuple t2 ys
theorem ext_of {x : Addr} {h h' : Heap} (k : Heap.SameBut x h h') : ∀ b o, b ≠ x → h.get? b = some o → h'.get? b = some o := fun b o hb q => Heap.SameBut.extBut k b o hb q
/-- whether the pair is free: if not, the zip notes it -/
theorem free_or {f0 : Value} {b : Bool} {Q : Bool → Shared → Prop} (hz : s.heap.get? z = some (zipObj f0 b TI TO)) (mark : OutMark f0)
    (h1 : Q true s) (h2 : ∀ h' b', h'.get? z = some (zipObj f0 b' TI TO) → h'.objs.size = s.heap.objs.size → (∀ c o, c ≠ z → s.heap.get? c = some o → h'.get? c = some o) → Q false { s with heap := h' }) :
    wpAny (model prog w) A (Builtin.SmallTypes.ownedTupleIsFree (.ref z)) Q E s := by
  unfold Builtin.SmallTypes.ownedTupleIsFree
  rcases mark with rfl | ⟨a, rfl⟩
  · exact wpAny_bind (wpAny_field hz rfl (x := .none) rfl (wpAny_pure h1))
  · refine wpAny_bind (wpAny_field hz rfl (x := rawInt a) rfl ?_)
    refine wpAny_bind (alive ?_)
    have ea : ((a : Nat) : Int).toNat = a := rfl
    cases hal : s.heap.get? ((a : Nat) : Int).toNat with
    | none => exact wpAny_pure h1
    | some o =>
      refine wpAny_bind (m := field (.ref z) 1) (wpAny_field hz rfl (x := .bool b) rfl ?_)
      cases b with
      | true => exact wpAny_pure (h2 s.heap true hz rfl fun _ _ _ q => q)
      | false =>
        refine wpAny_bind (m := setField (.ref z) 1 (.bool true)) (wpAny_setField_rec hz (by simp) fun h' e' k' => wpAny_pure ?_)
        exact h2 h' true e' k'.1 (ext_of k')
theorem drawn {it t : Addr} {vs : Array Value} {v : Value} {Q : Value → Shared → Prop} (hit : s.heap.IsTupleIter it t i) (ht : s.heap.IsTuple t vs) (hv : vs[i]? = some v)
    (h : ∀ h', h'.IsTupleIter it t (i + 1) → Heap.SameBut it s.heap h' → Q v { s with heap := h' }) : wpAny (model prog w) A (Builtin.SmallTypes.nextOf (.ref it)) Q E s :=
  wpAny_nextOf_tuple_item hit ht hv h
theorem zip_turn {x y : Value} {Q : Value → Shared → Prop} (ap : Apart z TI TO i1 i2 t1 t2) (st : ZipSt s.heap z TI TO i1 i2 t1 t2 xs ys i) (hx : xs[i]? = some x) (hy : ys[i]? = some y)
    (hQ : ∀ h' tk, ZipSt h' z TI TO i1 i2 t1 t2 xs ys (i + 1) → IsTupOf2 h' s.heap.objs.size x y → h'.objs.size = s.heap.objs.size + 1 →
      (∀ c o, c ≠ z → c ≠ TO → c ≠ i1 → c ≠ i2 → s.heap.get? c = some o → h'.get? c = some o) → Q (.ref s.heap.objs.size) { s with heap := h', toks := tk }) :
    wpAny (model prog w) A (Builtin.«zip.__next__» ⟨[.ref z], []⟩) (fun fin s' => ∃ v, fin = .done (.ret v) ∧ Q v s') E s := by
  obtain ⟨⟨f0, b, hz, mark⟩, hti, ⟨a0, b0, hto⟩, h1, h2, u1, u2⟩ := st
  obtain ⟨hp, g, d, tk0, os⟩ := s
  replace hz : hp.get? z = some (zipObj f0 b TI TO) := hz
  replace hti : IsTupOf2 hp TI (.ref i1) (.ref i2) := hti
  replace hto : IsTupOf2 hp TO a0 b0 := hto
  replace h1 : hp.IsTupleIter i1 t1 i := h1
  replace h2 : hp.IsTupleIter i2 t2 i := h2
  replace u1 : hp.IsTuple t1 xs := u1
  replace u2 : hp.IsTuple t2 ys := u2
  refine wpAny_bind (m := field (.ref z) 2) (wpAny_field hz rfl (x := .bool false) rfl ?_)
  refine wpAny_bind (m := field (.ref z) 3) (wpAny_field hz rfl (x := .ref TI) rfl ?_)
  refine wpAny_bind (wpAny_seqItems hti rfl ?_)
  have lz : z < hp.objs.size := Heap.lt_size hz
  have an := ap
  refine wpAny_bind (free_or hz mark ?_ ?_)
  · rw [if_pos rfl]
    refine wpAny_bind (wpAny_rule (wpAny_bind (wpAny_field hz rfl (x := .ref TO) rfl (wpAny_bind (wpAny_setField_rec hz (by simp) fun g0 z0 k0 => ?_)))))
    replace z0 : g0.get? z = some (zipObj .ellipsis b TI TO) := z0
    replace k0 : Heap.SameBut z hp g0 := k0
    refine wpAny_bind ?_
    simp only [List.zipIdx_cons, List.zipIdx_nil, List.forIn_cons, List.forIn_nil]
    refine wpAny_bind (wpAny_bind (wpAny_onRaise ?_))
    show wpAny _ _ (Builtin.SmallTypes.nextOf (.ref i1) >>= _) _ _ ⟨g0, g, d, tk0, os⟩
    refine wpAny_bind (drawn (s := ⟨g0, g, d, tk0, os⟩) (h1.at fun o q => ext_of k0 _ _ ap.zi1.symm q) (u1.at fun o q => ext_of k0 _ _ ap.zt1.symm q) hx fun g1 n1 k1 => wpAny_pure ?_)
    replace k1 : Heap.SameBut i1 g0 g1 := k1
    have to1 : IsTupOf2 g1 TO a0 b0 := ext_of k1 _ _ ap.TOi1 (ext_of k0 _ _ ap.zTO.symm hto)
    refine wpAny_bind (wpAny_seqItems (s := ⟨g1, g, d, tk0, os⟩) to1 rfl ?_)
    refine wpAny_bind (updateSeq_IsTupOf2 (s := ⟨g1, g, d, tk0, os⟩) to1 fun g2 to2 k2 => ?_)
    replace k2 : Heap.SameBut TO g1 g2 := k2
    replace to2 : IsTupOf2 g2 TO x b0 := to2
    refine wpAny_bind (wpAny_letGo (wpAny_pure ?_))
    refine wpAny_bind (wpAny_bind (wpAny_onRaise ?_))
    show wpAny _ _ (Builtin.SmallTypes.nextOf (.ref i2) >>= _) _ _ ⟨g2, g, d, tk0, os⟩
    refine wpAny_bind (drawn (s := ⟨g2, g, d, tk0, os⟩) (h2.at fun o q => ext_of k2 _ _ ap.TOi2.symm (ext_of k1 _ _ ap.i12.symm (ext_of k0 _ _ ap.zi2.symm q)))
      (u2.at fun o q => ext_of k2 _ _ ap.TOt2.symm (ext_of k1 _ _ ap.t2i1 (ext_of k0 _ _ ap.zt2.symm q))) hy fun g3 n3 k3 => wpAny_pure ?_)
    replace k3 : Heap.SameBut i2 g2 g3 := k3
    have to3 : IsTupOf2 g3 TO x b0 := ext_of k3 _ _ ap.TOi2 to2
    refine wpAny_bind (wpAny_seqItems (s := ⟨g3, g, d, tk0, os⟩) to3 rfl ?_)
    refine wpAny_bind (updateSeq_IsTupOf2 (s := ⟨g3, g, d, tk0, os⟩) to3 fun g4 to4 k4 => ?_)
    replace k4 : Heap.SameBut TO g3 g4 := k4
    replace to4 : IsTupOf2 g4 TO x y := to4
    refine wpAny_bind (wpAny_letGo (wpAny_pure (wpAny_pure ?_)))
    refine wpAny_bind (wpAny_seqItems (s := ⟨g4, g, d, tk0, os⟩) to4 rfl (wpAny_bind (wpAny_newTuple ?_)))
    have z4 : g4.objs.size = hp.objs.size := by rw [k4.1, k3.1, k2.1, k1.1, k0.1]
    have up4 : ∀ c o, c ≠ z → c ≠ TO → c ≠ i1 → c ≠ i2 → hp.get? c = some o → g4.get? c = some o := fun c o cz cT c1 c2 q =>
      ext_of k4 _ _ cT (ext_of k3 _ _ c2 (ext_of k2 _ _ cT (ext_of k1 _ _ c1 (ext_of k0 _ _ cz q))))
    have zz4 : g4.get? z = some (zipObj .ellipsis b TI TO) := ext_of k4 _ _ ap.zTO (ext_of k3 _ _ ap.zi2 (ext_of k2 _ _ ap.zTO (ext_of k1 _ _ ap.zi1 z0)))
    generalize e5 : g4.push { cls := .type "tuple", data := .seq (#[x, y] : Array Value) } = g5
    have up5 : ∀ c o, g4.get? c = some o → g5.get? c = some o := fun c o q => by rw [← e5]; exact Heap.get?_push_of_some _ q
    have tt5 : IsTupOf2 g5 hp.objs.size x y := by rw [← e5, ← z4]; exact Heap.get?_push_size _ rfl
    have z5 : g5.objs.size = hp.objs.size + 1 := by rw [← e5, Heap.size_push, z4]
    refine wpAny_bind ?_
    show wpAny _ _ (Builtin.SmallTypes.ownedTupleHandOut (.ref z) (.ref g4.objs.size)) _ _ _
    unfold Builtin.SmallTypes.ownedTupleHandOut
    have z5' : g5.get? z = some (zipObj .ellipsis b TI TO) := up5 _ _ zz4
    refine wpAny_bind (wpAny_setField_rec z5' (by simp) fun g6 z6 k6 => ?_)
    replace k6 : Heap.SameBut z g5 g6 := k6
    refine wpAny_setField_rec z6 (by simp) fun g7 z7 k7 => ?_
    replace k7 : Heap.SameBut z g6 g7 := k7
    have up7 : ∀ c o, c ≠ z → g4.get? c = some o → g7.get? c = some o := fun c o cz q => ext_of k7 _ _ cz (ext_of k6 _ _ cz (up5 _ _ q))
    have nz : hp.objs.size ≠ z := Nat.ne_of_gt lz
    refine wpAny_pure ⟨_, rfl, ?_⟩
    show Q (.ref g4.objs.size) ⟨g7, g, d, tk0, os⟩
    rw [z4]
    refine hQ g7 tk0 ⟨⟨rawInt g4.objs.size, false, z7, .inr ⟨_, rfl⟩⟩, ?_, ⟨x, y, up7 _ _ ap.zTO.symm to4⟩, ?_, ?_, ?_, ?_⟩ ?_ ?_ ?_
    · exact up7 _ _ ap.zTI.symm (up4 _ _ ap.zTI.symm ap.TITO ap.TIi1 ap.TIi2 hti)
    · exact n1.at fun o q => up7 _ _ ap.zi1.symm (ext_of k4 _ _ ap.TOi1.symm (ext_of k3 _ _ ap.i12 (ext_of k2 _ _ ap.TOi1.symm q)))
    · exact n3.at fun o q => up7 _ _ ap.zi2.symm (ext_of k4 _ _ ap.TOi2.symm q)
    · exact u1.at fun o q => up7 _ _ ap.zt1.symm (up4 _ _ ap.zt1.symm ap.TOt1.symm ap.t1i1 ap.t1i2 q)
    · exact u2.at fun o q => up7 _ _ ap.zt2.symm (up4 _ _ ap.zt2.symm ap.TOt2.symm ap.t2i1 ap.t2i2 q)
    · exact ext_of k7 _ _ nz (ext_of k6 _ _ nz tt5)
    · rw [k7.1, k6.1, z5]
    · exact fun c o cz cT c1 c2 q => up7 _ _ cz (up4 c o cz cT c1 c2 q)
  · intro h0 b' z0 s0 k0
    replace s0 : h0.objs.size = hp.objs.size := s0
    replace k0 : ∀ c o, c ≠ z → hp.get? c = some o → h0.get? c = some o := k0
    rw [if_neg (by decide)]
    refine wpAny_bind ?_
    simp only [List.forIn_toArray, List.forIn_cons, List.forIn_nil]
    refine wpAny_bind (wpAny_bind (wpAny_holding ?_))
    show wpAny _ _ (Builtin.SmallTypes.nextOf (.ref i1) >>= _) _ _ ⟨h0, g, d, tk0, os⟩
    refine wpAny_bind (drawn (s := ⟨h0, g, d, tk0, os⟩) (h1.at fun o q => k0 _ _ ap.zi1.symm q) (u1.at fun o q => k0 _ _ ap.zt1.symm q) hx fun g1 n1 k1 => wpAny_pure ?_)
    replace k1 : Heap.SameBut i1 h0 g1 := k1
    refine wpAny_pure ?_
    refine wpAny_bind (wpAny_bind (wpAny_holding ?_))
    show wpAny _ _ (Builtin.SmallTypes.nextOf (.ref i2) >>= _) _ _ ⟨g1, g, d, tk0, os⟩
    refine wpAny_bind (drawn (s := ⟨g1, g, d, tk0, os⟩) (h2.at fun o q => ext_of k1 _ _ ap.i12.symm (k0 _ _ ap.zi2.symm q)) (u2.at fun o q => ext_of k1 _ _ ap.t2i1 (k0 _ _ ap.zt2.symm q)) hy fun g2 n2 k2 => wpAny_pure ?_)
    replace k2 : Heap.SameBut i2 g1 g2 := k2
    refine wpAny_pure (wpAny_pure ?_)
    refine wpAny_bind (wpAny_newTuple ?_ (by show 2 ≤ sizeLine; decide))
    have z2 : g2.objs.size = hp.objs.size := by rw [k2.1, k1.1, s0]
    have up : ∀ c o, c ≠ z → c ≠ i1 → c ≠ i2 → hp.get? c = some o → (g2.push { cls := .type "tuple", data := .seq (#[x, y] : Array Value) }).get? c = some o := fun c o cz c1 c2 q =>
      Heap.get?_push_of_some _ (ext_of k2 _ _ c2 (ext_of k1 _ _ c1 (k0 _ _ cz q)))
    refine wpAny_pure ⟨_, rfl, ?_⟩
    show Q (.ref g2.objs.size) ⟨g2.push { cls := .type "tuple", data := .seq (#[x, y] : Array Value) }, g, d, tk0, os⟩
    rw [z2]
    refine hQ _ tk0 ⟨⟨f0, b', Heap.get?_push_of_some _ (ext_of k2 _ _ ap.zi2 (ext_of k1 _ _ ap.zi1 z0)), mark⟩, up _ _ ap.zTI.symm ap.TIi1 ap.TIi2 hti, ⟨a0, b0, up _ _ ap.zTO.symm ap.TOi1 ap.TOi2 hto⟩, ?_, ?_, ?_, ?_⟩ ?_ ?_ ?_
    · exact n1.at fun o q => Heap.get?_push_of_some _ (ext_of k2 _ _ ap.i12 q)
    · exact n2.at fun o q => Heap.get?_push_of_some _ q
    · exact u1.at fun o q => up _ _ ap.zt1.symm ap.t1i1 ap.t1i2 q
    · exact u2.at fun o q => up _ _ ap.zt2.symm ap.t2i1 ap.t2i2 q
    · have q := Heap.get?_push_size g2 (o := { cls := .type "tuple", data := .seq (#[x, y] : Array Value) }) rfl
      rw [z2] at q
      exact q
    · rw [Heap.size_push, z2]
    · exact fun c o cz cT c1 c2 q => up c o cz c1 c2 q
end
end EL

/- part E4 -/
/-! for i, x in enumerate(t, start=k) over a tuple; for i, (x, y) in enumerate(zip(t, u), start=k) over two tuples of one length -/
namespace EL
open PySem PySem.Spec PyProof.Rows L2
open PySem.W (Frag)
section
variable {prog : Program} {w : World} {A : Around} {E : Value → Shared → Prop} {s : Shared} {z TI TO i1 i2 t1 t2 : Addr} {xs ys : Array Value} {i : Nat}
theorem zip_over {Q : Fin → Shared → Prop} (hh : A.handled = none) (ap : Apart z TI TO i1 i2 t1 t2) (st : ZipSt s.heap z TI TO i1 i2 t1 t2 xs ys i) (hx : xs[i]? = none)
    (hE : ∀ h' e, (∀ c o, c ≠ z → c ≠ TO → c ≠ i1 → c ≠ i2 → s.heap.get? c = some o → h'.get? c = some o) → (∃ o, h'.get? e = some o ∧ o.cls = .type "StopIteration") → E (.ref e) { s with heap := h' }) :
    wpAny (model prog w) A (Builtin.«zip.__next__» ⟨[.ref z], []⟩) Q E s := by
  obtain ⟨⟨f0, b, hz, mark⟩, hti, ⟨a0, b0, hto⟩, h1, h2, u1, u2⟩ := st
  obtain ⟨hp, g, d, tk0, os⟩ := s
  replace hz : hp.get? z = some (zipObj f0 b TI TO) := hz
  replace h1 : hp.IsTupleIter i1 t1 i := h1
  replace u1 : hp.IsTuple t1 xs := u1
  refine wpAny_bind (m := field (.ref z) 2) (wpAny_field hz rfl (x := .bool false) rfl ?_)
  refine wpAny_bind (m := field (.ref z) 3) (wpAny_field hz rfl (x := .ref TI) rfl ?_)
  refine wpAny_bind (wpAny_seqItems hti rfl ?_)
  refine wpAny_bind (free_or hz mark ?_ ?_)
  · rw [if_pos rfl]
    refine wpAny_bind (wpAny_rule (wpAny_bind (wpAny_field hz rfl (x := .ref TO) rfl (wpAny_bind (wpAny_setField_rec hz (by simp) fun g0 z0 k0 => ?_)))))
    replace z0 : g0.get? z = some (zipObj .ellipsis b TI TO) := z0
    replace k0 : Heap.SameBut z hp g0 := k0
    refine wpAny_bind ?_
    simp only [List.zipIdx_cons, List.zipIdx_nil, List.forIn_cons, List.forIn_nil]
    refine wpAny_bind (wpAny_bind (wpAny_onRaise ?_))
    show wpAny _ _ (Builtin.SmallTypes.nextOf (.ref i1) >>= _) _ _ ⟨g0, g, d, tk0, os⟩
    refine wpAny_bind (wpAny_nextOf_tuple_end (s := ⟨g0, g, d, tk0, os⟩) hh (h1.at fun o q => ext_of k0 _ _ ap.zi1.symm q) (u1.at fun o q => ext_of k0 _ _ ap.zt1.symm q) hx fun g1 e k1 he => ?_)
    replace k1 : Heap.ExtBut i1 g0 g1 := k1
    obtain ⟨oe, he, hc⟩ := he
    replace he : g1.get? e = some oe := he
    have z1 : g1.get? z = some (zipObj .ellipsis b TI TO) := k1 _ _ ap.zi1 z0
    have ez : e ≠ z := by
      rintro rfl
      rw [z1] at he
      cases he
      simp at hc
    refine wpAny_setField_rec (s := ⟨g1, g, d, tk0, os⟩) z1 (by simp) fun g2 _ k2 => ?_
    replace k2 : Heap.SameBut z g1 g2 := k2
    exact hE g2 e (fun c o cz cT c1 c2 q => ext_of k2 _ _ cz (k1 _ _ c1 (ext_of k0 _ _ cz q))) ⟨oe, ext_of k2 _ _ ez he, hc⟩
  · intro h0 b' z0 s0 k0
    replace k0 : ∀ c o, c ≠ z → hp.get? c = some o → h0.get? c = some o := k0
    rw [if_neg (by decide)]
    refine wpAny_bind ?_
    simp only [List.forIn_toArray, List.forIn_cons, List.forIn_nil]
    refine wpAny_bind (wpAny_bind (wpAny_holding ?_))
    show wpAny _ _ (Builtin.SmallTypes.nextOf (.ref i1) >>= _) _ _ ⟨h0, g, d, tk0, os⟩
    refine wpAny_bind (wpAny_nextOf_tuple_end (s := ⟨h0, g, d, tk0, os⟩) hh (h1.at fun o q => k0 _ _ ap.zi1.symm q) (u1.at fun o q => k0 _ _ ap.zt1.symm q) hx fun g1 e k1 he => ?_)
    replace k1 : Heap.ExtBut i1 h0 g1 := k1
    exact hE g1 e (fun c o cz cT c1 c2 q => k1 _ _ c1 (k0 _ _ cz q)) he
theorem zipType {f0 : Value} {b : Bool} (hz : s.heap.get? z = some (zipObj f0 b TI TO)) : s.TypeIs (.ref z) "zip" := ⟨_, hz, rfl⟩
/-- next(z) within a built-in -/
theorem zip_drawn {Q E' : Value → Shared → Prop} (hz : ZipAt s.heap z TI TO) (h : wpAny (model prog w) A.in1 (Builtin.«zip.__next__» ⟨[.ref z], []⟩) (fun fin s' => ∃ v, fin = .done (.ret v) ∧ Q v s') E' s) :
    wpAny (model prog w) A (Builtin.SmallTypes.nextOf (.ref z)) Q E' s := by
  obtain ⟨f0, b, e, _⟩ := hz
  unfold Builtin.SmallTypes.nextOf
  refine wpAny_bind (wpAny_callSpecial?_slot (name := Str.ofString "__next__") (zipType e) F.slot_zip_next (wpAny_call_entry F.slot_zip_next (zipType e) F.entry_zip_next ?_ (F.args_zip_next_1 _)))
  refine wpAny_mono h ?_ (fun _ _ q => q)
  rintro fin s' ⟨v, rfl, q⟩
  exact ⟨v, rfl, wpAny_pure q⟩
theorem zip_itself {Q : Value → Shared → Prop} (hz : ZipAt s.heap z TI TO) (h : Q (.ref z) s) : wpAny (model prog w) A (pyIter (.ref z)) Q E s := by
  obtain ⟨f0, b, e, _⟩ := hz
  exact wpAny_pyIter_slot (zipType e) F.slot_zip_iter (wpAny_call_entry F.slot_zip_iter (zipType e) F.entry_zip_iter (wpAny_pure ⟨_, rfl, "zip", _, zipType e, F.slot_zip_next.lookup, h⟩) (F.args_zip_iter_1 _))
end
/-- enumerate(v, start=k) as a call -/
theorem enum_made {prog : Program} {w : World} {A : Around} {E : Value → Shared → Prop} {s : Shared} {v : Value} {rv : Heap → Value} {f : Heap → Heap} {W : Heap → Prop} {k : Int} {t : Tok} {Q : Value → Shared → Prop}
    (IT : ∀ (prog : Program) (w : World) (A : Around) (E : Value → Shared → Prop) (s : Shared) (Q : Value → Shared → Prop), W s.heap → Q (rv s.heap) { s with heap := f s.heap } → wpAny (model prog w) A (pyIter v) Q E s)
    (h0 : -(2 ^ 63) ≤ k) (h1 : k < 2 ^ 63) (hw : W s.heap)
    (h : Q (.ref (f s.heap).objs.size) { s with heap := (f s.heap).push (enumObj (rv s.heap) k) }) :
    wpAny (model prog w) A (call (.type "enumerate") [v] [(Str.ofString "start", .int k t)]) Q E s := by
  refine callType_newKw F.called_enumerate (by decide) (F.typeCall_enumerate_start _ _) (F.newCall_enumerate_start _ _) (fun obj => F.args_object_init_start obj _ _) F.entry_enumerate_new (meets_enum_kw IT k t (fits_start h0 h1)) ⟨hw, ?_⟩
  exact ⟨⟨_, Heap.get?_push_size _ rfl, rfl⟩, h⟩
/-- the keyword call of a built-in type -/
theorem callType_kw {M : Model} {A : Around} {E : Value → Shared → Prop} {s : Shared} {env : Env} {pos : Pos} {T : String} {e : Expr} {rest : List Expr} {kws : List Keyword} {Q : Value → Shared → Prop}
    (h : wpAny M A (spliced (backTo pos (starEach (e :: rest) env))) (fun vs s1 => wpAny M A (evalAll ((backToKw pos (keywordEach kws env)).map (·.2)))
      (fun us s2 => wpAny M A (call (.type T) vs (((backToKw pos (keywordEach kws env)).filterMap (·.1)).zip us)) Q E s2) E s1) E s)
    (he : starEach (e :: rest) env = (false, eval e env) :: starEach rest env) (hp : (backTo pos (starEach (e :: rest) env)).any (·.1) = false)
    (ha : (backToKw pos (keywordEach kws env)).all (·.1.isSome) = true) (hn : (backToKw pos (keywordEach kws env)).any (·.1.isNone) = false) :
    wpAny M A (callWith pos (.type T) [] (backTo pos (starEach (e :: rest) env)) (backToKw pos (keywordEach kws env))) Q E s := by
  have z := evalArgs_kw2 (f := .type T) (Q := fun a s1 => wpAny M A (call (.type T) a.pos a.kw) Q E s1) ha h he
  unfold callWith
  refine wpAny_bind (wpAny_holding (wpAny_mono z (fun a s1 q => wpAny_bind (wpAny_standAt ?_)) fun _ _ q => q))
  rw [hp, hn]
  simp only [Bool.or_false]
  refine wpAny_bind (wpAny_pure ?_)
  exact wpAny_bind (wpAny_mono q (fun r s2 hr => wpAny_bind (wpAny_holding (wpAny_point (wpAny_pure hr)))) fun _ _ q => q)
end EL

/- part E5 -/
namespace EL
open PySem PySem.Spec PyProof.Rows L2
open PySem.W (Frag)
/-! ### enumerate(zip(t, u), start=k) -/
/-- each turn: a new pair of the two items, a new pair of the count and that pair -/
def Itez (K : Frag) (a b : Addr) (k : Int) : It :=
  ⟨fun i H => ∃ (xs ys : List V) (x y : V), SqT K H a xs ∧ SqT K H b ys ∧ xs[i]? = some x ∧ ys[i]? = some y,
    fun i H v H' => ∃ (T0 T1 : Addr) (x y : V), v = .ref T1 ∧ H T0 = none ∧ H T1 = none ∧ T0 ≠ T1 ∧ H' = upd (upd H T0 (.tup [x, y])) T1 (.tup [.int (k + i), .ref T0]) ∧ (∀ xs, SqT K H a xs → xs[i]? = some x) ∧ ∀ ys, SqT K H b ys → ys[i]? = some y,
    fun i H => ∃ xs ys : List V, SqT K H a xs ∧ SqT K H b ys ∧ xs.length ≤ i⟩
def TurnEz (e z TI TO i1 i2 t1 t2 : Addr) (k : Int) (i : Nat) (h : Heap) : Prop :=
  (∃ old, IsEnum h e z (k + i) old) ∧ ZipAt h z TI TO ∧ IsTupOf2 h TI (.ref i1) (.ref i2) ∧ (∃ a b, IsTupOf2 h TO a b) ∧ h.IsTupleIter i1 t1 i ∧ h.IsTupleIter i2 t2 i
theorem fp_mem {e z TI TO i1 i2 b : Addr} (h : b ∈ [e, z, TI, TO, i1, i2]) : b = e ∨ b = z ∨ b = TI ∨ b = TO ∨ b = i1 ∨ b = i2 := by simpa using h
theorem fpOk_upd {X : Cx} {pins : List (Addr × Obj)} {H : Hp} {b T : Addr} {o : HO} (f : FpOk X pins H b) (h : b ≠ T) : FpOk X pins (upd H T o) b :=
  ⟨by rw [upd_ne h]; exact f.1, f.2⟩
theorem turn_ez {P : Program} {w : World} {K : Frag} {elts : List Expr} {kk : Nat} {tpos : Pos} {e z TI TO i1 i2 t1 t2 : Addr} {k : Int} (ap : Apart z TI TO i1 i2 t1 t2)
    (ne : ∀ b ∈ [z, TI, TO, i1, i2], e ≠ b) (te1 : t1 ≠ e) (te2 : t2 ≠ e) :
    Turn P w K (.Tuple elts kk tpos) (Itez K t1 t2 k) [e, z, TI, TO, i1, i2] e (TurnEz e z TI TO i1 i2 t1 t2 k) where
  mem := by simp
  obj := fun i h st b hb => by
    obtain ⟨⟨old, he⟩, ⟨f0, b0, hz, _⟩, hti, ⟨a1, a2, hto⟩, ⟨o1, q1, _, d1⟩, ⟨o2, q2, _, d2⟩⟩ := st
    rcases fp_mem hb with q | q | q | q | q | q <;> subst q
    · exact ⟨_, he, fun v q => nomatch q⟩
    · exact ⟨_, hz, fun v q => nomatch q⟩
    · exact ⟨_, hti, fun v q => nomatch q⟩
    · exact ⟨_, hto, fun v q => nomatch q⟩
    · exact ⟨o1, q1, fun v q => by rw [d1] at q; cases q⟩
    · exact ⟨o2, q2, fun v q => by rw [d2] at q; cases q⟩
  keep := fun i h h' st kp => by
    obtain ⟨⟨old, he⟩, ⟨f0, b0, hz, m⟩, hti, ⟨a1, a2, hto⟩, h1, h2⟩ := st
    exact ⟨⟨old, kp e (by simp) _ he⟩, ⟨f0, b0, kp z (by simp) _ hz, m⟩, kp TI (by simp) _ hti, ⟨a1, a2, kp TO (by simp) _ hto⟩, h1.at fun o q => kp i1 (by simp) o q, h2.at fun o q => kp i2 (by simp) o q⟩
  item := by
    intro X hP hw hK hc i pins s σ H E I hf st hg
    subst hP hw hK
    obtain ⟨⟨old, he⟩, hz, hti, hto, h1, h2⟩ := st
    obtain ⟨xs, ys, x, y, hqx, hqy, hx, hy⟩ := hg
    obtain ⟨its, rv, p, _⟩ := I.tuple hqx
    obtain ⟨its2, rv2, p2, _⟩ := I.tuple hqy
    obtain ⟨u, hu, ru⟩ := rv.get hx
    obtain ⟨u2, hu2, ru2⟩ := rv2.get hy
    have old_lt : ∀ {b o}, s.heap.get? b = some o → b < s.heap.objs.size := fun q => Heap.lt_size q
    have le : e < s.heap.objs.size := old_lt he
    have typ : s.TypeIs (.ref e) "enumerate" := ⟨_, he, rfl⟩
    have ez : e ≠ z := ne z (by simp)
    unfold pyNext
    refine wpAny_bind (wpAny_attempt (wpAny_callSpecial?_slot (name := Str.ofString "__next__") typ F.slot_enumerate_next (wpAny_call_entry F.slot_enumerate_next typ F.entry_enumerate_next
      (wpAny_mono (enum_turn (R := fun v h1 => v = .ref s.heap.objs.size ∧ ZipSt h1 z TI TO i1 i2 t1 t2 its.toArray its2.toArray (i + 1) ∧ IsTupOf2 h1 s.heap.objs.size u u2 ∧ h1.objs.size = s.heap.objs.size + 1 ∧
          ∀ c o, c ≠ z → c ≠ TO → c ≠ i1 → c ≠ i2 → s.heap.get? c = some o → h1.get? c = some o)
        (Q := fun v s' => wpAny (model X.prog X.w) X.A (letOwnedTupleGo (.Tuple elts kk tpos) (.ref e) v) (fun _ s2 => ∃ x H', Inv X pins σ H' s2 ∧ RelV x v ∧ (Itez X.K t1 t2 k).yld i H x H' ∧ TurnEz e z TI TO i1 i2 t1 t2 k (i + 1) s2.heap ∧ ∀ b ∈ [e, z, TI, TO, i1, i2], H' b = none) E s')
        he (fun Q' E' hq => zip_drawn hz (zip_turn ap ⟨hz, hti, hto, h1, h2, p, p2⟩ (by simpa using hu) (by simpa using hu2) fun h' tk st' t' z' k' => hq _ h' tk ?_ ⟨rfl, st', t', z', k'⟩)) ?_) ?_ (fun _ _ q => q)) (F.args_enumerate_next_1 _))))
    · exact k' e _ ez (ne TO (by simp)) (ne i1 (by simp)) (ne i2 (by simp)) he
    · rintro v g1 g2 tk ⟨rfl, st1, pr, z1, k1⟩ _ eo tp z2 k2
      have lt1 : e < g1.objs.size := by rw [z1]; exact Nat.lt_succ_of_lt le
      refine wpAny_letOwnedTupleGo_enum (s := { s with heap := g2, toks := tk + 1 }) eo fun g3 e3 k3 => ?_
      replace k3 : Heap.SameBut e g2 g3 := k3
      -- the pair of the zip, then the pair of the enumerate
      have I1 : Inv X pins σ (upd H s.heap.objs.size (.tup [x, y])) { s with heap := g1, toks := tk } :=
        I.turnedNew (ch := [z, TO, i1, i2]) (fun c o hc q => k1 c o (fun q' => hc (by simp [q'])) (fun q' => hc (by simp [q'])) (fun q' => hc (by simp [q'])) (fun q' => hc (by simp [q'])) q)
          (fun b hb => hf b (by
            have q : b = z ∨ b = TO ∨ b = i1 ∨ b = i2 := by simpa using hb
            rcases q with q | q | q | q <;> simp [q])) (Nat.le_refl _)
          ⟨by show 2 ≤ sizeLine; decide, [u, u2], .cons ru (.cons ru2 .nil), ⟨_, pr, rfl, _, rfl⟩⟩
      have n1 : e ≠ s.heap.objs.size := Nat.ne_of_lt le
      have T1 : g3.get? g1.objs.size = some { cls := .type "tuple", data := .seq #[.int (k + i) tk, .ref s.heap.objs.size] } := ext_of k3 _ _ (Nat.ne_of_gt lt1) tp
      have I2 : Inv X pins σ (upd (upd H s.heap.objs.size (.tup [x, y])) g1.objs.size (.tup [.int (k + i), .ref s.heap.objs.size])) { s with heap := g3, toks := tk + 1 } :=
        I1.turnedNew (ch := [e]) (fun c o hc q => ext_of k3 _ _ (fun q' => hc (by simp [q'])) (k2 c o (fun q' => hc (by simp [q'])) q))
          (fun b hb => by
            have q : b = e := by simpa using hb
            subst q
            exact fpOk_upd (hf _ (by simp)) n1) (Nat.le_refl _)
          ⟨by show 2 ≤ sizeLine; decide, [.int (k + i) tk, .ref s.heap.objs.size], .cons ⟨_, rfl⟩ (.cons rfl .nil), ⟨_, T1, rfl, _, rfl⟩⟩
      have lz : ∀ b ∈ [e, z, TI, TO, i1, i2], b < s.heap.objs.size := by
        intro b hb
        rcases fp_mem hb with q | q | q | q | q | q <;> subst q
        · exact le
        · exact let ⟨_, _, q, _⟩ := hz; old_lt q
        · exact old_lt hti
        · exact let ⟨_, _, q⟩ := hto; old_lt q
        · exact let ⟨_, q, _⟩ := h1; old_lt q
        · exact let ⟨_, q, _⟩ := h2; old_lt q
      have f0 : H s.heap.objs.size = none := I.hok.fresh (Nat.le_refl _)
      have f1 : H g1.objs.size = none := I.hok.fresh (by rw [z1]; omega)
      refine ⟨.ref g1.objs.size, _, I2, rfl, ⟨s.heap.objs.size, g1.objs.size, x, y, rfl, f0, f1, by rw [z1]; exact Nat.ne_of_lt (Nat.lt_succ_self _), rfl, fun l hl => by rw [I.tuple_inj hl hqx]; exact hx, fun l hl => by rw [I.tuple_inj hl hqy]; exact hy⟩, ⟨⟨.ref s.heap.objs.size, ?_⟩, ?_, ?_, ?_, ?_, ?_⟩, fun b hb => ?_⟩
      · have q : (k + ((i + 1 : Nat) : Int)) = k + i + 1 := by omega
        rw [q]
        exact e3
      · obtain ⟨f, b, q, m⟩ := st1.zip
        exact ⟨f, b, ext_of k3 _ _ ez.symm (k2 _ _ ez.symm q), m⟩
      · exact ext_of k3 _ _ (ne TI (by simp)).symm (k2 _ _ (ne TI (by simp)).symm st1.ti)
      · obtain ⟨a1, a2, q⟩ := st1.to
        exact ⟨a1, a2, ext_of k3 _ _ (ne TO (by simp)).symm (k2 _ _ (ne TO (by simp)).symm q)⟩
      · exact st1.it1.at fun o q => ext_of k3 _ _ (ne i1 (by simp)).symm (k2 _ _ (ne i1 (by simp)).symm q)
      · exact st1.it2.at fun o q => ext_of k3 _ _ (ne i2 (by simp)).symm (k2 _ _ (ne i2 (by simp)).symm q)
      · have q := lz b hb
        rw [upd_ne (by rw [z1]; exact Nat.ne_of_lt (Nat.lt_succ_of_lt q)), upd_ne (Nat.ne_of_lt q)]
        exact (hf b hb).1
    · rintro fin s' ⟨v, rfl, q⟩
      exact ⟨v, rfl, wpAny_pure ⟨v, rfl, q⟩⟩
  done := by
    intro X hP hw hK hc i pins s σ H E I hf st hg
    subst hP hw hK
    obtain ⟨⟨old, he⟩, hz, hti, hto, h1, h2⟩ := st
    obtain ⟨xs, ys, hqx, hqy, hx⟩ := hg
    obtain ⟨its, rv, p, _⟩ := I.tuple hqx
    obtain ⟨its2, rv2, p2, _⟩ := I.tuple hqy
    have l1 := rv.length
    have typ : s.TypeIs (.ref e) "enumerate" := ⟨_, he, rfl⟩
    unfold pyNext
    refine wpAny_bind (wpAny_attempt (wpAny_callSpecial?_slot (name := Str.ofString "__next__") typ F.slot_enumerate_next (wpAny_call_entry F.slot_enumerate_next typ F.entry_enumerate_next ?_ (F.args_enumerate_next_1 _))))
    refine wpAny_bind (m := field (.ref e) 2) (wpAny_field he rfl (x := .ref z) rfl (wpAny_bind (zip_drawn hz ?_)))
    refine zip_over (I.ok.hd hc) ap ⟨hz, hti, hto, h1, h2, p, p2⟩ (by simp; omega) fun h' x k' hx' => ?_
    obtain ⟨o, ho, hcls⟩ := hx'
    refine wpAny_bind (wpAny_isInstance (T := "StopIteration") (b := true) ⟨o, ho, hcls⟩ isSubtype_stop (wpAny_pure ⟨rfl, ?_⟩))
    exact I.turnedL (t' := s.toks) (ch := [z, TO, i1, i2]) (fun c o hc q => k' c o (fun q' => hc (by simp [q'])) (fun q' => hc (by simp [q'])) (fun q' => hc (by simp [q'])) (fun q' => hc (by simp [q'])) q)
      (fun b hb => hf b (by
        have q : b = z ∨ b = TO ∨ b = i1 ∨ b = i2 := by simpa using hb
        rcases q with q | q | q | q <;> simp [q]))
  self := fun A i s Q E st h => let ⟨⟨_, he⟩, _⟩ := st; wpAny_pyIter_enum he h
end EL

/- part E6 -/
namespace EL
open PySem PySem.Spec PyProof.Rows L2
open PySem.W (Frag)
/-- the keyword's constant -/
theorem start_kw {X : Cx} {pos : Pos} {k : Int} {j : Nat} {p kp : Pos} {E : Value → Shared → Prop} {s : Shared} {Q : List Value → Shared → Prop} (h : Q [.int k s.toks] { s with toks := s.toks + 1 }) :
    wpAny (model X.prog X.w) X.A (evalAll ((backToKw pos (keywordEach [⟨some "start", .Constant (.int k) j p, kp⟩] X.env)).map (·.2))) Q E s := by
  show wpAny _ _ (evalAll ((do let v ← eval (.Constant (.int k) j p) X.env; standAt pos; pure v) :: [])) _ _ s
  exact wpAny_evalAll_cons (wpAny_bind (wpAny_Constant_int (wpAny_bind (wpAny_standAt (wpAny_pure (wpAny_evalAll_nil h))))))
theorem zip_apart (N a b : Addr) (ha : a < N) (hb : b < N) : Apart (N + 4) (N + 2) (N + 3) N (N + 1) a b := by
  constructor <;> intro q <;> simp only [Addr] at * <;> omega
def iEz (K : Frag) (k : Int) (ta : TA) : TI := fun σ H R => ta σ H fun vs H1 => ∃ a b xs ys, vs = [.ref a, .ref b] ∧ SqT K H1 a xs ∧ SqT K H1 b ys ∧ R (Itez K a b k) H1
theorem pi_ez {X : Cx} {e e2 : Expr} {ta : TA} {p p2 pos pos2 tpos cp kp : Pos} {elts : List Expr} {kk j : Nat} {k : Int} (hg : Gl X "enumerate") (hm : X.mg "enumerate" = none) (hg2 : Gl X "zip") (hm2 : X.mg "zip" = none) (ha : PA X [e, e2] ta)
    (h0 : -(2 ^ 63) ≤ k) (h1 : k < 2 ^ 63)
    (hs : starEach [e, e2] X.env = (false, eval e X.env) :: starEach [e2] X.env := by rfl) (hpl : (backTo pos2 (starEach [e2] X.env)).any (·.1) = false := by rfl) :
    PI X (.Tuple elts kk tpos) (.Call (.Name "enumerate" p) [.Call (.Name "zip" p2) [e, e2] [] pos2] [⟨some "start", .Constant (.int k) j cp, kp⟩] pos) (iEz X.K k ta) := by
  refine ⟨fun pins s σ H R I h => ?_⟩
  apply wpAny_Call_Name_kw
  refine ld_blt I hg hm boot_enumerate ?_
  refine callType_kw (e := .Call (.Name "zip" p2) [e, e2] [] pos2) (rest := []) ?_ rfl rfl rfl rfl
  show wpAny _ _ (spliced [(false, eval (.Call (.Name "zip" p2) [e, e2] [] pos2) X.env)]) _ _ _
  refine Calls.spliced_cons ?_
  refine Call_ (ld_blt I hg2 hm2 PyProof.Rows.boot_zip (PyProof.Rows.callWith_type1 (thn (ha.run pos2 pins s σ H _ I h) ?_) hs hpl))
  rintro us s1 ⟨vs, H1, I1, r1, a, b, xs, ys, rfl, hqx, hqy, q⟩
  obtain ⟨ua, ub, rfl, ra, rb⟩ := vals2 r1
  cases (show ua = Value.ref a from ra)
  cases (show ub = Value.ref b from rb)
  obtain ⟨its, rv, pa, _⟩ := I1.tuple hqx
  obtain ⟨its2, rv2, pb, _⟩ := I1.tuple hqy
  refine zip_begins2 (begins_tuple a its.toArray) (begins_tuple b its2.toArray) pa pb fun h' hz hti hto hi1 hi2 hsz hk => ?_
  have I2 : Inv X pins σ H1 { s1 with heap := h' } := I1.kept (t' := s1.toks) hk
  refine Calls.spliced_nil (start_kw ?_)
  have za : ZipAt h' (s1.heap.objs.size + 4) (s1.heap.objs.size + 2) (s1.heap.objs.size + 3) := ⟨.none, false, hz, .inl rfl⟩
  refine enum_made (W := fun h => ZipAt h (s1.heap.objs.size + 4) (s1.heap.objs.size + 2) (s1.heap.objs.size + 3)) (rv := fun _ => .ref (s1.heap.objs.size + 4)) (f := fun h => h) (fun prog w A E s Q hw hq => zip_itself hw hq) h0 h1 za ?_
  have he : IsEnum (h'.push (enumObj (.ref (s1.heap.objs.size + 4)) k)) (s1.heap.objs.size + 5) (s1.heap.objs.size + 4) k .none := by
    have z := Heap.get?_push_size h' (o := enumObj (.ref (s1.heap.objs.size + 4)) k) rfl
    rw [hsz] at z
    exact z
  show wpAny _ _ (pyIter (.ref h'.objs.size)) _ _ _
  rw [hsz]
  refine wpAny_pyIter_enum he ?_
  have I3 : Inv X pins σ H1 { s1 with heap := h'.push (enumObj (.ref (s1.heap.objs.size + 4)) k), toks := s1.toks + 1 } := I1.kept fun c o q => Heap.get?_push_of_some _ (hk c o q)
  have up : ∀ c o, h'.get? c = some o → (h'.push (enumObj (.ref (s1.heap.objs.size + 4)) k)).get? c = some o := fun c o q => Heap.get?_push_of_some _ q
  have la : a < s1.heap.objs.size := pa.lt
  have lb : b < s1.heap.objs.size := pb.lt
  refine ⟨s1.heap.objs.size + 5, [s1.heap.objs.size + 5, s1.heap.objs.size + 4, s1.heap.objs.size + 2, s1.heap.objs.size + 3, s1.heap.objs.size, s1.heap.objs.size + 1], _, _, H1, rfl, I3,
    turn_ez (zip_apart s1.heap.objs.size a b la lb) (fun b hb => ?_) ?_ ?_, ⟨⟨.none, ?_⟩, ⟨.none, false, up _ _ hz, .inl rfl⟩, up _ _ hti, ⟨_, _, up _ _ hto⟩, ⟨_, up _ _ hi1, rfl, rfl⟩, ⟨_, up _ _ hi2, rfl, rfl⟩⟩, fun c hc => ?_, q⟩
  · have q : b = s1.heap.objs.size + 4 ∨ b = s1.heap.objs.size + 2 ∨ b = s1.heap.objs.size + 3 ∨ b = s1.heap.objs.size ∨ b = s1.heap.objs.size + 1 := by simpa using hb
    intro z
    simp only [Addr] at *
    omega
  · intro z
    simp only [Addr] at *
    omega
  · intro z
    simp only [Addr] at *
    omega
  · have q : k + ((0 : Nat) : Int) = k := by omega
    rw [q]
    exact he
  · have q := fp_mem hc
    have hle : s1.heap.objs.size ≤ c := by
      simp only [Addr] at *
      omega
    exact I1.fpOk hle (I1.hok.fresh hle)
/-! ### enumerate(t, start=k) -/
def Ites (K : Frag) (a : Addr) (k : Int) : It :=
  ⟨fun i H => ∃ (xs : List V) (x : V), SqT K H a xs ∧ xs[i]? = some x, fun i H v H' => ∃ T x, v = .ref T ∧ H T = none ∧ H' = upd H T (.tup [.int (k + i), x]) ∧ ∀ xs, SqT K H a xs → xs[i]? = some x, fun i H => ∃ xs : List V, SqT K H a xs ∧ xs.length ≤ i⟩
def TurnEs (e it t : Addr) (k : Int) (i : Nat) (h : Heap) : Prop := (∃ old, IsEnum h e it (k + i) old) ∧ h.IsTupleIter it t i
theorem turn_es {P : Program} {w : World} {K : Frag} {elts : List Expr} {kk : Nat} {tpos : Pos} {e it t : Addr} {k : Int} (ne : e ≠ it) : Turn P w K (.Tuple elts kk tpos) (Ites K t k) [e, it] e (TurnEs e it t k) where
  mem := by simp
  obj := fun i h st b hb => by
    obtain ⟨⟨old, he⟩, ⟨o1, q1, _, d1⟩⟩ := st
    have q : b = e ∨ b = it := by simpa using hb
    rcases q with q | q <;> subst q
    · exact ⟨_, he, fun v q => nomatch q⟩
    · exact ⟨o1, q1, fun v q => by rw [d1] at q; cases q⟩
  keep := fun i h h' st kp => by
    obtain ⟨⟨old, he⟩, h1⟩ := st
    exact ⟨⟨old, kp e (by simp) _ he⟩, h1.at fun o q => kp it (by simp) o q⟩
  item := by
    intro X hP hw hK hc i pins s σ H E I hf st hg
    subst hP hw hK
    obtain ⟨⟨old, he⟩, h1⟩ := st
    obtain ⟨xs, x, hqx, hx⟩ := hg
    obtain ⟨its, rv, p, _⟩ := I.tuple hqx
    obtain ⟨u, hu, ru⟩ := rv.get hx
    have le : e < s.heap.objs.size := Heap.lt_size he
    have typ : s.TypeIs (.ref e) "enumerate" := ⟨_, he, rfl⟩
    unfold pyNext
    refine wpAny_bind (wpAny_attempt (wpAny_callSpecial?_slot (name := Str.ofString "__next__") typ F.slot_enumerate_next (wpAny_call_entry F.slot_enumerate_next typ F.entry_enumerate_next
      (wpAny_mono (enum_turn (R := fun v h' => v = u ∧ h'.IsTupleIter it t (i + 1) ∧ Heap.SameBut it s.heap h')
        (Q := fun v s' => wpAny (model X.prog X.w) X.A (letOwnedTupleGo (.Tuple elts kk tpos) (.ref e) v) (fun _ s2 => ∃ x H', Inv X pins σ H' s2 ∧ RelV x v ∧ (Ites X.K t k).yld i H x H' ∧ TurnEs e it t k (i + 1) s2.heap ∧ ∀ b ∈ [e, it], H' b = none) E s')
        he (fun Q' E' hq => wpAny_nextOf_tuple_item h1 p (x := u) (by simpa using hu) fun h' st' k' => hq _ h' s.toks (ext_of k' _ _ ne he) ⟨rfl, st', k'⟩) ?_) ?_ (fun _ _ q => q)) (F.args_enumerate_next_1 _))))
    · rintro v g1 g2 tk ⟨rfl, st1, k1⟩ lt1 eo tp z2 k2
      refine wpAny_letOwnedTupleGo_enum (s := { s with heap := g2, toks := tk + 1 }) eo fun g3 e3 k3 => ?_
      replace k3 : Heap.SameBut e g2 g3 := k3
      have T1 : g3.get? g1.objs.size = some { cls := .type "tuple", data := .seq #[.int (k + i) tk, v] } := ext_of k3 _ _ (Nat.ne_of_gt lt1) tp
      have sz : s.heap.objs.size = g1.objs.size := k1.1.symm
      have I2 : Inv X pins σ (upd H g1.objs.size (.tup [.int (k + i), x])) { s with heap := g3, toks := tk + 1 } :=
        I.turnedNew (ch := [e, it]) (fun c o hc q => ext_of k3 _ _ (fun q' => hc (by simp [q'])) (k2 c o (fun q' => hc (by simp [q'])) (ext_of k1 _ _ (fun q' => hc (by simp [q'])) q)))
          hf (Nat.le_of_eq sz) ⟨by show 2 ≤ sizeLine; decide, [.int (k + i) tk, v], .cons ⟨_, rfl⟩ (.cons ru .nil), ⟨_, T1, rfl, _, rfl⟩⟩
      refine ⟨.ref g1.objs.size, _, I2, rfl, ⟨g1.objs.size, x, rfl, I.hok.fresh (Nat.le_of_eq sz), rfl, fun l hl => by rw [I.tuple_inj hl hqx]; exact hx⟩, ⟨⟨v, ?_⟩, ?_⟩, fun b hb => ?_⟩
      · have q : (k + ((i + 1 : Nat) : Int)) = k + i + 1 := by omega
        rw [q]
        exact e3
      · exact st1.at fun o q => ext_of k3 _ _ ne.symm (k2 _ _ ne.symm q)
      · have q : b < g1.objs.size := by
          have q : b = e ∨ b = it := by simpa using hb
          rcases q with q | q <;> subst q
          · exact lt1
          · exact let ⟨_, q, _⟩ := st1; Heap.lt_size q
        rw [upd_ne (Nat.ne_of_lt q)]
        exact (hf b hb).1
    · rintro fin s' ⟨v, rfl, q⟩
      exact ⟨v, rfl, wpAny_pure ⟨v, rfl, q⟩⟩
  done := by
    intro X hP hw hK hc i pins s σ H E I hf st hg
    subst hP hw hK
    obtain ⟨⟨old, he⟩, h1⟩ := st
    obtain ⟨xs, hqx, hx⟩ := hg
    obtain ⟨its, rv, p, _⟩ := I.tuple hqx
    have l1 := rv.length
    have typ : s.TypeIs (.ref e) "enumerate" := ⟨_, he, rfl⟩
    unfold pyNext
    refine wpAny_bind (wpAny_attempt (wpAny_callSpecial?_slot (name := Str.ofString "__next__") typ F.slot_enumerate_next (wpAny_call_entry F.slot_enumerate_next typ F.entry_enumerate_next ?_ (F.args_enumerate_next_1 _))))
    refine wpAny_bind (m := field (.ref e) 2) (wpAny_field he rfl (x := .ref it) rfl (wpAny_bind ?_))
    refine wpAny_nextOf_tuple_end (I.ok.hd hc) h1 p (by simp; omega) fun h' x k' hx' => ?_
    obtain ⟨o, ho, hcls⟩ := hx'
    refine wpAny_bind (wpAny_isInstance (T := "StopIteration") (b := true) ⟨o, ho, hcls⟩ isSubtype_stop (wpAny_pure ⟨rfl, ?_⟩))
    exact I.turnedL (t' := s.toks) (ch := [it]) (fun c o hc q => k' c o (fun q' => hc (by simp [q'])) q) (fun b hb => hf b (by
      have q : b = it := by simpa using hb
      simp [q]))
  self := fun A i s Q E st h => let ⟨⟨_, he⟩, _⟩ := st; wpAny_pyIter_enum he h
def iEs (K : Frag) (k : Int) (ta : TA) : TI := fun σ H R => ta σ H fun vs H1 => ∃ a xs, vs = [.ref a] ∧ SqT K H1 a xs ∧ R (Ites K a k) H1
theorem pi_es {X : Cx} {e : Expr} {ta : TA} {p pos tpos cp kp : Pos} {elts : List Expr} {kk j : Nat} {k : Int} (hg : Gl X "enumerate") (hm : X.mg "enumerate" = none) (ha : PA X [e] ta) (h0 : -(2 ^ 63) ≤ k) (h1 : k < 2 ^ 63)
    (hs : starEach [e] X.env = (false, eval e X.env) :: starEach [] X.env := by rfl) (hpl : (backTo pos (starEach [e] X.env)).any (·.1) = false := by rfl) :
    PI X (.Tuple elts kk tpos) (.Call (.Name "enumerate" p) [e] [⟨some "start", .Constant (.int k) j cp, kp⟩] pos) (iEs X.K k ta) := by
  refine ⟨fun pins s σ H R I h => ?_⟩
  apply wpAny_Call_Name_kw
  refine ld_blt I hg hm boot_enumerate (callType_kw (thn (ha.run pos pins s σ H _ I h) ?_) hs hpl rfl rfl)
  rintro us s1 ⟨vs, H1, I1, r1, a, xs, rfl, hqx, q⟩
  cases r1 with
  | cons ra rn =>
    cases rn
    cases ra
    obtain ⟨its, rv, pa, _⟩ := I1.tuple hqx
    refine start_kw (enum_begins_start (begins_tuple a its.toArray) pa h0 h1 fun h' he hit hsz hk => wpAny_pyIter_enum he ?_)
    refine ⟨s1.heap.objs.size + 1, [s1.heap.objs.size + 1, s1.heap.objs.size], _, _, H1, rfl, I1.kept (t' := s1.toks + 1) hk, turn_es (Nat.succ_ne_self _), ⟨⟨.none, ?_⟩, ⟨_, hit, rfl, rfl⟩⟩, fun c hc => ?_, q⟩
    · have q : k + ((0 : Nat) : Int) = k := by omega
      rw [q]
      exact he
    · have q : c = s1.heap.objs.size + 1 ∨ c = s1.heap.objs.size := by simpa using hc
      have hle : s1.heap.objs.size ≤ c := by
        simp only [Addr] at *
        omega
      exact I1.fpOk hle (I1.hok.fresh hle)
end EL

/- part E7 -/
/-! enumerate(t) over a tuple; loops over enumerate -/
namespace EL
open PySem PySem.Spec PyProof.Rows L2
open PySem.W (Frag)
theorem tcall_enum_1 (a : Value) : checkTypeCall "enumerate" ⟨[a], []⟩ = pure () := by kernel_rfl
set_option maxHeartbeats 2000000 in
theorem meets_enum_1 {v : Value} {rv : Heap → Value} {f : Heap → Heap} {W : Heap → Prop}
    (IT : ∀ (prog : Program) (w : World) (A : Around) (E : Value → Shared → Prop) (s : Shared) (Q : Value → Shared → Prop), W s.heap → Q (rv s.heap) { s with heap := f s.heap } → wpAny (model prog w) A (pyIter v) Q E s) :
    Meets (Builtin.«enumerate.__new__» ⟨[.type "enumerate", v], []⟩) (fun _ R s => W s.heap ∧ R (.ok (.ret (.ref (f s.heap).objs.size))) { s with heap := (f s.heap).push (enumObj (rv s.heap) 0) }) :=
  .of_wp fun prog w A R s h => by
    obtain ⟨hp, g, d, tk, os⟩ := s
    obtain ⟨h1, h⟩ := h
    have sub := sub_enumerate
    have go : ∀ {A' : Around} {E : Value → Shared → Prop} {Q : Value → Shared → Prop}, Q (rv hp) ⟨f hp, g, d, tk, os⟩ → wpAny (model prog w) A' (pyIter v) Q E ⟨hp, g, d, tk, os⟩ := fun q => IT prog w _ _ ⟨hp, g, d, tk, os⟩ _ h1 q
    wp_walk using go
    refine wpAny_stack_any fun st => wpAny_pure ?_
    split
    · rename_i c _ _ _ _ _
      cases (c == Value.type "enumerate")
      · wp_walk using go
        exact ⟨_, rfl, h⟩
      · wp_walk using go
        exact ⟨_, rfl, h⟩
    · wp_walk using go
      exact ⟨_, rfl, h⟩
theorem enum_begins_1 {prog : Program} {w : World} {A : Around} {E : Value → Shared → Prop} {s : Shared} {v : Value} {o : Obj} {H : Heap → Prop} {Q : Value → Shared → Prop} (B : Begins v o H) (h : H s.heap)
    (q : ∀ h' : Heap, IsEnum h' (s.heap.objs.size + 1) s.heap.objs.size 0 .none → h'.get? s.heap.objs.size = some o → h'.objs.size = s.heap.objs.size + 2 → (∀ (b : Addr) (o : Obj), s.heap.get? b = some o → h'.get? b = some o) → Q (.ref (s.heap.objs.size + 1)) { s with heap := h' }) :
    wpAny (model prog w) A (call (.type "enumerate") [v]) Q E s := by
  refine callType_new F.called_enumerate (by decide) (F.typeCall_enumerate_1 _) (F.newCall_enumerate_1 _) (fun obj => F.args_object_init_2 obj _) F.entry_enumerate_new
    (meets_enum_1 (W := H) (rv := fun h => .ref h.objs.size) (f := fun h => h.push o) fun prog w A E s Q hw hq => B.iter prog w A E s Q hw hq) ⟨h, ?_⟩
  have z : (s.heap.push o).objs.size = s.heap.objs.size + 1 := Heap.size_push ..
  have e1 : IsEnum ((s.heap.push o).push (enumObj (.ref s.heap.objs.size) 0)) (s.heap.objs.size + 1) s.heap.objs.size 0 .none := by
    have y := Heap.get?_push_size (s.heap.push o) (o := enumObj (.ref s.heap.objs.size) 0) rfl
    rw [z] at y
    exact y
  refine ⟨⟨_, Heap.get?_push_size _ rfl, rfl⟩, ?_⟩
  show Q (.ref (s.heap.push o).objs.size) _
  rw [z]
  refine q _ e1 (Heap.get?_push_of_some _ (Heap.get?_push_size _ B.free)) ((Heap.size_push ..).trans (by rw [z])) fun b o' hb => Heap.get?_push_of_some _ (Heap.get?_push_of_some _ hb)
theorem evalAll_nil {M : Model} {A : Around} {E : Value → Shared → Prop} {s : Shared} {Q : List Value → Shared → Prop} (h : Q [] s) : wpAny M A (evalAll []) Q E s := wpAny_pure h
def iE1 (K : Frag) (ta : TA) : TI := fun σ H R => ta σ H fun vs H1 => ∃ a xs, vs = [.ref a] ∧ SqT K H1 a xs ∧ R (Ites K a 0) H1
theorem pi_e1 {X : Cx} {e : Expr} {ta : TA} {p pos tpos : Pos} {elts : List Expr} {kk : Nat} (hg : Gl X "enumerate") (hm : X.mg "enumerate" = none) (ha : PA X [e] ta)
    (hs : starEach [e] X.env = (false, eval e X.env) :: starEach [] X.env := by rfl) (hpl : (backTo pos (starEach [e] X.env)).any (·.1) = false := by rfl) :
    PI X (.Tuple elts kk tpos) (.Call (.Name "enumerate" p) [e] [] pos) (iE1 X.K ta) := by
  refine ⟨fun pins s σ H R I h => ?_⟩
  apply wpAny_Call_Name_kw
  refine ld_blt I hg hm boot_enumerate (callType_kw (thn (ha.run pos pins s σ H _ I h) ?_) hs hpl rfl rfl)
  rintro us s1 ⟨vs, H1, I1, r1, a, xs, rfl, hqx, q⟩
  cases r1 with
  | cons ra rn =>
    cases rn
    cases ra
    obtain ⟨its, rv, pa, _⟩ := I1.tuple hqx
    refine evalAll_nil (enum_begins_1 (begins_tuple a its.toArray) pa fun h' he hit hsz hk => wpAny_pyIter_enum he ?_)
    refine ⟨s1.heap.objs.size + 1, [s1.heap.objs.size + 1, s1.heap.objs.size], _, _, H1, rfl, I1.kept (t' := s1.toks) hk, turn_es (Nat.succ_ne_self _), ⟨⟨.none, ?_⟩, ⟨_, hit, rfl, rfl⟩⟩, fun c hc => ?_, q⟩
    · exact he
    · have q : c = s1.heap.objs.size + 1 ∨ c = s1.heap.objs.size := by simpa using hc
      have hle : s1.heap.objs.size ≤ c := by
        simp only [Addr] at *
        omega
      exact I1.fpOk hle (I1.hok.fresh hle)
/-! ### loops over them -/
/-- a turn of enumerate(t, start=k) -/
def YEs (k : Int) (xs : List V) : Nat → Hp → V → Hp → Prop := fun i H v H' => ∃ T x, v = V.ref T ∧ H T = none ∧ H' = upd H T (.tup [.int (k + i), x]) ∧ xs[i]? = some x
theorem walk_es {K : Frag} {a : Addr} {k : Int} {xs : List V} : Walk (Ites K a k) xs.length (fun H => SqT K H a xs) (YEs k xs) :=
  ⟨fun i H hi h => ⟨xs, xs[i], h, List.getElem?_eq_getElem hi⟩, fun H h => ⟨xs, h, Nat.le_refl _⟩, fun i H x H' hi h ⟨T, y, e, hT, hH, hy⟩ => ⟨T, y, e, hT, hH, hy xs h⟩⟩
/-- a turn of enumerate(zip(t, u), start=k) -/
def YEz (k : Int) (xs ys : List V) : Nat → Hp → V → Hp → Prop := fun i H v H' => ∃ T0 T1 x y, v = V.ref T1 ∧ H T0 = none ∧ H T1 = none ∧ T0 ≠ T1 ∧ H' = upd (upd H T0 (.tup [x, y])) T1 (.tup [.int (k + i), .ref T0]) ∧ xs[i]? = some x ∧ ys[i]? = some y
theorem walk_ez {K : Frag} {a b : Addr} {k : Int} {xs ys : List V} (hl : xs.length = ys.length) : Walk (Itez K a b k) xs.length (fun H => SqT K H a xs ∧ SqT K H b ys) (YEz k xs ys) :=
  ⟨fun i H hi h => ⟨xs, ys, xs[i], ys[i], h.1, h.2, List.getElem?_eq_getElem hi, List.getElem?_eq_getElem (hl ▸ hi)⟩, fun H h => ⟨xs, ys, h.1, h.2, Nat.le_refl _⟩,
   fun i H x H' hi h ⟨T0, T1, y, z, e, h0, h1, ne, hH, hy, hz⟩ => ⟨T0, T1, y, z, e, h0, h1, ne, hH, hy xs h.1, hz ys h.2⟩⟩
end EL

/- part U -/
/-! Operators by the values that they meet; how a reading goes on -/
namespace EL
open PySem PySem.Spec PyProof.Rows L2
open PySem.W (Frag)
section
variable {X : Cx}
/-! ### rules that take what comes -/
theorem PI.alt {tg e : Expr} {w1 w2 : TI} (h1 : PI X tg e w1) (h2 : PI X tg e w2) : PI X tg e (fun σ H R => w1 σ H R ∨ w2 σ H R) :=
  ⟨fun pins s σ H R I h => h.elim (h1.run pins s σ H R I) (h2.run pins s σ H R I)⟩
theorem get_list : PGet X (rIxL X.K) := by
  rintro pins s σ H o i ov iv Q I ro ri ⟨p, xs, k, v, rfl, rfl, hq, hv, q⟩
  cases ro
  obtain ⟨t, rfl⟩ := ri
  obtain ⟨its, r, pl, hz⟩ := I.list hq
  obtain ⟨j, h1, h2, h3, h4, h5⟩ := atI_get hv
  obtain ⟨u, hu, ru⟩ := r.get h2
  have hl := r.length
  have hn := line63
  by_cases h0 : 0 ≤ k
  · have hj : k.toNat = j := by
      rw [seqIndex_of h0 h5] at h1
      exact Option.some.inj h1
    exact wpAny_getItem_list pl.isList h0 (by omega) (by rw [hj]; simpa using hu) ⟨v, H, I, ru, q⟩
  · have hj : (k + (its.toArray.size : Int)).toNat = j := by
      rw [seqIndex_neg (by omega) h4] at h1
      rw [List.size_toArray, ← hl]
      exact Option.some.inj h1
    exact wpAny_getItem_list_neg pl.isList (by omega) (by rw [List.size_toArray] <;> omega) (by omega) (by rw [hj]; simpa using hu) ⟨v, H, I, ru, q⟩
abbrev rAddI : R2 := rI0 fun i j => .int (i + j)
def rAdd (K : Frag) : R2 := fun x y H Q => rAddI x y H Q ∨ rCat x y H Q ∨ rCatA K x y H Q
theorem u_add : OpR X (binaryOp .Add) (rAdd X.K) := op_add.or (op_cat.or op_catA)
def rMul : R2 := fun x y H Q => rI CMul (fun i j => .int (i * j)) x y H Q ∨ rRep x y H Q
theorem u_mul : OpR X (binaryOp .Mult) rMul := op_mul.or op_rep
def rEqU (K : Frag) : R2 := fun x y H Q => rEq x y H Q ∨ rEqD K x y H Q
def rNeU (K : Frag) : R2 := fun x y H Q => rNe x y H Q ∨ rNeD K x y H Q
theorem u_eq (hu : X.A.units + 64 < cLine) : OpR X (compareOp .Eq) (rEqU X.K) := op_eq.or (op_eqD hu)
theorem u_ne (hu : X.A.units + 64 < cLine) : OpR X (compareOp .NotEq) (rNeU X.K) := op_ne.or (op_neD hu)
abbrev rIsNone : R2 := fun x y H Q => y = .non ∧ Q (.bl (decide (x = .non))) H
abbrev rNotNone : R2 := fun x y H Q => y = .non ∧ Q (.bl (!decide (x = .non))) H
/-- x is True, for any x that is no bool, too -/
abbrev rIsTrue : R2 := rIsB
theorem op_notBI {X : Cx} : OpR X (compareOp .IsNot) (fun x y H Q => ∃ i b, x = .int i ∧ y = .bl b ∧ Q (.bl true) H) := by
  rintro pins s σ H x y v u Q I rx ry ⟨i, b, rfl, rfl, q⟩
  obtain ⟨t, rfl⟩ := rx
  cases ry
  have e : (Value.int i t == Value.bool b) = false := by rfl
  exact wpAny_pure ⟨.bl true, H, I, by rw [e]; rfl, q⟩
theorem op_isBI {X : Cx} : OpR X (compareOp .Is) (fun x y H Q => ∃ i b, x = .int i ∧ y = .bl b ∧ Q (.bl false) H) := by
  rintro pins s σ H x y v u Q I rx ry ⟨i, b, rfl, rfl, q⟩
  obtain ⟨t, rfl⟩ := rx
  cases ry
  have e : (Value.int i t == Value.bool b) = false := by rfl
  exact wpAny_pure ⟨.bl false, H, I, by rw [e]; rfl, q⟩
def rIsU : R2 := fun x y H Q => rIsNone x y H Q ∨ rIsB x y H Q ∨ ∃ i b, x = .int i ∧ y = .bl b ∧ Q (.bl false) H
def rNotU : R2 := fun x y H Q => rNotNone x y H Q ∨ rNotB x y H Q ∨ ∃ i b, x = .int i ∧ y = .bl b ∧ Q (.bl true) H
theorem u_is : OpR X (compareOp .Is) rIsU := op_isN.or (op_isBl.or op_isBI)
theorem u_isnot : OpR X (compareOp .IsNot) rNotU := op_notN.or (op_notBl.or op_notBI)
theorem u_in : OpR X (compareOp .In) (rIn X.K false) := op_in_seq
theorem u_notin : OpR X (compareOp .NotIn) (rIn X.K true) := op_notIn_seq
abbrev rLen (K : Frag) : List V → Hp → VK → Prop := fun xs H Q => ∃ p ys, xs = [.ref p] ∧ (SqL K H p ys ∨ SqT K H p ys) ∧ Q (.int ys.length) H
theorem u_len : CallR X (.builtin "len") (rLen X.K) := call_len_seq
def rIsiU (K : Frag) : List V → Hp → VK → Prop := fun xs H Q => rIsi K xs H Q ∨ rIsiT K xs H Q
theorem u_isi : CallR X (.builtin "isinstance") (rIsiU X.K) := call_isi.or call_isiT
abbrev rInt : List V → Hp → VK → Prop := fun xs H Q => (∃ i, xs = [.int i] ∧ Q (.int i) H) ∨ ∃ k, xs = [.bl k] ∧ Q (.int (if k then 1 else 0)) H
theorem u_int : CallR X (.type "int") rInt := call_int1
abbrev rList (K : Frag) : List V → Hp → VK → Prop := fun xs H Q => ∃ p ys, xs = [.ref p] ∧ (SqL K H p ys ∨ SqT K H p ys) ∧ ∀ l, H l = none → Q (.ref l) (upd H l (.lst ys))
theorem u_list : CallR X (.type "list") (rList X.K) := call_list_of
abbrev rTuple (K : Frag) : List V → Hp → VK → Prop := fun xs H Q => ∃ p ys, xs = [.ref p] ∧ ((SqL K H p ys ∧ ∀ l, H l = none → Q (.ref l) (upd H l (.tup ys))) ∨ (SqT K H p ys ∧ Q (.ref p) H))
theorem u_tuple : CallR X (.type "tuple") (rTuple X.K) := call_tuple_of
def rSlice (K : Frag) : V → Option Int → Option Int → Hp → VK → Prop := fun x lo hi H Q => rSlL K x lo hi H Q ∨ rSlA K x lo hi H Q
theorem u_slice : SlR X (rSlice X.K) := sl_list.or sl_tupA
def iSeq (K : Frag) (tl : TE) : TI := fun σ H R => iList K tl σ H R ∨ iTup K tl σ H R
theorem u_iter {tg l : Expr} {tl : TE} (hl : PE X l tl) : PI X tg l (iSeq X.K tl) := PI.alt (pi_list hl) (pi_tup hl)
theorem u_min (hc : X.calm = true) : CallR X (.builtin "min") (fun xs H Q => (∃ i j, xs = [.int i, .int j] ∧ Q (.int (if j < i then j else i)) H) ∨ rMin X.K xs H Q) := (call_min2 hc).or (cr_min hc)
theorem u_max (hc : X.calm = true) : CallR X (.builtin "max") (fun xs H Q => (∃ i j, xs = [.int i, .int j] ∧ Q (.int (if j > i then j else i)) H) ∨ rMax X.K xs H Q) := (call_max2 hc).or (cr_max hc)
end
/-! ### what stays: all but the bag at b -/
/-- everything else stays -/
def Kp (b : Addr) (H H' : Hp) : Prop := ∀ a o, a ≠ b → H a = some o → H' a = some o
theorem Kp.refl (b : Addr) (H : Hp) : Kp b H H := fun _ _ _ h => h
theorem Kp.trans {b : Addr} {H H1 H2 : Hp} (p : Kp b H H1) (q : Kp b H1 H2) : Kp b H H2 := fun a o n h => q a o n (p a o n h)
theorem Kp.new {b p : Addr} {H H1 : Hp} {o : HO} (k : Kp b H H1) (h : H1 p = none) : Kp b H (upd H1 p o) := fun a u n e => by
  have q := k a u n e
  rw [upd_ne (ne_of_none q h)]
  exact q
/-- an object that is new since H may change -/
theorem Kp.mut {b p : Addr} {H H1 : Hp} {o : HO} (k : Kp b H H1) (h : H p = none) : Kp b H (upd H1 p o) := fun a u n e => by
  rw [upd_ne (ne_of_none e h)]
  exact k a u n e
theorem Kp.bag {b : Addr} {H H1 : Hp} {o : HO} (k : Kp b H H1) : Kp b H (upd H1 b o) := fun a u n e => by
  rw [upd_ne n]
  exact k a u n e
theorem Kp.free {b p : Addr} {H H1 : Hp} (k : Kp b H H1) (h : H1 p = none) (n : p ≠ b) : H p = none := by
  cases q : H p with
  | none => rfl
  | some o =>
    rw [k p o n q] at h
    cases h
theorem same_kp {b : Addr} {H H' : Hp} (s : Same H H') : Kp b H H' := fun a o _ h => s a o h
/-! ### the way on, construct by construct -/
section
variable {σ : L2.St} {H : Hp} {Q : VK} {K : Frag}
theorem n_add {i j : Int} (q : Q (.int (i + j)) H) : rAdd K (.int i) (.int j) H Q := .inl ⟨i, j, rfl, rfl, q⟩
theorem n_cat {l m : Addr} {xs ys : List V} (h1 : H l = some (.lst xs)) (h2 : H m = some (.lst ys)) (z : xs.length + ys.length ≤ sizeLine) (q : ∀ p, H p = none → Q (.ref p) (upd H p (.lst (xs ++ ys)))) : rAdd K (.ref l) (.ref m) H Q :=
  .inr (.inl ⟨l, m, xs, ys, rfl, rfl, h1, h2, z, q⟩)
theorem n_mul {i j : Int} (c : CMul i j) (q : Q (.int (i * j)) H) : rMul (.int i) (.int j) H Q := .inl ⟨i, j, rfl, rfl, c, q⟩
theorem n_eq {x y : V} (s : scal x y = true) (q : Q (.bl (decide (x = y))) H) : rEqU K x y H Q := .inl ⟨s, q⟩
theorem n_ne {x y : V} (s : scal x y = true) (q : Q (.bl (!decide (x = y))) H) : rNeU K x y H Q := .inl ⟨s, q⟩
theorem n_eqD {x y : V} {d e : PyData} (hd : Dp K H x d) (he : Dp K H y e) (sd : SeqAt.shaped d = true) (se : SeqAt.shaped e = true) (q : Q (.bl (PyData.eqv d e)) H) : rEqU K x y H Q := .inr ⟨d, e, hd, he, sd, se, q⟩
theorem n_neD {x y : V} {d e : PyData} (hd : Dp K H x d) (he : Dp K H y e) (sd : SeqAt.shaped d = true) (se : SeqAt.shaped e = true) (q : Q (.bl (!PyData.eqv d e)) H) : rNeU K x y H Q := .inr ⟨d, e, hd, he, sd, se, q⟩
theorem n_isi {x : V} {n m : String} {b : Bool} (ty : TyX K H x (.type n)) (h : kitB n m = some b) (q : Q (.bl b) H) : rIsiU K [x, .ty m] H Q := .inl ⟨x, .ty m, _, _, b, rfl, .ty m, ty, kit_ty h, q⟩
theorem n_isiX {x : V} {t : Value} {m : String} {b : Bool} (ty : TyX K H x t) (h : PySem.W.kitOne K t (.type m) = some b) (q : Q (.bl b) H) : rIsiU K [x, .ty m] H Q := .inl ⟨x, .ty m, _, _, b, rfl, .ty m, ty, h, q⟩
theorem n_len {p : Addr} {ys : List V} (h : SqL K H p ys ∨ SqT K H p ys) (q : Q (.int ys.length) H) : rLen K [.ref p] H Q := ⟨p, ys, rfl, h, q⟩
theorem n_int {i : Int} (q : Q (.int i) H) : rInt [.int i] H Q := .inl ⟨i, rfl, q⟩
theorem n_ib {k : Bool} (q : Q (.int (if k then 1 else 0)) H) : rInt [.bl k] H Q := .inr ⟨k, rfl, q⟩
theorem n_ixL {p : Addr} {xs : List V} {i : Int} {v : V} (h : SqL K H p xs) (hi : atI xs i = some v) (q : Q v H) : rIx K (.ref p) (.int i) H Q := .inl ⟨p, xs, i, v, rfl, rfl, h, hi, q⟩
theorem n_ixT {p : Addr} {xs : List V} {i : Int} {v : V} (h : SqT K H p xs) (hi : atI xs i = some v) (q : Q v H) : rIx K (.ref p) (.int i) H Q := .inr (.inl ⟨p, xs, i, v, rfl, rfl, h, hi, q⟩)
theorem n_inT {x : V} {p : Addr} {xs : List V} (h : H p = some (.tup xs)) (f1 : flatV x = true) (f2 : xs.all flatV = true) (q : Q (.bl (inV x xs)) H) : rIn K false x (.ref p) H Q := ⟨p, xs, rfl, .inr (SqT.of h), f1, f2, q⟩
theorem n_inL {x : V} {p : Addr} {xs : List V} (h : H p = some (.lst xs)) (f1 : flatV x = true) (f2 : xs.all flatV = true) (q : Q (.bl (inV x xs)) H) : rIn K false x (.ref p) H Q := ⟨p, xs, rfl, .inl (SqL.of h), f1, f2, q⟩
theorem n_isN {x : V} (q : Q (.bl (decide (x = .non))) H) : rIsU x .non H Q := .inl ⟨rfl, q⟩
theorem n_notN {x : V} (q : Q (.bl (!decide (x = .non))) H) : rNotU x .non H Q := .inl ⟨rfl, q⟩
theorem n_isB {a b : Bool} (q : Q (.bl (decide (a = b))) H) : rIsU (.bl a) (.bl b) H Q := .inr (.inl ⟨a, b, rfl, rfl, q⟩)
theorem n_isBI {i : Int} {b : Bool} (q : Q (.bl false) H) : rIsU (.int i) (.bl b) H Q := .inr (.inr ⟨i, b, rfl, rfl, q⟩)
theorem n_notB {a b : Bool} (q : Q (.bl (!decide (a = b))) H) : rNotU (.bl a) (.bl b) H Q := .inr (.inl ⟨a, b, rfl, rfl, q⟩)
theorem n_notBI {i : Int} {b : Bool} (q : Q (.bl true) H) : rNotU (.int i) (.bl b) H Q := .inr (.inr ⟨i, b, rfl, rfl, q⟩)
end
end EL

/- part V -/
/-! the administrative steps of a reading -/
namespace EL
open PySem PySem.Spec PyProof.Rows L2
open PySem.W (Frag)
section
variable {σ : L2.St} {H : Hp} {Q : VK} {K : Frag} {i : Nat} {v : V} {D : Ends} {ta tb te tc : TE} {t u t1 t2 : TS} {c c2 : TT} {tl tr : TA} {g : TG}
theorem a_var (h : σ[i]? = some (some v)) (q : Q v H) : tVar i σ H Q := ⟨v, h, q⟩
theorem a_c (q : Q v H) : tC v σ H Q := q
theorem a_op {r : R2} (q : ta σ H fun x H1 => tb σ H1 fun y H2 => r x y H2 Q) : tOp r ta tb σ H Q := q
theorem a_un {r : V → Hp → VK → Prop} (q : ta σ H fun x H1 => r x H1 Q) : tUn r ta σ H Q := q
theorem a_U {j : Int} {f : Int → V} (q : Q (f j) H) : rU f (.int j) H Q := ⟨j, rfl, q⟩
theorem a_nil {R : List V → Hp → Prop} (q : R [] H) : tNil σ H R := q
theorem a_cons {R : List V → Hp → Prop} (q : te σ H fun x H1 => tl σ H1 fun xs H2 => R (x :: xs) H2) : tCons te tl σ H R := q
theorem a_cb {r : List V → Hp → VK → Prop} (q : tl σ H fun vs H1 => r vs H1 Q) : tCB r tl σ H Q := q
theorem a_call {sp : Sp} {E : XK} (q : tl σ H fun vs H1 => sp vs H1 Q E) : tCall sp [] E tl σ H Q := by
  show tl σ H fun vs H1 => sp (vs ++ []) H1 Q E
  simpa only [List.append_nil] using q
theorem a_I0 {f : Int → Int → V} {a b : Int} (q : Q (f a b) H) : rI0 f (.int a) (.int b) H Q := ⟨a, b, rfl, rfl, q⟩
theorem a_I {C : Int → Int → Prop} {f : Int → Int → V} {a b : Int} (hc : C a b) (q : Q (f a b) H) : rI C f (.int a) (.int b) H Q := ⟨a, b, rfl, rfl, hc, q⟩
theorem a_seq (q : t { D with nx := u D } σ H) : tSeq t u D σ H := q
theorem a_asg (q : te σ H fun x H1 => g x σ H1 D.nx) : tAsg te g D σ H := q
theorem a_sasg (q : te σ H fun x H1 => g x σ H1 (u D)) : tSeq (tAsg te g) u D σ H := q
theorem a_gn {R : L2.St → Hp → Prop} (q : R (σ.set i (some v)) H) : gName i v σ H R := q
theorem a_drop (q : te σ H fun _ H1 => D.nx σ H1) : tDrop te D σ H := q
theorem a_sdrop (q : te σ H fun _ H1 => u D σ H1) : tSeq (tDrop te) u D σ H := q
theorem a_ret (q : te σ H D.rt) : tRet te D σ H := q
theorem a_if (q : c σ H fun b H1 => if b = true then t1 D σ H1 else t2 D σ H1) : tIfS c t1 t2 D σ H := q
theorem a_next (q : D.nx σ H) : tNext D σ H := q
theorem a_nx {f k1 k2 : L2.St → Hp → Prop} {r : VK} (q : f σ H) : (Ends.mk f r k1 k2).nx σ H := q
theorem a_rt {f k1 k2 : L2.St → Hp → Prop} {r : VK} (q : r v H) : (Ends.mk f r k1 k2).rt v H := q
theorem a_test {R : Bool → Hp → Prop} (q : te σ H fun x H' => ∃ k, x = .bl k ∧ R k H') : tTest te σ H R := q
theorem a_B {R : Bool → Hp → Prop} (q : te σ H fun x H' => ∃ k, x = .bl k ∧ R k H') : tB te σ H R := q
theorem a_bl {R : Bool → Prop} {b : Bool} (q : R b) : ∃ k, V.bl b = V.bl k ∧ R k := ⟨b, rfl, q⟩
theorem a_and {R : Bool → Hp → Prop} (q : c σ H fun b H1 => if b = true then c2 σ H1 R else R false H1) : tAnd c c2 σ H R := q
theorem a_or {R : Bool → Hp → Prop} (q : c σ H fun b H1 => if b = true then R true H1 else c2 σ H1 R) : tOr c c2 σ H R := q
theorem a_not {R : Bool → Hp → Prop} (q : c σ H fun b H1 => R (!b) H1) : tNot c σ H R := q
theorem a_andV (q : ta σ H fun x H1 => ∃ b, x = .bl b ∧ if b = true then tb σ H1 Q else Q (.bl false) H1) : tAndV ta tb σ H Q := q
theorem a_orV (q : ta σ H fun x H1 => ∃ b, x = .bl b ∧ if b = true then Q (.bl true) H1 else tb σ H1 Q) : tOrV ta tb σ H Q := q
theorem a_notV (q : ta σ H fun x H1 => ∃ b, x = .bl b ∧ Q (.bl (!b)) H1) : tNotV ta σ H Q := q
theorem a_ifx (q : c σ H fun b H1 => if b = true then ta σ H1 Q else tb σ H1 Q) : tIf c ta tb σ H Q := q
theorem a_chain {r r' : R2} (q : ta σ H fun x H1 => tb σ H1 fun y H2 => r x y H2 fun z H3 => ∃ k, z = .bl k ∧ (if k = true then tc σ H3 fun w' H4 => r' y w' H4 Q else Q (.bl false) H3)) : tChain r r' ta tb tc σ H Q := q
theorem a_T {A B : Prop} (q : A) : if true = true then A else B := by rw [if_pos rfl]; exact q
theorem a_F {A B : Prop} (q : B) : if false = true then A else B := by rw [if_neg Bool.false_ne_true]; exact q
theorem a_nT {A B : Prop} (q : B) : if (!true) = true then A else B := q
theorem a_nF {A B : Prop} (q : A) : if (!false) = true then A else B := q
theorem a_fld {tv : TE} {f : Str} (q : tv σ H fun y H1 => ta σ H1 fun x H2 => ∃ a C dx fs, x = .ref a ∧ H2 a = some (.ins C dx fs) ∧ Cls K C ∧ NoAttr K C f ∧ fs.length < 1000 ∧ D.nx σ (upd H2 a (.ins C dx (putF f y fs)))) : sFld K ta tv f D σ H := q
theorem a_getF {f : Str} (q : ta σ H fun x H1 => ∃ a C dx fs v, x = .ref a ∧ H1 a = some (.ins C dx fs) ∧ Cls K C ∧ NoAttr K C f ∧ List.lookup f fs = some v ∧ Q v H1) : tFld K ta f σ H Q := q
theorem a_tup {es : TA} (q : es σ H fun xs H1 => xs.length ≤ sizeLine ∧ ∀ p, H1 p = none → Q (.ref p) (upd H1 p (.tup xs))) : tTup es σ H Q := q
theorem a_lst {es : TA} (q : es σ H fun xs H1 => xs.length ≤ sizeLine ∧ ∀ p, H1 p = none → Q (.ref p) (upd H1 p (.lst xs))) : tLst es σ H Q := q
theorem a_ntup {xs : List V} (z : xs.length ≤ sizeLine) (q : ∀ p, H p = none → Q (.ref p) (upd H p (.tup xs))) : xs.length ≤ sizeLine ∧ ∀ p, H p = none → Q (.ref p) (upd H p (.tup xs)) := ⟨z, q⟩
theorem a_nlst {xs : List V} (z : xs.length ≤ sizeLine) (q : ∀ p, H p = none → Q (.ref p) (upd H p (.lst xs))) : xs.length ≤ sizeLine ∧ ∀ p, H p = none → Q (.ref p) (upd H p (.lst xs)) := ⟨z, q⟩
theorem a_sub {to ti : TE} {ts : TSet} {R : L2.St → Hp → Prop} (q : to σ H fun o H1 => ti σ H1 fun j H2 => ts o j v H2 fun H3 => R σ H3) : gSub to ti ts v σ H R := q
theorem a_set {p : Addr} {xs : List V} {k : Int} {j : Nat} {R : Hp → Prop} (h : H p = some (.lst xs)) (hj : ixN xs.length k = some j) (q : R (upd H p (.lst (xs.set j v)))) : rSetL (.ref p) (.int k) v H R := ⟨p, xs, k, j, rfl, rfl, h, hj, q⟩
theorem a_augS {to ti te : TE} {tget : V → V → Hp → VK → Prop} {tip : TIp} {ts : TSet} (q : to σ H fun o H1 => ti σ H1 fun j H2 => tget o j H2 fun x H3 => te σ H3 fun y H4 => tip x y H4 fun z H5 => ts o j z H5 fun H6 => D.nx σ H6) :
    tAugS to ti te tget tip ts D σ H := q
theorem a_saugS {to ti te : TE} {tget : V → V → Hp → VK → Prop} {tip : TIp} {ts : TSet} (q : to σ H fun o H1 => ti σ H1 fun j H2 => tget o j H2 fun x H3 => te σ H3 fun y H4 => tip x y H4 fun z H5 => ts o j z H5 fun H6 => u D σ H6) :
    tSeq (tAugS to ti te tget tip ts) u D σ H := q
theorem a_getL {p : Addr} {xs : List V} {k : Int} (h : SqL K H p xs) (hk : atI xs k = some v) (q : Q v H) : rIxL K (.ref p) (.int k) H Q := ⟨p, xs, k, v, rfl, rfl, h, hk, q⟩
theorem a_ip {f : Int → Int → Int} {a b : Int} (q : Q (.int (f a b)) H) : ipI f (.int a) (.int b) H Q := ⟨a, b, rfl, rfl, q⟩
theorem a_aug {ti : TIp} {x : V} (h : σ[i]? = some (some x)) (q : te σ H fun y H1 => ti x y H1 fun z H2 => D.nx (σ.set i (some z)) H2) : tAug i te ti D σ H := ⟨x, h, q⟩
theorem a_saug {ti : TIp} {x : V} (h : σ[i]? = some (some x)) (q : te σ H fun y H1 => ti x y H1 fun z H2 => u D (σ.set i (some z)) H2) : tSeq (tAug i te ti) u D σ H := ⟨x, h, q⟩
theorem a_par {j : Nat} {a b : V} (q : tl σ H fun vs H1 => ∃ x y, vs = [x, y] ∧ D.nx ((σ.set i (some x)).set j (some y)) H1) : tPar i j tl D σ H := q
theorem a_spar {j : Nat} (q : tl σ H fun vs H1 => ∃ x y, vs = [x, y] ∧ u D ((σ.set i (some x)).set j (some y)) H1) : tSeq (tPar i j tl) u D σ H := q
theorem a_two {R : V → V → Prop} {a b : V} (q : R a b) : ∃ x y, [a, b] = [x, y] ∧ R x y := ⟨a, b, rfl, q⟩
theorem a_cut (M : L2.St → Hp → Prop) (h : t { D with nx := M } σ H) (k : ∀ σ' H', M σ' H' → u D σ' H') : Evl.tCut t u D σ H := ⟨M, h, k⟩
theorem a_abs {j : Int} {R : Int → Prop} (q : R j) : ∃ i, [V.int j] = [V.int i] ∧ R i := ⟨j, rfl, q⟩
theorem a_gtup {n : Nat} {ts : TGs} {a : Addr} {xs : List V} {R : L2.St → Hp → Prop} (h : SqT K H a xs) (z : xs.length = n) (q : ts xs σ H R) : gTup K n ts (.ref a) σ H R := ⟨a, xs, rfl, h, z, q⟩
theorem a_gcons {ts : TGs} {xs : List V} {R : L2.St → Hp → Prop} (q : g v σ H fun σ' H' => ts xs σ' H' R) : gCons g ts (v :: xs) σ H R := ⟨v, xs, rfl, q⟩
theorem a_gnil {R : L2.St → Hp → Prop} (q : R σ H) : gNil [] σ H R := ⟨rfl, q⟩
end
theorem a_pairs {tk tv : TE} {r : List (TE × TE)} {σ : L2.St} {H : Hp} {R : List (V × V) → Hp → Prop} (q : tk σ H fun k H1 => tv σ H1 fun v H2 => tPairs r σ H2 fun ps H3 => R ((k, v) :: ps) H3) : tPairs ((tk, tv) :: r) σ H R := q
theorem a_pairs0 {σ : L2.St} {H : Hp} {R : List (V × V) → Hp → Prop} (q : R [] H) : tPairs [] σ H R := q
theorem a_bm {K : Frag} {T : String} {r : V → List V → Hp → VK → Prop} {to : TE} {t : TA} {σ : L2.St} {H : Hp} {Q : VK} (q : to σ H fun x H1 => tyV K T x H1 ∧ t σ H1 fun xs H2 => r x xs H2 Q) : tBM K T r to t σ H Q := q
end EL

/- part W -/
/-! values by what they are: numbers, texts, tracked lists, tuples, dicts, books -/
namespace EL
open PySem PySem.Spec PyProof.Rows L2
open PySem.W (Frag)
/-- the built-in names that stand for themselves -/
structure Bi (mg : Str → Option Value) : Prop where
  len_ : mg "len" = none
  isinstance_ : mg "isinstance" = none
  int_ : mg "int" = none
  bool_ : mg "bool" = none
  str_ : mg "str" = none
  list_ : mg "list" = none
  tuple_ : mg "tuple" = none
  range_ : mg "range" = none
  enumerate_ : mg "enumerate" = none
  zip_ : mg "zip" = none
  abs_ : mg "abs" = none
  repr_ : mg "repr" = none
  min_ : mg "min" = none
  max_ : mg "max" = none
  sum_ : mg "sum" = none
  all_ : mg "all" = none
/-- a constant of the program -/
theorem pe_gc {X : Cx} {x : Str} {v : V} {pos : Pos} (hg : Gl X x) (h : ∃ u, X.mg x = some u ∧ L2.RelV v u) (hdb : (x == ("__debug__" : Str)) = false := by decide) : PE X (.Name x pos) (tC v) := by
  obtain ⟨u, h1, h2⟩ := h
  exact pe_glob hg h1 h2 hdb
/-- what isinstance asks of an own class -/
structure OwnC (K : Frag) (C : Addr) : Prop where
  cl : Cls K C
  cls : PySem.W.findIn K (.ref C) "__class__" = some (some (.builtin "object.__class__"))
  get : PySem.W.specialIn K (.builtin "object.__class__") "__get__" = some (some (.builtin "getset_descriptor.__get__"))
  tak : PySem.W.takesIn K (.builtin "object.__class__") = some true
  obj : PySem.W.mroIn K C (.type "object") = some true
  kInt : PySem.W.kitOne K (.ref C) (.type "int") = some false
  kBool : PySem.W.kitOne K (.ref C) (.type "bool") = some false
  kStr : PySem.W.kitOne K (.ref C) (.type "str") = some false
  kTup : PySem.W.kitOne K (.ref C) (.type "tuple") = some false
  kLst : PySem.W.kitOne K (.ref C) (.type "list") = some false
/-- a value that is known -/
inductive Th (K : Frag) (H : Hp) : V → Prop
  | non : Th K H .non
  | bl (b : Bool) : Th K H (.bl b)
  | int (i : Int) : Th K H (.int i)
  | str (x : Str) : Th K H (.str x)
  | lst {a : Addr} {xs : List V} (h : H a = some (.lst xs)) : Th K H (.ref a)
  | tup {a : Addr} {xs : List V} (h : H a = some (.tup xs)) : Th K H (.ref a)
  | dct {a : Addr} {kvs : List (Key × V)} (h : H a = some (.dK kvs)) : Th K H (.ref a)
  | ins {a C dx : Addr} {fs : List (Str × V)} (h : H a = some (.ins C dx fs)) (c : OwnC K C) : Th K H (.ref a)
  | dtt {a : Addr} {kvs : List (List Key × V)} (h : H a = some (.dT kvs)) : Th K H (.ref a)
def isI : V → Bool | .int _ => true | .bl _ => true | _ => false
def isB : V → Bool | .bl _ => true | _ => false
def isS : V → Bool | .str _ => true | _ => false
def obT : Option HO → Bool | some (.tup _) => true | _ => false
def obL : Option HO → Bool | some (.lst _) => true | _ => false
def isT (H : Hp) : V → Bool | .ref a => obT (H a) | _ => false
def isL (H : Hp) : V → Bool | .ref a => obL (H a) | _ => false
structure KitOf (K : Frag) (H : Hp) (x : V) (t : Value) : Prop where
  ty : TyX K H x t
  int : PySem.W.kitOne K t (.type "int") = some (isI x)
  bool : PySem.W.kitOne K t (.type "bool") = some (isB x)
  str : PySem.W.kitOne K t (.type "str") = some (isS x)
  tup : PySem.W.kitOne K t (.type "tuple") = some (isT H x)
  lst : PySem.W.kitOne K t (.type "list") = some (isL H x)
theorem Th.kit {K : Frag} {H : Hp} {x : V} (h : Th K H x) : ∃ t, KitOf K H x t := by
  cases h with
  | non => exact ⟨_, .base .non, kit_ty (by show _ = some false; decide +kernel), kit_ty (by show _ = some false; decide +kernel), kit_ty (by show _ = some false; decide +kernel), kit_ty (by show _ = some false; decide +kernel), kit_ty (by show _ = some false; decide +kernel)⟩
  | bl b => exact ⟨_, .base (.bl b), kit_ty (by show _ = some true; decide +kernel), kit_ty (by show _ = some true; decide +kernel), kit_ty (by show _ = some false; decide +kernel), kit_ty (by show _ = some false; decide +kernel), kit_ty (by show _ = some false; decide +kernel)⟩
  | int i => exact ⟨_, .base (.int i), kit_ty (by show _ = some true; decide +kernel), kit_ty (by show _ = some false; decide +kernel), kit_ty (by show _ = some false; decide +kernel), kit_ty (by show _ = some false; decide +kernel), kit_ty (by show _ = some false; decide +kernel)⟩
  | str s => exact ⟨_, .base (.str s), kit_ty (by show _ = some false; decide +kernel), kit_ty (by show _ = some false; decide +kernel), kit_ty (by show _ = some true; decide +kernel), kit_ty (by show _ = some false; decide +kernel), kit_ty (by show _ = some false; decide +kernel)⟩
  | @lst a xs h =>
    have e1 : isT H (.ref a) = false := by show obT (H a) = _; rw [h]; rfl
    have e2 : isL H (.ref a) = true := by show obL (H a) = _; rw [h]; rfl
    refine ⟨_, .base (.lst h), kit_ty (by show _ = some false; decide +kernel), kit_ty (by show _ = some false; decide +kernel), kit_ty (by show _ = some false; decide +kernel), ?_, ?_⟩
    · rw [e1]; exact kit_ty (by show _ = some _; decide +kernel)
    · rw [e2]; exact kit_ty (by show _ = some _; decide +kernel)
  | @tup a xs h =>
    have e1 : isT H (.ref a) = true := by show obT (H a) = _; rw [h]; rfl
    have e2 : isL H (.ref a) = false := by show obL (H a) = _; rw [h]; rfl
    refine ⟨_, .base (.tup h), kit_ty (by show _ = some false; decide +kernel), kit_ty (by show _ = some false; decide +kernel), kit_ty (by show _ = some false; decide +kernel), ?_, ?_⟩
    · rw [e1]; exact kit_ty (by show _ = some _; decide +kernel)
    · rw [e2]; exact kit_ty (by show _ = some _; decide +kernel)
  | @dct a kvs h =>
    have e1 : isT H (.ref a) = false := by show obT (H a) = _; rw [h]; rfl
    have e2 : isL H (.ref a) = false := by show obL (H a) = _; rw [h]; rfl
    refine ⟨_, .base (.dK h), kit_ty (by show _ = some false; decide +kernel), kit_ty (by show _ = some false; decide +kernel), kit_ty (by show _ = some false; decide +kernel), ?_, ?_⟩
    · rw [e1]; exact kit_ty (by show _ = some _; decide +kernel)
    · rw [e2]; exact kit_ty (by show _ = some _; decide +kernel)
  | @dtt a kvs h =>
    have e1 : isT H (.ref a) = false := by show obT (H a) = _; rw [h]; rfl
    have e2 : isL H (.ref a) = false := by show obL (H a) = _; rw [h]; rfl
    refine ⟨_, .base (.dT h), kit_ty (by show _ = some false; decide +kernel), kit_ty (by show _ = some false; decide +kernel), kit_ty (by show _ = some false; decide +kernel), ?_, ?_⟩
    · rw [e1]; exact kit_ty (by show _ = some _; decide +kernel)
    · rw [e2]; exact kit_ty (by show _ = some _; decide +kernel)
  | @ins a C dx fs h c =>
    have e1 : isT H (.ref a) = false := by show obT (H a) = _; rw [h]; rfl
    have e2 : isL H (.ref a) = false := by show obL (H a) = _; rw [h]; rfl
    refine ⟨_, .base (.ins h c.cl c.cls c.get c.tak c.obj), c.kInt, c.kBool, c.kStr, ?_, ?_⟩
    · rw [e1]; exact c.kTup
    · rw [e2]; exact c.kLst
/-- a known value stays known -/
theorem Th.stay {K : Frag} {b : Addr} {l : List V} {H H' : Hp} {x : V} (h : Th K H x) (hb : H b = some (.lst l)) {l' : List V} (hb' : H' b = some (.lst l')) (k : Kp b H H') : Th K H' x := by
  cases h with
  | non => exact .non
  | bl b => exact .bl b
  | int i => exact .int i
  | str s => exact .str s
  | @lst a xs h =>
    by_cases e : a = b
    · subst e; exact .lst hb'
    · exact .lst (k _ _ e h)
  | @tup a xs h => exact .tup (k _ _ (fun z => by subst z; rw [hb] at h; cases h) h)
  | @dct a xs h => exact .dct (k _ _ (fun z => by subst z; rw [hb] at h; cases h) h)
  | @ins a C dx fs h c => exact .ins (k _ _ (fun z => by subst z; rw [hb] at h; cases h) h) c
  | @dtt a kvs h => exact .dtt (k _ _ (fun z => by subst z; rw [hb] at h; cases h) h)
section
variable {K : Frag} {H : Hp} {Q : VK} {x : V} {t : Value}
theorem n_isT {m : String} {b : Bool} (k : TyX K H x t) (h : PySem.W.kitOne K t (.type m) = some b) (q : Q (.bl b) H) : rIsiU K [x, .ty m] H Q := n_isiX k h q
theorem n_isInt (k : KitOf K H x t) (q : Q (.bl (isI x)) H) : rIsiU K [x, .ty "int"] H Q := n_isT k.ty k.int q
theorem n_isBool (k : KitOf K H x t) (q : Q (.bl (isB x)) H) : rIsiU K [x, .ty "bool"] H Q := n_isT k.ty k.bool q
theorem n_isStr (k : KitOf K H x t) (q : Q (.bl (isS x)) H) : rIsiU K [x, .ty "str"] H Q := n_isT k.ty k.str q
theorem n_isTup (k : KitOf K H x t) (q : Q (.bl (isT H x)) H) : rIsiU K [x, .ty "tuple"] H Q := n_isT k.ty k.tup q
theorem n_isLst (k : KitOf K H x t) (q : Q (.bl (isL H x)) H) : rIsiU K [x, .ty "list"] H Q := n_isT k.ty k.lst q
/-- isinstance(x, (list, tuple)), the tuple just laid -/
theorem n_isLT {p : Addr} (k : KitOf K H x t) (hp : H p = some (.tup [.ty "list", .ty "tuple"])) (q : Q (.bl (isL H x || isT H x)) H) : rIsiU K [x, .ref p] H Q := by
  refine .inr ⟨x, p, _, t, [.type "list", .type "tuple"], isL H x || isT H x, rfl, hp, .cons (.ty "list") (.cons (.ty "tuple") .nil), k.ty, ?_, q⟩
  refine kitAny_cons k.lst (fun e => ?_) (fun e => by rw [e]; rfl)
  rw [e]
  refine kitAny_cons k.tup (fun e2 => ?_) (fun e2 => by rw [e2]; rfl)
  rw [e2]
  rfl
end
theorem _root_.L2.Same.nw {H H1 : Hp} {p : Addr} {o : HO} (k : Same H H1) (h : H1 p = none) : Same H (upd H1 p o) := fun a u e => by
  have q := k a u e
  rw [upd_ne (ne_of_none q h)]
  exact q
/-- an object that is new since H may change -/
theorem _root_.L2.Same.mu {H H1 : Hp} {p : Addr} {o : HO} (k : Same H H1) (h : H p = none) : Same H (upd H1 p o) := fun a u e => by
  rw [upd_ne (ne_of_none e h)]
  exact k a u e
theorem Th.same {K : Frag} {H H' : Hp} {x : V} (h : Th K H x) (k : Same H H') : Th K H' x := by
  cases h with
  | non => exact .non
  | bl b => exact .bl b
  | int i => exact .int i
  | str s => exact .str s
  | lst h => exact .lst (k _ _ h)
  | tup h => exact .tup (k _ _ h)
  | dct h => exact .dct (k _ _ h)
  | ins h c => exact .ins (k _ _ h) c
  | dtt h => exact .dtt (k _ _ h)
/-! ### the class of a sequence; isinstance(x, (list, tuple)) of one -/
theorem _root_.L2.SqT.ty {K : Frag} {H : Hp} {a : Addr} {xs : List V} (h : SqT K H a xs) : TyX K H (.ref a) (.type "tuple") := by
  rcases h with (h | ⟨o, h⟩) | ⟨o, its, n, h, c, _⟩
  · exact .base (.tup h)
  · exact .fTuple h
  · exact .kTuple h c
theorem n_isLTl {K : Frag} {H : Hp} {Q : VK} {x : V} {p : Addr} (ty : TyX K H x (.type "list")) (hp : H p = some (.tup [.ty "list", .ty "tuple"])) (q : Q (.bl true) H) : rIsiU K [x, .ref p] H Q :=
  .inr ⟨x, p, _, _, [.type "list", .type "tuple"], true, rfl, hp, .cons (.ty "list") (.cons (.ty "tuple") .nil), ty, kitAny_cons (b := true) (kit_ty (by decide +kernel)) (fun e => nomatch e) (fun _ => rfl), q⟩
theorem n_isLTt {K : Frag} {H : Hp} {Q : VK} {x : V} {p : Addr} (ty : TyX K H x (.type "tuple")) (hp : H p = some (.tup [.ty "list", .ty "tuple"])) (q : Q (.bl true) H) : rIsiU K [x, .ref p] H Q :=
  .inr ⟨x, p, _, _, [.type "list", .type "tuple"], true, rfl, hp, .cons (.ty "list") (.cons (.ty "tuple") .nil), ty,
    kitAny_cons (b := false) (kit_ty (by decide +kernel)) (fun _ => kitAny_cons (b := true) (kit_ty (by decide +kernel)) (fun e => nomatch e) (fun _ => rfl)) (fun e => nomatch e), q⟩
/-- a list or a tuple, tracked or of the program's top -/
def SqA (K : Frag) (H : Hp) (a : Addr) (xs : List V) : Prop := H a = some (.lst xs) ∨ SqT K H a xs
theorem _root_.L2.SqT.same {K : Frag} {H H' : Hp} {a : Addr} {xs : List V} (h : SqT K H a xs) (s : Same H H') : SqT K H' a xs := by
  rcases h with (h | ⟨o, h⟩) | h
  · exact .inl (.inl (s _ _ h))
  · exact .inl (.inr ⟨o, s _ _ h⟩)
  · exact .inr h
theorem SqA.same {K : Frag} {H H' : Hp} {a : Addr} {xs : List V} (h : SqA K H a xs) (s : Same H H') : SqA K H' a xs := by
  rcases h with h | (h | ⟨o, h⟩) | h
  · exact .inl (s _ _ h)
  · exact .inr (.inl (.inl (s _ _ h)))
  · exact .inr (.inl (.inr ⟨o, s _ _ h⟩))
  · exact .inr (.inr h)
theorem SqA.isLT {K : Frag} {H : Hp} {Q : VK} {a p : Addr} {xs : List V} (h : SqA K H a xs) (hp : H p = some (.tup [.ty "list", .ty "tuple"])) (q : Q (.bl true) H) : rIsiU K [.ref a, .ref p] H Q := by
  rcases h with h | h
  · exact n_isLTl (.base (.lst h)) hp q
  · exact n_isLTt h.ty hp q
theorem SqA.len {K : Frag} {H : Hp} {a : Addr} {xs : List V} (h : SqA K H a xs) : SqL K H a xs ∨ SqT K H a xs := h.elim (fun h => .inl (SqL.of h)) .inr
theorem n_tuple {K : Frag} {H : Hp} {Q : VK} {a : Addr} {xs : List V} (h : SqA K H a xs) (q : ∀ r H', Same H H' → SqT K H' r xs → Q (.ref r) H') : rTuple K [.ref a] H Q := by
  rcases h with h | h
  · exact ⟨a, xs, rfl, .inl ⟨SqL.of h, fun l hl => q l _ (L2.Same.nw (Same.refl _) hl) (SqT.of upd_same)⟩⟩
  · exact ⟨a, xs, rfl, .inr ⟨h, q a H (Same.refl _) h⟩⟩
theorem SqT.kp {K : Frag} {H H' : Hp} {a o : Addr} {xs : List V} {C dx : Addr} {fs : List (Str × V)} (h : SqT K H a xs) (ho : H o = some (.ins C dx fs)) (k : Kp o H H') : SqT K H' a xs := by
  rcases h with (h | ⟨o, h⟩) | h
  · exact .inl (.inl (k _ _ (fun z => by subst z; rw [ho] at h; cases h) h))
  · exact .inl (.inr ⟨_, k _ _ (fun z => by subst z; rw [ho] at h; cases h) h⟩)
  · exact .inr h
theorem SqA.kp {K : Frag} {H H' : Hp} {a o : Addr} {xs : List V} {C dx : Addr} {fs : List (Str × V)} (h : SqA K H a xs) (ho : H o = some (.ins C dx fs)) (k : Kp o H H') : SqA K H' a xs := by
  rcases h with h | h
  · exact .inl (k _ _ (fun z => by subst z; rw [ho] at h; cases h) h)
  · exact .inr (SqT.kp h ho k)
theorem n_ixA {K : Frag} {H : Hp} {Q : VK} {p : Addr} {xs : List V} {i : Int} {v : V} (h : SqA K H p xs) (hi : atI xs i = some v) (q : Q v H) : rIx K (.ref p) (.int i) H Q := h.elim (fun h => n_ixL (SqL.of h) hi q) fun h => n_ixT h hi q
/-! ### loops -/
/-- the loop itself, its walk made -/
def Lp (J : It) (g : TG) (tb : TS) (D : Ends) (σ : L2.St) (H : Hp) : Prop := ∃ W : Nat → Nat → L2.St → Hp → Prop, (∃ m, W 0 m σ H) ∧ ∀ (i m : Nat) (σ : L2.St) (H : Hp), W i m σ H →
  (J.stop i H ∧ D.nx σ H) ∨ (J.go i H ∧ ∃ N : L2.St → Hp → Prop, (∀ σ' H', N σ' H' → ∃ m', m' < m ∧ W (i + 1) m' σ' H') ∧ ∀ x H', J.yld i H x H' → g x σ H' fun σ2 H2 => tb { nx := N, rt := D.rt, bk := D.nx, ct := N } σ2 H2)
section
variable {σ : L2.St} {H : Hp} {K : Frag} {D : Ends} {g : TG} {tb u : TS} {wi : TI} {ta : TA} {te : TE} {R : It → Hp → Prop}
theorem a_for (q : wi σ H fun J H1 => Lp J g tb D σ H1) : tFor wi g tb D σ H := q
theorem a_sfor (q : wi σ H fun J H1 => Lp J g tb { D with nx := u D } σ H1) : tSeq (tFor wi g tb) u D σ H := q
theorem a_iE1 (q : ta σ H fun vs H1 => ∃ a xs, vs = [.ref a] ∧ SqT K H1 a xs ∧ R (Ites K a 0) H1) : iE1 K ta σ H R := q
theorem a_iEs {k : Int} (q : ta σ H fun vs H1 => ∃ a xs, vs = [.ref a] ∧ SqT K H1 a xs ∧ R (Ites K a k) H1) : iEs K k ta σ H R := q
theorem a_iEz {k : Int} (q : ta σ H fun vs H1 => ∃ a b xs ys, vs = [.ref a, .ref b] ∧ SqT K H1 a xs ∧ SqT K H1 b ys ∧ R (Itez K a b k) H1) : iEz K k ta σ H R := q
theorem a_iEnum (q : ta σ H fun vs H1 => ∃ a xs, vs = [.ref a] ∧ SqL K H1 a xs ∧ R (Ite K a) H1) : iEnum K ta σ H R := q
theorem a_iSeq (q : iList K te σ H R ∨ iTup K te σ H R) : iSeq K te σ H R := q
theorem a_iTup (q : te σ H fun x H1 => ∃ a, x = .ref a ∧ (∃ xs, SqT K H1 a xs) ∧ R (Itt K a) H1) : iTup K te σ H R := q
theorem a_iList (q : te σ H fun x H1 => ∃ a, x = .ref a ∧ (∃ xs, SqL K H1 a xs) ∧ R (Itl K a) H1) : iList K te σ H R := q
theorem lp_it {J : It} {n : Nat} {G : Hp → Prop} {Y : Nat → Hp → V → Hp → Prop} (w : Walk J n G Y) (Pv : Nat → L2.St → Hp → Prop) (h0 : Pv 0 σ H) (hG : ∀ i σ H, i ≤ n → Pv i σ H → G H)
    (hs : ∀ i x σ H H', i < n → Pv i σ H → Y i H x H' → g x σ H' fun σ2 H2 => tb { nx := Pv (i + 1), rt := D.rt, bk := D.nx, ct := Pv (i + 1) } σ2 H2) (hd : ∀ σ H, Pv n σ H → D.nx σ H) : Lp J g tb D σ H := for_it w Pv h0 hG hs hd
theorem lp_range {lo : Int} {n : Nat} (Pv : Nat → L2.St → Hp → Prop) (h0 : Pv 0 σ H) (hs : ∀ i σ H, i < n → Pv i σ H → g (.int (lo + i)) σ H fun σ2 H2 => tb { nx := Pv (i + 1), rt := D.rt, bk := D.nx, ct := Pv (i + 1) } σ2 H2) (hd : ∀ σ H, Pv n σ H → D.nx σ H) :
    Lp (Itr lo n) g tb D σ H := for_range Pv h0 hs hd
end
/-! ### comprehensions -/
def Lc (J : It) (g : TG) (tt : TT) (te : TE) (vs : List Nat) (σ : L2.St) (H1 : Hp) (D : Addr) (Qd : Hp → Prop) : Prop := ∃ W : Nat → Nat → Hp → Prop, (∃ m, W 0 m (upd H1 D (.lst []))) ∧ ∀ (i m : Nat) (H : Hp), W i m H →
  (J.stop i H ∧ Qd H) ∨ (J.go i H ∧ ∃ Nx : Hp → Prop, (∀ H', Nx H' → ∃ m', m' < m ∧ W (i + 1) m' H') ∧ ∀ (x : V) (H' : Hp), J.yld i H x H' → g x (wipe σ vs) H' fun σ2 H2 => wipe σ2 vs = wipe σ vs ∧
    tt σ2 H2 fun b H3 => if b = true then te σ2 H3 fun y H4 => ∃ acc, H4 D = some (.lst acc) ∧ acc.length < sizeLine ∧ Nx (upd H4 D (.lst (acc ++ [y]))) else Nx H3)
section
variable {σ : L2.St} {H : Hp} {Q : VK} {g : TG} {tt : TT} {te : TE} {wi : TI} {vs : List Nat}
theorem a_lc (q : wi σ H fun J H1 => ∀ D, H1 D = none → Lc J g tt te vs σ H1 D fun H2 => Q (.ref D) H2) : tLc wi g tt te vs σ H Q := q
theorem lc_of {J : It} {n : Nat} {G : Hp → Prop} {Y : Nat → Hp → V → Hp → Prop} (w : Walk J n G Y) {H1 : Hp} {D : Addr} {Qd : Hp → Prop} (Pv : Nat → Hp → Prop) (h0 : Pv 0 (upd H1 D (.lst []))) (hG : ∀ i H, i ≤ n → Pv i H → G H)
    (hs : ∀ i x H H', i < n → Pv i H → Y i H x H' → g x (wipe σ vs) H' fun σ2 H2 => wipe σ2 vs = wipe σ vs ∧ tt σ2 H2 fun b H3 => if b = true then te σ2 H3 fun y H4 => ∃ acc, H4 D = some (.lst acc) ∧ acc.length < sizeLine ∧ Pv (i + 1) (upd H4 D (.lst (acc ++ [y]))) else Pv (i + 1) H3)
    (hd : ∀ H, Pv n H → Qd H) : Lc J g tt te vs σ H1 D Qd := lc_it w Pv h0 hG hs hd
theorem a_yes {R : Bool → Hp → Prop} (q : R true H) : tYes σ H R := q
theorem a_wp {A B : Prop} (a : A) (b : B) : A ∧ B := ⟨a, b⟩
theorem a_sl {r : V → Option Int → Option Int → Hp → VK → Prop} {tl th : TO} (q : te σ H fun x H1 => tl σ H1 fun l H2 => th σ H2 fun u H3 => r x l u H3 Q) : tSl r te tl th σ H Q := q
theorem a_nop {R : Option Int → Hp → Prop} (q : R none H) : tNoPart σ H R := q
theorem a_prt {R : Option Int → Hp → Prop} (q : te σ H fun x H1 => ∃ i, x = .int i ∧ R (some i) H1) : tPart te σ H R := q
theorem a_ex1 {R : Int → Prop} {i : Int} (q : R i) : ∃ j, V.int i = V.int j ∧ R j := ⟨i, rfl, q⟩
end
section
variable {σ : L2.St} {H : Hp} {ta : TA} {R : It → Hp → Prop}
theorem a_rng1 (q : ta σ H fun vs H1 => ∃ j : Int, vs = [.int j] ∧ -2 ^ 62 ≤ j ∧ j < 2 ^ 62 ∧ R (Itr 0 j.toNat) H1) : iRng1 ta σ H R := q
theorem a_rng2 (q : ta σ H fun vs H1 => ∃ i j : Int, vs = [.int i, .int j] ∧ (-2 ^ 62 ≤ i ∧ i < 2 ^ 62 ∧ -2 ^ 62 ≤ j ∧ j < 2 ^ 62) ∧ R (Itr i (j - i).toNat) H1) : iRng2 ta σ H R := q
end
end EL

/- part T -/
/-! tracked data: what is laid and known, with empty dicts; repr of it; t[::-1] of a tuple -/
namespace EL
open PySem PySem.Spec PyProof.Rows L2
open PySem.W (Frag)
mutual
inductive Tk (H : Hp) : V → PyData → Prop
  | non : Tk H .non .none
  | bl (b : Bool) : Tk H (.bl b) (.bool b)
  | int (i : Int) : Tk H (.int i) (.int i)
  | str (x : Str) : Tk H (.str x) (.str x)
  | lst {a : Addr} {xs : List V} {ds : List PyData} (h : H a = some (.lst xs)) (t : TkAll H xs ds) : Tk H (.ref a) (.list ds)
  | tup {a : Addr} {xs : List V} {ds : List PyData} (h : H a = some (.tup xs)) (t : TkAll H xs ds) : Tk H (.ref a) (.tuple ds)
  | dct {a : Addr} (h : H a = some (.dK [])) : Tk H (.ref a) (.dict [])
inductive TkAll (H : Hp) : List V → List PyData → Prop
  | nil : TkAll H [] []
  | cons {v : V} {vs : List V} {d : PyData} {ds : List PyData} (h : Tk H v d) (t : TkAll H vs ds) : TkAll H (v :: vs) (d :: ds)
end
mutual
theorem tk_same {H H' : Hp} (s : Same H H') : ∀ (d : PyData) (v : V), Tk H v d → Tk H' v d
  | .none, _, h => by cases h; exact .non
  | .bool _, _, h => by cases h; exact .bl _
  | .int _, _, h => by cases h; exact .int _
  | .str _, _, h => by cases h; exact .str _
  | .list ds, _, h => by
    cases h with
    | lst a t => exact .lst (s _ _ a) (tk_sameAll s ds _ t)
  | .tuple ds, _, h => by
    cases h with
    | tup a t => exact .tup (s _ _ a) (tk_sameAll s ds _ t)
  | .dict _, _, h => by
    cases h with
    | dct a => exact .dct (s _ _ a)
theorem tk_sameAll {H H' : Hp} (s : Same H H') : ∀ (ds : List PyData) (vs : List V), TkAll H vs ds → TkAll H' vs ds
  | [], _, h => by cases h; exact .nil
  | d :: ds, _, h => by
    cases h with
    | cons h1 h2 => exact .cons (tk_same s d _ h1) (tk_sameAll s ds _ h2)
end
theorem Tk.same {H H' : Hp} {v : V} {d : PyData} (h : Tk H v d) (s : Same H H') : Tk H' v d := tk_same s d v h
theorem TkAll.same {H H' : Hp} {v : List V} {d : List PyData} (h : TkAll H v d) (s : Same H H') : TkAll H' v d := tk_sameAll s d v h
theorem TkAll.mem {H : Hp} : ∀ {vs : List V} {ds : List PyData}, TkAll H vs ds → ∀ y ∈ vs, ∃ e, e ∈ ds ∧ Tk H y e
  | [], _, _, _, h => nomatch h
  | v :: vs, _, .cons h t, y, hy => by
    rcases List.mem_cons.mp hy with rfl | q
    · exact ⟨_, List.mem_cons_self .., h⟩
    · obtain ⟨e, m, k⟩ := TkAll.mem t y q
      exact ⟨e, List.mem_cons_of_mem _ m, k⟩
theorem TkAll.app {H : Hp} : ∀ {vs ws : List V} {ds es : List PyData}, TkAll H vs ds → TkAll H ws es → TkAll H (vs ++ ws) (ds ++ es)
  | [], _, _, _, .nil, h => h
  | _ :: _, _, _, _, .cons h t, k => .cons h (TkAll.app t k)
theorem TkAll.at_ {H : Hp} {vs : List V} {ds : List PyData} (h : TkAll H vs ds) : ∀ (i : Nat) (v : V), vs[i]? = some v → ∃ d, ds[i]? = some d ∧ Tk H v d := by
  induction vs generalizing ds with
  | nil => intro i v e; cases i <;> cases e
  | cons w ws ih =>
    intro i v e
    cases h with
    | cons h1 h2 =>
      cases i with
      | zero => cases e; exact ⟨_, rfl, h1⟩
      | succ i => exact ih h2 i v e
theorem tk_ints {H : Hp} : ∀ (js : List Int), TkAll H (js.map V.int) (js.map PyData.int)
  | [] => .nil
  | j :: r => .cons (.int j) (tk_ints r)
theorem Tk.th {K : Frag} {H : Hp} {v : V} {d : PyData} (h : Tk H v d) : Th K H v := by
  cases h with
  | non => exact .non
  | bl b => exact .bl b
  | int i => exact .int i
  | str x => exact .str x
  | lst h _ => exact .lst h
  | tup h _ => exact .tup h
  | dct h => exact .dct h
theorem Tk.el {H : Hp} {q : Addr} {d : PyData} {xs : List V} (h : Tk H (.ref q) d) (e : H q = some (.tup xs)) : ∃ ds, d = .tuple ds ∧ TkAll H xs ds := by
  cases h with
  | lst h _ => rw [h] at e; cases e
  | tup h t => rw [h] at e; cases e; exact ⟨_, rfl, t⟩
  | dct h => rw [h] at e; cases e
theorem Tk.elL {H : Hp} {q : Addr} {d : PyData} {xs : List V} (h : Tk H (.ref q) d) (e : H q = some (.lst xs)) : ∃ ds, d = .list ds ∧ TkAll H xs ds := by
  cases h with
  | lst h t => rw [h] at e; cases e; exact ⟨_, rfl, t⟩
  | tup h _ => rw [h] at e; cases e
  | dct h => rw [h] at e; cases e
theorem Tk.els {K : Frag} {H : Hp} {x : V} {d : PyData} (h : Tk H x d) (q : Addr) (xs : List V) (ex : x = .ref q) (e : H q = some (.tup xs)) : ∀ y ∈ xs, Th K H y := fun y hy => by
  subst ex
  obtain ⟨ds, _, t⟩ := h.el e
  obtain ⟨e, _, k⟩ := t.mem y hy
  exact k.th
/-! ### the heap without the bag -/
def wo (b : Addr) (H : Hp) : Hp := fun a => if a = b then none else H a
theorem wo_ne {b a : Addr} {H : Hp} {o : HO} (n : a ≠ b) (h : H a = some o) : wo b H a = some o := by unfold wo; rw [if_neg n]; exact h
theorem wo_same {b : Addr} {H : Hp} : Same (wo b H) H := fun a o h => by
  unfold wo at h
  by_cases e : a = b
  · rw [if_pos e] at h; cases h
  · rw [if_neg e] at h; exact h
theorem wo_kp {b : Addr} {H H' : Hp} (k : Kp b H H') : Same (wo b H) (wo b H') := fun a o h => by
  unfold wo at h
  by_cases e : a = b
  · rw [if_pos e] at h; cases h
  · rw [if_neg e] at h; exact wo_ne e (k a o e h)
theorem wo_sm {b : Addr} {H H' : Hp} (s : Same H H') : Same (wo b H) (wo b H') := wo_kp (same_kp s)
/-- known apart from the bag -/
abbrev TkB (b : Addr) (H : Hp) (v : V) (d : PyData) : Prop := Tk (wo b H) v d
theorem TkB.tk {b : Addr} {H : Hp} {v : V} {d : PyData} (h : TkB b H v d) : Tk H v d := h.same wo_same
theorem TkB.kp {b : Addr} {H H' : Hp} {v : V} {d : PyData} (h : TkB b H v d) (k : Kp b H H') : TkB b H' v d := h.same (wo_kp k)
/-! ### what can be shown -/
mutual
def gd : PyData → Bool
  | .none | .bool _ => true
  | .int i => decide (i.natAbs < 10 ^ 40)
  | .str x => x.cps.toList.all fun c => decide (c < 16 ^ 8)
  | .list xs | .tuple xs => gdAll xs
  | .dict kvs => kvs.isEmpty
def gdAll : List PyData → Bool
  | [] => true
  | x :: xs => gd x && gdAll xs
end
mutual
def noL : PyData → Bool
  | .list _ => false
  | .tuple xs => noLAll xs
  | _ => true
def noLAll : List PyData → Bool
  | [] => true
  | x :: xs => noL x && noLAll xs
end
structure Fine (d : PyData) : Prop where
  good : gd d = true
  bulk : d.bulk ≤ 300000
  depth : d.depth ≤ 40
  mix : d.hasDict = true → noL d = true
theorem pow10 : (10 : Nat) ^ 40 ≤ 2 ^ 1920 := by decide +kernel
mutual
theorem gd_showable : ∀ (d : PyData), gd d = true → d.showable = true
  | .none, _ => rfl
  | .bool _, _ => rfl
  | .str _, _ => rfl
  | .int i, h => by
    have q : i.natAbs < 10 ^ 40 := by simpa [gd] using h
    have q2 : i.natAbs < 2 ^ 1920 := Nat.lt_of_lt_of_le q pow10
    show decide (i.natAbs.log2 < 1920) = true
    rw [decide_eq_true_iff]
    by_cases e : i.natAbs = 0
    · rw [e]; decide
    · exact (Nat.log2_lt e).mpr q2
  | .list xs, h => gd_showableAll xs h
  | .tuple xs, h => gd_showableAll xs h
  | .dict [], _ => rfl
  | .dict (_ :: _), h => by cases h
theorem gd_showableAll : ∀ (ds : List PyData), gdAll ds = true → PyData.showableAll ds = true
  | [], _ => rfl
  | d :: ds, h => by
    have q : gd d = true ∧ gdAll ds = true := by simpa [gdAll] using h
    show (d.showable && PyData.showableAll ds) = true
    rw [gd_showable d q.1, gd_showableAll ds q.2]
    rfl
end
theorem int_shown {i : Int} (h : i.natAbs < 10 ^ 40) : (PyData.shown (.int i)).length ≤ 42 := by
  have q := int_text_length_le10 (a := i) (k := 40) (by decide) h
  have e : (PyData.shown (.int i)).length = (toString i).length := by
    show (Str.ofString (toString i)).length = _
    exact PySem.ofString_length _
  omega
mutual
theorem gd_short : ∀ (d : PyData), gd d = true → d.leavesShort 42 = true
  | .none, _ => rfl
  | .bool _, _ => rfl
  | .str _, h => h
  | .int i, h => by
    have q : i.natAbs < 10 ^ 40 := by simpa [gd] using h
    show decide (_ ≤ 42) = true
    rw [decide_eq_true_iff]
    exact int_shown q
  | .list xs, h => gd_shortAll xs h
  | .tuple xs, h => gd_shortAll xs h
  | .dict [], _ => rfl
  | .dict (_ :: _), h => by cases h
theorem gd_shortAll : ∀ (ds : List PyData), gdAll ds = true → PyData.leavesShortAll 42 ds = true
  | [], _ => rfl
  | d :: ds, h => by
    have q : gd d = true ∧ gdAll ds = true := by simpa [gdAll] using h
    show (d.leavesShort 42 && PyData.leavesShortAll 42 ds) = true
    rw [gd_short d q.1, gd_shortAll ds q.2]
    rfl
end
theorem Fine.len {d : PyData} (h : Fine d) : d.shown.length ≤ sizeLine := by
  have q := PyData.shown_le_bulk 42 (by decide) d (gd_short d h.good)
  have e : sizeLine = 16777216 := rfl
  have := h.bulk
  omega
/-! ### what the real heap has of it -/
section
variable {X : Cx} {pins : List (Addr × Obj)} {σ : L2.St} {H : Hp} {s : Shared}
mutual
theorem tk_reads (I : Inv X pins σ H s) : ∀ (d : PyData) (v : V) (u : Value), Tk H v d → RelV v u → ∃ as, Reads s.heap u d as ∧ (noL d = true → sysModules ∉ as)
  | .none, _, _, h, r => by
    cases h
    cases r
    exact ⟨_, Reads.none, fun _ => List.not_mem_nil⟩
  | .bool b, _, _, h, r => by
    cases h
    cases r
    exact ⟨_, Reads.bool b, fun _ => List.not_mem_nil⟩
  | .int i, _, _, h, r => by
    cases h
    obtain ⟨t, rfl⟩ := r
    exact ⟨_, Reads.int i t, fun _ => List.not_mem_nil⟩
  | .str x, _, _, h, r => by
    cases h
    obtain ⟨t, rfl⟩ := r
    exact ⟨_, Reads.str x t, fun _ => List.not_mem_nil⟩
  | .list ds, _, _, h, r => by
    cases h with
    | lst hs ha =>
      cases r
      obtain ⟨its, rv, ⟨o, n, ho, hc, _, hd⟩, _⟩ := I.list (SqL.of hs)
      obtain ⟨as, hr, _⟩ := tk_readsAll I ds _ its ha rv
      exact ⟨_, Reads.list ho hc hd hr, fun z => nomatch z⟩
  | .tuple ds, _, _, h, r => by
    cases h with
    | tup hs ha =>
      cases r
      obtain ⟨its, rv, ⟨o, ho, hc, n, hd⟩, _⟩ := I.tuple (SqT.of hs)
      obtain ⟨as, hr, hm⟩ := tk_readsAll I ds _ its ha rv
      exact ⟨_, Reads.tuple ho hc hd hr, hm⟩
  | .dict _, _, _, h, r => by
    cases h with
    | @dct p hp =>
      cases r
      obtain ⟨_, ns, vs, kv, o, es, ep, ho, ex, hd, _, pr, _⟩ := I.hok p _ hp
      cases kv
      have e0 : es.toList = [] := by
        generalize es.toList = l at pr
        cases pr
        rfl
      have e1 : es = #[] := Array.toList_inj.mp e0
      subst e1
      refine ⟨_, .dict ho ex.1 hd .nil .nil, fun _ z => ?_⟩
      have z' : sysModules = p := by simpa using z
      rw [← z'] at ns
      exact absurd ns (by decide)
theorem tk_readsAll (I : Inv X pins σ H s) : ∀ (ds : List PyData) (vs : List V) (us : List Value), TkAll H vs ds → Vals vs us → ∃ as, ReadsAll s.heap us ds as ∧ (noLAll ds = true → sysModules ∉ as)
  | [], _, _, h, r => by
    cases h
    cases r
    exact ⟨_, ReadsAll.nil, fun _ => List.not_mem_nil⟩
  | d :: ds, _, _, h, r => by
    cases h with
    | cons h1 h2 =>
      cases r with
      | cons r1 r2 =>
        obtain ⟨as, q1, m1⟩ := tk_reads I d _ _ h1 r1
        obtain ⟨bs, q2, m2⟩ := tk_readsAll I ds _ _ h2 r2
        refine ⟨_, ReadsAll.cons q1 q2, fun z => ?_⟩
        have q : noL d = true ∧ noLAll ds = true := by simpa [noLAll] using z
        exact fun w => (List.mem_append.mp w).elim (m1 q.1) (m2 q.2)
end
end
def rShowT : List V → Hp → VK → Prop := fun xs H Q => ∃ x d, xs = [x] ∧ Tk H x d ∧ Fine d ∧ Q (.str d.shown) H
theorem u_showT {X : Cx} (hq : Quiet X.A) (hu : X.A.units + 64 < cLine) : CallR X (.builtin "repr") rShowT := by
  rintro pins s σ H xs us Q I r ⟨x, d, rfl, hd, hf, q⟩
  have hlen := hf.len
  have hs := gd_showable d hf.good
  have hdep := hf.depth
  have hm := hf.mix
  cases r with
  | cons rx rn =>
    rename_i u us
    cases rn
    obtain ⟨as, rd, ns⟩ := tk_reads I d x u hd rx
    have ns2 : d.hasDict = true → sysModules ∉ as := fun z => ns (hm z)
    have fin : ∀ t k, EP X pins σ Q (.str d.shown t) { s with toks := k } := fun t k => ⟨V.str d.shown, H, I.tok _, ⟨t, rfl⟩, q⟩
    have fin2 : ∀ h' t k, (∀ b o, s.heap.get? b = some o → h'.get? b = some o) → EP X pins σ Q (.str d.shown t) { s with heap := h', toks := k } := fun h' t tk k => ⟨V.str _, H, I.kept k, ⟨t, rfl⟩, q⟩
    cases rd with
    | none => exact PySem.P.repr_of_none (fin _ _)
    | bool b => exact PySem.P.repr_of_bool (fin _ _)
    | int i t => exact PySem.P.repr_of_int (by simpa [PyData.showable] using hs) (fin _ _)
    | str y t => exact PySem.P.repr_of_str (fin _ _) hlen
    | list h1 h2 h3 h4 => exact repr_of_reads' (h₀ := s.heap) (.list h1 h2 h3 h4) hs ns2 hq (by omega) (fun _ _ e => e) fin2 hlen
    | tuple h1 h2 h3 h4 => exact repr_of_reads' (h₀ := s.heap) (.tuple h1 h2 h3 h4) hs ns2 hq (by omega) (fun _ _ e => e) fin2 hlen
    | dict h1 h2 h3 h4 h5 => exact repr_of_reads' (h₀ := s.heap) (.dict h1 h2 h3 h4 h5) hs ns2 hq (by omega) (fun _ _ e => e) fin2 hlen
end EL

/- part T2 -/
/-! t[::-1] of a tuple -/
namespace EL
open PySem PySem.Spec PyProof.Rows L2
open PySem.W (Frag)
theorem rev_adjust (n : Nat) : Builtin.Slice.sliceAdjust none none (-1) (n : Int) = ((n : Int) - 1, -1) := by
  unfold Builtin.Slice.sliceAdjust
  rfl
theorem rev_places (n : Nat) : Builtin.Slice.slicePlaces ((n : Int) - 1) (-1) (-1) = n := by
  unfold Builtin.Slice.slicePlaces
  have h1 : ¬ ((-1 : Int) > 0) := by omega
  rw [if_neg h1]
  by_cases h : (n : Int) - 1 > -1
  · rw [if_pos h, show (- -1 : Int) = 1 by decide, Int.ediv_one]
    omega
  · rw [if_neg h]
    omega
theorem fm_congr {α β : Type} {f g : α → Option β} : ∀ (l : List α), (∀ x ∈ l, f x = g x) → l.filterMap f = l.filterMap g
  | [], _ => rfl
  | a :: l, h => by rw [List.filterMap_cons, List.filterMap_cons, h a (List.mem_cons_self ..), fm_congr l fun x hx => h x (List.mem_cons_of_mem _ hx)]
theorem rev_pick (xs : Array Value) : ((List.range xs.size).filterMap fun (k : Nat) => xs[((xs.size : Int) - 1 + (k : Int) * (-1)).toNat]?).toArray = xs.toList.reverse.toArray := by
  have e : (List.range xs.size).filterMap (fun (k : Nat) => xs[((xs.size : Int) - 1 + (k : Int) * (-1)).toNat]?) = ((List.range xs.size).map fun k => xs.size - 1 - k).filterMap (xs[·]?) := by
    rw [List.filterMap_map]
    apply fm_congr
    intro k hk
    have := List.mem_range.mp hk
    have q : ((xs.size : Int) - 1 + (k : Int) * (-1)).toNat = xs.size - 1 - k := by omega
    show xs[((xs.size : Int) - 1 + (k : Int) * (-1)).toNat]? = xs[xs.size - 1 - k]?
    rw [q]
  rw [e, PySem.W.krv_range, List.filterMap_reverse, PySem.W.krv_all]
section
variable {prog : Program} {w : World} {A : Around} {E : Value → Shared → Prop} {s : Shared}
open HT in
theorem getItem_tuple_rev {t sl : Addr} {items : Array Value} {vl vu vs : Value} {Q : Value → Shared → Prop} (ht : IsTup s.heap t items) (hs : s.heap.IsSliceOf sl vl vu vs) (pl : IsPart vl none) (pu : IsPart vu none) (ps : IsPart vs (some (-1)))
    (h : Q (.ref s.heap.objs.size) { s with heap := s.heap.push { cls := .type "tuple", data := .seq items.toList.reverse.toArray } }) (hsz : items.size ≤ sizeLine) : wpAny (model prog w) A (getItem (.ref t) (.ref sl)) Q E s := by
  have htake : sizeOk (.seq items.toList.reverse.toArray) := by
    show items.toList.reverse.toArray.size ≤ sizeLine
    rw [List.size_toArray, List.length_reverse, Array.length_toList]
    exact hsz
  obtain ⟨os, hos, hcs, hds⟩ := id hs
  have hTs : s.TypeIs (.ref sl) "slice" := ⟨os, hos, hcs⟩
  unfold getItem
  try with_reducible refine wpAny_holding ?_
  first | refine wpAny_bind (wpAny_pure ?_) | skip
  refine wpAny_bind (wpAny_sequenceKey ht.typeIs (by decide) ?_)
  refine wpAny_bind (wpAny_callSpecial?_slot (name := Str.ofString "__getitem__") ht.typeIs PyProof.Rows.slot_tuple_getitem
    (wpAny_call_entry PyProof.Rows.slot_tuple_getitem ht.typeIs entry_tuple_getitem ?_ (args_tuple_getitem _ _)))
  show wpAny _ _ (Builtin.Tuple.tupleItemsOf (.ref t) >>= _) _ _ s
  refine wpAny_bind (tupleItemsOf_ ht ?_)
  refine wpAny_bind (wpAny_typeOf hTs ?_)
  rw [if_pos (by decide)]
  have ap : ∀ {R : Int × Int × Nat → Shared → Prop}, R ((items.size : Int) - 1, -1, items.size) s → wpAny (model prog w) A.in1 (Builtin.Slice.sliceApplied (.ref sl) (pure (items.size : Int))) R E s := by
    intro R hR
    unfold Builtin.Slice.sliceApplied Builtin.Slice.sliceFields
    refine wpAny_bind (wpAny_bind (wpAny_field hos hds (x := vl) rfl (wpAny_bind (wpAny_field hos hds (x := vu) rfl (wpAny_bind (wpAny_field hos hds (x := vs) rfl (wpAny_pure ?_)))))))
    refine wpAny_bind (slicePart_ ps ?_)
    show wpAny _ _ (if ((-1 : Int) == 0) = true then _ else _) _ _ s
    rw [if_neg (by decide)]
    refine wpAny_bind (slicePart_ pl (wpAny_bind (slicePart_ pu (wpAny_bind (wpAny_pure ?_)))))
    show wpAny _ _ (match Builtin.Slice.sliceAdjust none none (-1) (items.size : Int) with | (lo, hi) => pure (lo, (-1 : Int), Builtin.Slice.slicePlaces lo hi (-1))) _ _ s
    rw [rev_adjust]
    show wpAny _ _ (pure ((items.size : Int) - 1, (-1 : Int), Builtin.Slice.slicePlaces ((items.size : Int) - 1) (-1) (-1))) _ _ s
    rw [rev_places]
    exact wpAny_pure hR
  refine wpAny_bind (ap ?_)
  have hno : ¬ ((((items.size : Int) - 1) == 0 && (-1 : Int) == 1 && items.size == items.size) = true) := by
    intro q
    rw [Bool.and_eq_true, Bool.and_eq_true] at q
    exact absurd q.1.2 (by decide)
  show wpAny _ _ (if (((items.size : Int) - 1) == 0 && (-1 : Int) == 1 && items.size == items.size) = true then _ else _) _ _ s
  rw [if_neg hno, rev_pick]
  first
    | exact wpAny_bind (m := Builtin.Tuple.tupleExact _) (wpAny_newObj_type (wpAny_pure ⟨_, rfl, wpAny_pure h⟩) htake)
    | exact wpAny_bind (m := Builtin.Tuple.tupleExact _) (wpAny_newObj_type (wpAny_bind (wpAny_pure (wpAny_pure ⟨_, rfl, wpAny_pure h⟩))) htake)
    | exact wpAny_bind (wpAny_bind (m := Builtin.Tuple.tupleExact _) (wpAny_newObj_type (wpAny_pure (wpAny_pure ⟨_, rfl, wpAny_pure h⟩)) htake))
    | exact wpAny_bind (wpAny_bind (m := Builtin.Tuple.tupleExact _) (wpAny_newObj_type (wpAny_pure ⟨_, rfl, wpAny_pure h⟩) htake))
end
section
variable {X : Cx}
def tRevT (K : Frag) (te : TE) : TE := fun σ H Q => te σ H fun x H1 => ∃ a xs, x = .ref a ∧ SqT K H1 a xs ∧ ∀ p, H1 p = none → Q (.ref p) (upd H1 p (.tup xs.reverse))
theorem pe_revT {e : Expr} {te : TE} {k : Nat} {p1 p2 p3 pos : Pos} (he : PE X e te) : PE X (.Subscript e (.Slice none none (some (.UnaryOp .USub (.Constant (.int 1) k p1) p2)) p3) pos) (tRevT X.K te) := by
  refine ⟨fun pins s σ H Q I h => ?_⟩
  refine Subscript_ (thn (he.run pins s σ H _ I h) fun v s1 ⟨x, H1, I1, r1, q1⟩ => ?_)
  obtain ⟨a, xs, ex, hx, q⟩ := q1
  subst ex
  cases r1
  have hst : PO X (some (.UnaryOp .USub (.Constant (.int 1) k p1) p2)) (tPart (tUn (rU fun i => .int (-i)) (tC (.int 1)))) := po_some (pe_un un_neg pe_int)
  refine wpAny_Slice (thn (po_none.run pins s1 σ H1 (fun o H2 => o = none ∧ H2 = H1) I1 ⟨rfl, rfl⟩) fun vl s2 ⟨l, H2, I2, pl, el, e2⟩ => ?_)
  subst el e2
  refine thn (po_none.run pins s2 σ H2 (fun o H3 => o = none ∧ H3 = H2) I2 ⟨rfl, rfl⟩) fun vu s3 ⟨u, H3, I3, pu, eu, e3⟩ => ?_
  subst eu e3
  refine thn (hst.run pins s3 σ H3 (fun o H4 => o = some (-1) ∧ H4 = H3) I3 ⟨1, rfl, -1, rfl, rfl, rfl⟩) fun vs s4 ⟨o, H4, I4, ps, eo, e4⟩ => ?_
  subst eo e4
  have I5 : Inv X pins σ H4 { s4 with heap := s4.heap.push { cls := .type "slice", data := .fields #[vl, vu, vs] } } := I4.kept (t' := s4.toks) fun b ob q => Heap.get?_push_of_some _ q
  obtain ⟨its, r, ht, hz⟩ := I5.tuple hx
  have hlen := r.length
  show wpAny (model X.prog X.w) X.A (subscriptTail e (.Slice none none (some (.UnaryOp .USub (.Constant (.int 1) k p1) p2)) p3) (.ref a) (.ref s4.heap.objs.size)) (EP X pins σ Q) X.xe { s4 with heap := s4.heap.push { cls := .type "slice", data := .fields #[vl, vu, vs] } }
  refine tail_any (ops := [.ref a, .ref s4.heap.objs.size]) ht.typeIs (PyProof.Rows.slot_tuple_getitem.lookup) ?_ (by with_unfolding_all rfl)
  refine getItem_tuple_rev ht (Heap.IsSliceOf.new _ vl vu vs) pl pu ps ?_ (by rw [List.size_toArray]; omega)
  refine ⟨.ref _, _, I5.laid (t' := s4.toks) (o := .tup xs.reverse) (fun b ob q => Heap.get?_push_of_some _ q) (Nat.le_refl _) ?_, rfl, q _ (I5.hok.fresh (Nat.le_refl _))⟩
  exact ⟨by rw [List.length_reverse]; exact hz, _, r.reverse, IsTup.new _ _⟩
end
end EL

/- part T3 -/
/-! data of a size; parts of tuples -/
namespace EL
open PySem PySem.Spec PyProof.Rows L2
open PySem.W (Frag)
/-- no dict, so big, so deep -/
structure Sz (n k : Nat) (d : PyData) : Prop where
  good : gd d = true
  bulk : d.bulk ≤ n
  depth : d.depth ≤ k
  nod : d.hasDict = false
theorem Sz.le {n k n' k' : Nat} {d : PyData} (h : Sz n k d) (a : n ≤ n') (b : k ≤ k') : Sz n' k' d := ⟨h.good, Nat.le_trans h.bulk a, Nat.le_trans h.depth b, h.nod⟩
theorem Sz.fine {n k : Nat} {d : PyData} (h : Sz n k d) (a : n ≤ 300000) (b : k ≤ 40) : Fine d := ⟨h.good, Nat.le_trans h.bulk a, Nat.le_trans h.depth b, fun z => by rw [h.nod] at z; cases z⟩
theorem sz_all {n k : Nat} : ∀ {ds : List PyData}, (∀ d ∈ ds, Sz n k d) → gdAll ds = true ∧ PyData.bulkAll ds ≤ ds.length * (n + 1) ∧ PyData.depthAll ds ≤ k ∧ PyData.hasDictAll ds = false
  | [], _ => ⟨rfl, Nat.zero_le _, Nat.zero_le _, rfl⟩
  | d :: ds, h => by
    have q := h d (List.mem_cons_self ..)
    obtain ⟨a, b, c, e⟩ := sz_all fun x hx => h x (List.mem_cons_of_mem _ hx)
    refine ⟨?_, ?_, ?_, ?_⟩
    · show (gd d && gdAll ds) = true
      rw [q.good, a]; rfl
    · show d.bulk + 1 + PyData.bulkAll ds ≤ (ds.length + 1) * (n + 1)
      have := q.bulk
      rw [Nat.add_mul, Nat.one_mul]
      omega
    · show max d.depth (PyData.depthAll ds) ≤ k
      exact Nat.max_le.mpr ⟨q.depth, c⟩
    · show (d.hasDict || PyData.hasDictAll ds) = false
      rw [q.nod, e]; rfl
theorem sz_tup {n k : Nat} {ds : List PyData} (h : ∀ d ∈ ds, Sz n k d) : Sz (ds.length * (n + 1)) (k + 1) (.tuple ds) := by
  obtain ⟨a, b, c, e⟩ := sz_all h
  exact ⟨a, b, Nat.succ_le_succ c, e⟩
theorem sz_lst {n k : Nat} {ds : List PyData} (h : ∀ d ∈ ds, Sz n k d) : Sz (ds.length * (n + 1)) (k + 1) (.list ds) := by
  obtain ⟨a, b, c, e⟩ := sz_all h
  exact ⟨a, b, Nat.succ_le_succ c, e⟩
theorem sz_non : Sz 0 0 .none := ⟨rfl, Nat.le_refl _, Nat.le_refl _, rfl⟩
theorem sz_bl {b : Bool} : Sz 0 0 (.bool b) := ⟨rfl, Nat.le_refl _, Nat.le_refl _, rfl⟩
theorem sz_int {i : Int} (h : i.natAbs < 10 ^ 40) : Sz 0 0 (.int i) := ⟨by show decide _ = true; exact decide_eq_true h, Nat.le_refl _, Nat.le_refl _, rfl⟩
theorem sz_str {s : Str} (h : gd (.str s) = true) : Sz s.cps.size 0 (.str s) := ⟨h, Nat.le_refl _, Nat.le_refl _, rfl⟩
/-- a value that is known apart from the bag, of a size -/
def NiS (n k : Nat) (b : Addr) (H : Hp) (v : V) : Prop := ∃ d, TkB b H v d ∧ Sz n k d
/-- a value that is known apart from the bag, and can be shown -/
def Nice (b : Addr) (H : Hp) (v : V) : Prop := ∃ d, TkB b H v d ∧ Fine d
section
variable {n k : Nat} {b : Addr} {H H' : Hp} {v : V}
theorem NiS.le {n' k' : Nat} (h : NiS n k b H v) (a : n ≤ n') (c : k ≤ k') : NiS n' k' b H v := by
  obtain ⟨d, t, z⟩ := h
  exact ⟨d, t, z.le a c⟩
theorem NiS.nice (h : NiS n k b H v) (a : n ≤ 300000) (c : k ≤ 40) : Nice b H v := by
  obtain ⟨d, t, z⟩ := h
  exact ⟨d, t, z.fine a c⟩
theorem NiS.kp (h : NiS n k b H v) (q : Kp b H H') : NiS n k b H' v := by
  obtain ⟨d, t, z⟩ := h
  exact ⟨d, t.kp q, z⟩
theorem Nice.kp (h : Nice b H v) (q : Kp b H H') : Nice b H' v := by
  obtain ⟨d, t, z⟩ := h
  exact ⟨d, t.kp q, z⟩
theorem NiS.same (h : NiS n k b H v) (q : Same H H') : NiS n k b H' v := h.kp (same_kp q)
theorem Nice.same (h : Nice b H v) (q : Same H H') : Nice b H' v := h.kp (same_kp q)
theorem ni_non : NiS 0 0 b H .non := ⟨_, .non, sz_non⟩
theorem ni_bl {x : Bool} : NiS 0 0 b H (.bl x) := ⟨_, .bl x, sz_bl⟩
theorem ni_int {i : Int} (h : i.natAbs < 10 ^ 40) : NiS 0 0 b H (.int i) := ⟨_, .int i, sz_int h⟩
theorem ni_str {s : Str} (h : gd (.str s) = true := by decide +kernel) : NiS s.cps.size 0 b H (.str s) := ⟨_, .str s, sz_str h⟩
theorem tk_pick {P : PyData → Prop} : ∀ {xs : List V}, (∀ v ∈ xs, ∃ d, TkB b H v d ∧ P d) → ∃ ds, TkAll (wo b H) xs ds ∧ ds.length = xs.length ∧ ∀ d ∈ ds, P d
  | [], _ => ⟨[], .nil, rfl, fun _ h => nomatch h⟩
  | x :: xs, h => by
    obtain ⟨ds, t, l, p⟩ := tk_pick fun v hv => h v (List.mem_cons_of_mem _ hv)
    obtain ⟨d, t1, p1⟩ := h x (List.mem_cons_self ..)
    exact ⟨d :: ds, .cons t1 t, by rw [List.length_cons, List.length_cons, l], fun y hy => (List.mem_cons.mp hy).elim (fun e => e ▸ p1) (p y)⟩
theorem ni_tup {p : Addr} {xs : List V} (hp : H p = some (.tup xs)) (nb : p ≠ b) (h : ∀ v ∈ xs, NiS n k b H v) : NiS (xs.length * (n + 1)) (k + 1) b H (.ref p) := by
  obtain ⟨ds, t, l, q⟩ := tk_pick (P := Sz n k) h
  exact ⟨.tuple ds, .tup (wo_ne nb hp) t, l ▸ sz_tup q⟩
theorem ni_lst {p : Addr} {xs : List V} (hp : H p = some (.lst xs)) (nb : p ≠ b) (h : ∀ v ∈ xs, NiS n k b H v) : NiS (xs.length * (n + 1)) (k + 1) b H (.ref p) := by
  obtain ⟨ds, t, l, q⟩ := tk_pick (P := Sz n k) h
  exact ⟨.list ds, .lst (wo_ne nb hp) t, l ▸ sz_lst q⟩
theorem nice_dct {p : Addr} (hp : H p = some (.dK [])) (nb : p ≠ b) : Nice b H (.ref p) := ⟨_, .dct (wo_ne nb hp), ⟨rfl, by decide, by decide, fun _ => rfl⟩⟩
/-- the items of a known tuple -/
theorem ni_at {p : Addr} {xs : List V} (h : NiS n (k + 1) b H (.ref p)) (hp : H p = some (.tup xs)) : ∀ v ∈ xs, NiS n k b H v := by
  obtain ⟨d, t, z⟩ := h
  cases t with
  | lst e _ => rw [wo_same _ _ e] at hp; cases hp
  | dct e => rw [wo_same _ _ e] at hp; cases hp
  | @tup _ ys ds e t =>
    rw [wo_same _ _ e] at hp
    cases hp
    intro v hv
    obtain ⟨d, hd, q⟩ := t.mem v hv
    refine ⟨d, q, ?_⟩
    have a : ∀ {ds : List PyData}, d ∈ ds → gdAll ds = true → PyData.bulkAll ds ≤ n → PyData.depthAll ds ≤ k → PyData.hasDictAll ds = false → Sz n k d := by
      intro ds
      induction ds with
      | nil => intro h; cases h
      | cons e r ih =>
        intro hm h1 h2 h3 h4
        have g1 : gd e = true ∧ gdAll r = true := by simpa [gdAll] using h1
        have g2 : e.bulk + 1 + PyData.bulkAll r ≤ n := h2
        have g3 : max e.depth (PyData.depthAll r) ≤ k := h3
        have g4 : e.hasDict = false ∧ PyData.hasDictAll r = false := by simpa [PyData.hasDictAll] using h4
        have g5 := Nat.max_le.mp g3
        rcases List.mem_cons.mp hm with rfl | hm
        · exact ⟨g1.1, by omega, g5.1, g4.1⟩
        · exact ih hm g1.2 (by omega) g5.2 g4.2
    have z3 : PyData.depthAll ds + 1 ≤ k + 1 := z.depth
    exact a hd z.good z.bulk (by omega) z.nod
end
/-! ### parts of tuples, joined tuples -/
section
variable {K : Frag} {H : Hp} {Q : VK}
theorem n_catT {a b : Addr} {xs ys : List V} (ha : H a = some (.tup xs)) (hb : H b = some (.tup ys)) (z : xs.length + ys.length ≤ sizeLine) (q : ∀ p H', Same H H' → H' p = some (.tup (xs ++ ys)) → Q (.ref p) H') : rAdd K (.ref a) (.ref b) H Q := by
  refine .inr (.inr ⟨a, b, xs, ys, rfl, rfl, SqT.of ha, SqT.of hb, z, fun e => ?_, fun e1 e2 => ?_, fun _ _ p hp => q p _ (L2.Same.nw (Same.refl _) hp) upd_same⟩)
  · subst e
    exact q b H (Same.refl _) hb
  · subst e2
    exact q a H (Same.refl _) (by rw [List.append_nil]; exact ha)
theorem n_slT {a : Addr} {xs : List V} {lo hi : Option Int} (ha : H a = some (.tup xs)) (q : ∀ p H', Same H H' → H' p = some (.tup (cutV xs lo hi)) → Q (.ref p) H') : rSlice K (.ref a) lo hi H Q := by
  refine .inr ⟨a, xs, rfl, SqT.of ha, fun e => ?_, fun _ p hp => q p _ (L2.Same.nw (Same.refl _) hp) upd_same⟩
  refine q a H (Same.refl _) ?_
  have w : cutV xs lo hi = xs := by
    unfold cutV
    rw [e.1, e.2, List.drop_zero, Nat.sub_zero, List.take_length]
  rw [w]
  exact ha
theorem a_spar3 {σ : L2.St} {D : Ends} {u : TS} {ta : TA} {i j l : Nat} (q : ta σ H fun vs H1 => ∃ x y z, vs = [x, y, z] ∧ u D (((σ.set i (some x)).set j (some y)).set l (some z)) H1) : tSeq (tPar3 i j l ta) u D σ H := q
theorem a_par3 {σ : L2.St} {D : Ends} {ta : TA} {i j l : Nat} (q : ta σ H fun vs H1 => ∃ x y z, vs = [x, y, z] ∧ D.nx (((σ.set i (some x)).set j (some y)).set l (some z)) H1) : tPar3 i j l ta D σ H := q
theorem a_three {R : V → V → V → Prop} {a b c : V} (q : R a b c) : ∃ x y z, [a, b, c] = [x, y, z] ∧ R x y z := ⟨a, b, c, rfl, q⟩
theorem a_revT {σ : L2.St} {te : TE} (q : te σ H fun x H1 => ∃ a xs, x = .ref a ∧ SqT K H1 a xs ∧ ∀ p, H1 p = none → Q (.ref p) (upd H1 p (.tup xs.reverse))) : tRevT K te σ H Q := q
end
theorem cut_mem {xs : List V} {lo hi : Option Int} {v : V} (h : v ∈ cutV xs lo hi) : v ∈ xs := by
  unfold cutV at h
  exact List.mem_of_mem_drop (List.mem_of_mem_take h)
theorem cut_le (xs : List V) (lo hi : Option Int) : (cutV xs lo hi).length ≤ xs.length := by
  unfold cutV
  rw [List.length_take, List.length_drop]
  omega
end EL

/- part A -/
namespace EL
open PySem PySem.Spec PyProof.Rows L2
open PySem.W (Frag)
def top (i : Nat) : Stmt := PySem.Challenge.pw_earlyorlate_k93_kinds_and_times_as_texts.main.body.getD i (.Pass ⟨0, 0, 0, 0⟩)
abbrev s_take : Stmt := top 20
abbrev N_take : List Str := ["_law_bag_here", "_law_many", "_law_cell", "_law_mixed", "_law_drawn", "_law_early", "_law_second"]
theorem sc_take : FnScope N_take ["_law_bag_here", "_law_many"] (defScope s_take) := ⟨rfl, rfl, rfl, by decide +kernel, rfl, by decide +kernel, by decide +kernel⟩
structure Tb (mg : Str → Option Value) : Prop where
  b : Bi mg
local macro_rules | `(tactic| walk_at "el1") => `(tactic| with_reducible first
  | refine a_sasg ?_ | refine a_sdrop ?_ | refine a_saugS ?_ | refine a_spar ?_ | refine a_seq ?_ | refine a_asg ?_ | refine a_drop ?_ | refine a_ret ?_ | refine a_if ?_ | refine a_next ?_
  | refine a_op ?_ | refine a_cons ?_ | refine a_nil ?_ | refine a_cb ?_ | refine a_call ?_ | refine a_c ?_ | refine a_gn ?_ | refine a_nx ?_ | refine a_rt ?_ | refine a_un ?_
  | refine a_test ?_ | refine a_B ?_ | refine a_bl ?_ | refine a_and ?_ | refine a_or ?_ | refine a_not ?_ | refine a_andV ?_ | refine a_orV ?_ | refine a_notV ?_ | refine a_ifx ?_ | refine a_chain ?_
  | refine a_nT ?_ | refine a_nF ?_ | refine a_fld ?_ | refine a_getF ?_ | refine a_T ?_ | refine a_F ?_ | refine a_tup ?_ | refine a_lst ?_ | refine a_sub ?_ | refine a_augS ?_ | refine a_two ?_ | refine a_I0 ?_ | refine a_U ?_ | refine n_add ?_ | refine n_int ?_ | refine n_ib ?_ | refine a_ip ?_ | refine a_rng1 ?_ | refine a_rng2 ?_ | refine a_bm ?_ | refine a_abs ?_ | refine a_pairs ?_ | refine a_pairs0 ?_ | refine a_bk ?_ | refine a_prp ?_ | refine a_lc ?_ | refine a_yes ?_ | refine a_sl ?_ | refine a_nop ?_ | refine a_prt ?_ | refine a_ex1 ?_ | refine a_for ?_ | refine a_sfor ?_ | refine a_iE1 ?_ | refine a_iEs ?_ | refine a_iEz ?_ | refine a_iEnum ?_ | refine a_iTup ?_ | refine a_iList ?_ | refine a_gcons ?_ | refine a_gnil ?_ | refine a_revT ?_ | refine a_spar3 ?_ | refine a_par3 ?_ | refine a_three ?_)
local macro_rules | `(tactic| walk_at "el2") => `(tactic| first
  | (refine a_var (by rfl) ?_)
  | (refine n_ixL (SqL.of (by assumption)) (by rfl) ?_) | (refine n_ixT (SqT.of (by assumption)) (by rfl) ?_) | (refine n_eq (by rfl) ?_) | (refine n_ne (by rfl) ?_)
  | (refine n_isN ?_) | (refine n_notN ?_) | (refine n_isB ?_) | (refine n_notB ?_) | (refine n_isBI ?_) | (refine n_notBI ?_) | (refine n_len (.inl (SqL.of (by assumption))) ?_) | (refine n_len (.inr (SqT.of (by assumption))) ?_)
  | (refine a_getL (SqL.of (by assumption)) (by rfl) ?_)
  | (refine n_isInt (by assumption) ?_) | (refine n_isBool (by assumption) ?_) | (refine n_isStr (by assumption) ?_) | (refine n_isTup (by assumption) ?_) | (refine n_isLst (by assumption) ?_))
local macro_rules | `(tactic| walk_at "el") => `(tactic| repeat (first | walk_at "el1" | walk_at "el2"))

/-! ### the bag -/
def Bag (H : Hp) (b c : Addr) : Prop := ∃ (i j k : Int) (cs : List Int), H b = some (.lst [.int i, .int j, .int k, .ref c]) ∧ H c = some (.lst (cs.map V.int)) ∧ c ≠ b ∧ 0 ≤ i ∧ 0 ≤ j ∧ j < 2147483647 ∧ 0 ≤ k ∧ ∀ x ∈ cs, 0 ≤ x
/-- a draw: a number from 0 to many - 1, the bag changed -/
def spTake : Sp := fun vs H Q _ => ∃ (b c : Addr) (m : Int), vs = [.ref b, .int m] ∧ Bag H b c ∧ 0 < m ∧ m ≤ 1000000000 ∧ ∀ (r : Int) H', 0 ≤ r → r < m → Bag H' b c → Kp b H H' → Q (.int r) H'
theorem cell_at {cs : List Int} {k : Int} (h0 : 0 ≤ k) (h1 : k < (cs.map V.int).length) (hc : ∀ x ∈ cs, (0 : Int) ≤ x) : ∃ x, atI (cs.map V.int) k = some (V.int x) ∧ 0 ≤ x := by
  obtain ⟨n, rfl⟩ : ∃ n : Nat, k = n := ⟨k.toNat, by omega⟩
  have hn : n < cs.length := by rw [List.length_map] at h1; omega
  refine ⟨cs[n], atI_nat (by rw [List.getElem?_map, List.getElem?_eq_getElem hn]; rfl), hc _ (List.getElem_mem hn)⟩
section
variable {P : Program} {w : World} {K : Frag} {mg : Str → Option Value} {base : Heap} {f : Addr} {fd : FuncData}
theorem ok_take (F : Fun K "_law_take" "_law_take" s_take f fd) (T : Tb mg) : FnOk P w K mg base CX0 1 f fd ["_law_bag_here", "_law_many"] spTake := by
  refine F.ok sc_take (fun vs H Q E h => ?_) (fun cdv A outer s H vs Q E hr h => ?_)
  · obtain ⟨b, c, m, rfl, _⟩ := h
    rfl
  · obtain ⟨b, c, m, rfl, hB, hm0, hm1, k⟩ := h
    refine ⟨_, (Evl.pss_cut (ps_if (pt_cmpR (u_eq hr.units) (pe_ix ix_seq (pv 0) pe_int (fun _ _ => rfl)) pe_int (nomark _))
    (pss_cons (ps_set (i := 2) sc_take.nd rfl (Or.inl rfl) pe_int)
  (Evl.pss_cut (ps_if (pt_cmpR op_lt (pe_ix ix_seq (pv 0) pe_int (fun _ _ => rfl)) (pe_callB u_len rfl T.b.len_ boot_len (pa_cons (pe_ix ix_seq (pv 0) pe_int (fun _ _ => rfl)) pa_nil)) (nomark _))
    (pss_one (ps_set (i := 2) sc_take.nd rfl (Or.inl rfl) (pe_ix ix_seq (pe_ix ix_seq (pv 0) pe_int (fun _ _ => rfl)) (pe_ix ix_seq (pv 0) pe_int (fun _ _ => rfl)) (fun _ _ => rfl))))
    pss_nil)
  (pss_cons (ps_augS (pv 0) pe_int get_list pe_int ip_add set_list)
  (Evl.pss_cut (ps_if (pt_cmpR op_ge (pv 2) pe_int (nomark _))
    (pss_one (ps_asg (pv 2) (pg_sub (pv 0) pe_int set_list)))
    pss_nil)
  (pss_cons (ps_set (i := 3) sc_take.nd rfl (Or.inl rfl) (pe_op u_add (pe_op u_add (pe_op u_mul (pe_ix ix_seq (pv 0) pe_int (fun _ _ => rfl)) pe_int) (pe_op op_mod (pe_callTy u_int rfl T.b.int_ (by decide +kernel) (pa_cons (pv 2) pa_nil)) pe_int)) (pe_op u_mul pe_int (pe_ix ix_seq (pv 0) pe_int (fun _ _ => rfl)))))
  (pss_one (ps_asg (pe_op op_mod (pe_callTy u_int rfl T.b.int_ (by decide +kernel) (pa_cons (pv 3) pa_nil)) pe_int) (pg_sub (pv 0) pe_int set_list))))))))
    pss_nil)
  (pss_cons (ps_if (pt_cmpR op_gt (pe_ix ix_seq (pv 0) pe_int (fun _ _ => rfl)) pe_int (nomark _))
    (pss_cons (ps_set (i := 4) sc_take.nd rfl (Or.inl rfl) (pe_op op_mod (pe_callTy u_int rfl T.b.int_ (by decide +kernel) (pa_cons (pe_ix ix_seq (pv 0) pe_int (fun _ _ => rfl)) pa_nil)) (pv 1)))
  (pss_cons (ps_asg (pe_op op_fdiv (pe_callTy u_int rfl T.b.int_ (by decide +kernel) (pa_cons (pe_ix ix_seq (pv 0) pe_int (fun _ _ => rfl)) pa_nil)) (pv 1)) (pg_sub (pv 0) pe_int set_list))
  (pss_one (ps_ret (pv 4)))))
    pss_nil)
  (pss_cons (ps_set (i := 5) sc_take.nd rfl (Or.inl rfl) (pe_op op_mod (pe_callTy u_int rfl T.b.int_ (by decide +kernel) (pa_cons (pe_op u_mul (pe_op u_add (pe_ix ix_seq (pv 0) pe_int (fun _ _ => rfl)) pe_int) pe_int) pa_nil)) pe_int))
  (pss_cons (ps_set (i := 6) sc_take.nd rfl (Or.inl rfl) (pe_op op_mod (pe_callTy u_int rfl T.b.int_ (by decide +kernel) (pa_cons (pe_op u_mul (pe_op op_mod (pe_callTy u_int rfl T.b.int_ (by decide +kernel) (pa_cons (pe_op u_mul (pv 5) (pv 5)) pa_nil)) pe_int) pe_int) pa_nil)) pe_int))
  (pss_one (ps_ret (pe_op op_mod (pe_callTy u_int rfl T.b.int_ (by decide +kernel) (pa_cons (pe_op op_fdiv (pv 6) pe_int) pa_nil)) (pv 1)))))))), ?_⟩
    obtain ⟨i, j, n, cs, hb, hc, hcb, hi, hj, hj2, hn, hcs⟩ := hB
    -- the bag fed, or not
    refine a_cut (fun σ' H' => ∃ v2 v3, σ' = [some (.ref b), some (.int m), v2, v3, none, none, none] ∧ Bag H' b c ∧ Kp b H H') ?_ ?_
    · walk_at "el"
      walk_at "el"
      refine ite2 (fun h0 => ?_) (fun h0 => ?_)
      · walk_at "el"
        refine a_cut (fun σ' H' => ∃ x : Int, 0 ≤ x ∧ σ' = [some (.ref b), some (.int m), some (.int x), none, none, none, none] ∧ H' = H) ?_ ?_
        · walk_at "el"
          walk_at "el"
          refine ite2 (fun h1 => ?_) (fun h1 => ?_)
          · obtain ⟨x, hx, x0⟩ := cell_at hn (of_decide_eq_true h1) hcs
            walk_at "el"
            refine n_ixL (SqL.of hc) hx ?_
            walk_at "el"
            exact ⟨x, x0, rfl, rfl⟩
          · walk_at "el"
            exact ⟨0, by decide, rfl, rfl⟩
        · rintro σ' H' ⟨x, x0, rfl, rfl⟩
          walk_at "el"
          refine a_set hb rfl ?_
          refine a_cut (fun σ' H1 => ∃ i', 0 ≤ i' ∧ σ' = [some (.ref b), some (.int m), some (.int x), none, none, none, none] ∧ H1 b = some (.lst [.int i', .int j, .int (n + 1), .ref c]) ∧ ∀ a, a ≠ b → H1 a = H' a) ?_ ?_
          · walk_at "el"
            refine ite2 (fun h1 => ?_) (fun h1 => ?_)
            · walk_at "el"
              refine a_set upd_same rfl ?_
              walk_at "el"
              exact ⟨x, x0, rfl, upd_same, fun a h => by rw [upd_ne h, upd_ne h]⟩
            · walk_at "el"
              exact ⟨i, hi, rfl, upd_same, fun a h => upd_ne h⟩
          · rintro σ' H1 ⟨i', hi', rfl, hb', ho⟩
            have hc' : H1 c = some (.lst (cs.map V.int)) := (ho c hcb).trans hc
            walk_at "el"
            refine n_mul (.inr (by decide)) ?_
            walk_at "el"
            refine a_I (by show (0 : Int) < 2147483647; decide) ?_
            walk_at "el"
            refine n_mul (.inl (by decide)) ?_
            walk_at "el"
            refine a_I (by show (0 : Int) < 2147483647; decide) ?_
            walk_at "el"
            refine a_set hb' rfl ?_
            walk_at "el"
            refine ⟨_, _, rfl, ⟨i', _, n + 1, cs, upd_same, by rw [upd_ne hcb]; exact hc', hcb, hi', Int.emod_nonneg _ (by decide), Int.emod_lt_of_pos _ (by decide), by omega, hcs⟩, fun a o h e => ?_⟩
            rw [upd_ne h, ho a h]
            exact e
      · walk_at "el"
        exact ⟨_, _, rfl, ⟨i, j, n, cs, hb, hc, hcb, hi, hj, hj2, hn, hcs⟩, Kp.refl b H⟩
    · clear hb hc hcb hi hj hj2 hn hcs
      rintro σ' H1 ⟨v2, v3, rfl, ⟨i, j, n, cs, hb, hc, hcb, hi, hj, hj2, hn, hcs⟩, k1⟩
      walk_at "el"
      refine ite2 (fun h0 => ?_) (fun h0 => ?_)
      · walk_at "el"
        walk_at "el"
        refine a_I hm0 ?_
        walk_at "el"
        refine a_I ⟨hm0, by omega⟩ ?_
        walk_at "el"
        refine a_set hb rfl ?_
        walk_at "el"
        refine k _ _ (Int.emod_nonneg _ (by omega)) (Int.emod_lt_of_pos _ hm0) ?_ k1.bag
        exact ⟨_, j, n, cs, upd_same, by rw [upd_ne hcb]; exact hc, hcb, Int.ediv_nonneg hi (by omega), hj, hj2, hn, hcs⟩
      · walk_at "el"
        walk_at "el"
        refine n_mul (.inr (by decide)) ?_
        walk_at "el"
        refine a_I (by show (0 : Int) < 1000000007; decide) ?_
        have e0 := Int.emod_nonneg ((j + 1) * 39373) (show (1000000007 : Int) ≠ 0 by decide)
        have e1 := Int.emod_lt_of_pos ((j + 1) * 39373) (show (0 : Int) < 1000000007 by decide)
        walk_at "el"
        refine n_mul (.inl ⟨by omega, by omega⟩) ?_
        walk_at "el"
        refine a_I (by show (0 : Int) < 998244353; decide) ?_
        walk_at "el"
        refine n_mul (.inr (by decide)) ?_
        walk_at "el"
        refine a_I (by show (0 : Int) < 998244353; decide) ?_
        walk_at "el"
        refine a_I ⟨by decide, by decide⟩ ?_
        walk_at "el"
        refine a_I hm0 ?_
        walk_at "el"
        exact k _ _ (Int.emod_nonneg _ (by omega)) (Int.emod_lt_of_pos _ hm0) ⟨i, j, n, cs, hb, hc, hcb, hi, hj, hj2, hn, hcs⟩ k1
end
end EL

/- part B -/
namespace EL
open PySem PySem.Spec PyProof.Rows L2
open PySem.W (Frag)
abbrev s_is_kind : Stmt := top 4
abbrev N_is_kind : List Str := ["thing"]
theorem sc_is_kind : FnScope N_is_kind ["thing"] (defScope s_is_kind) := ⟨rfl, rfl, rfl, by decide +kernel, rfl, by decide +kernel, by decide +kernel⟩
structure Wo (K : Frag) (mg : Str → Option Value) : Prop where
  b : Bi mg
  k_GREATEST_NUMBER : ∃ u, mg "GREATEST_NUMBER" = some u ∧ L2.RelV (.int 1000000000000000) u
local macro_rules | `(tactic| walk_at "el1") => `(tactic| with_reducible first
  | refine a_sasg ?_ | refine a_sdrop ?_ | refine a_saugS ?_ | refine a_spar ?_ | refine a_seq ?_ | refine a_asg ?_ | refine a_drop ?_ | refine a_ret ?_ | refine a_if ?_ | refine a_next ?_
  | refine a_op ?_ | refine a_cons ?_ | refine a_nil ?_ | refine a_cb ?_ | refine a_call ?_ | refine a_c ?_ | refine a_gn ?_ | refine a_nx ?_ | refine a_rt ?_ | refine a_un ?_
  | refine a_test ?_ | refine a_B ?_ | refine a_bl ?_ | refine a_and ?_ | refine a_or ?_ | refine a_not ?_ | refine a_andV ?_ | refine a_orV ?_ | refine a_notV ?_ | refine a_ifx ?_ | refine a_chain ?_
  | refine a_nT ?_ | refine a_nF ?_ | refine a_fld ?_ | refine a_getF ?_ | refine a_T ?_ | refine a_F ?_ | refine a_tup ?_ | refine a_lst ?_ | refine a_sub ?_ | refine a_augS ?_ | refine a_two ?_ | refine a_I0 ?_ | refine a_U ?_ | refine n_add ?_ | refine n_int ?_ | refine n_ib ?_ | refine a_ip ?_ | refine a_rng1 ?_ | refine a_rng2 ?_ | refine a_bm ?_ | refine a_abs ?_ | refine a_pairs ?_ | refine a_pairs0 ?_ | refine a_bk ?_ | refine a_prp ?_ | refine a_lc ?_ | refine a_yes ?_ | refine a_sl ?_ | refine a_nop ?_ | refine a_prt ?_ | refine a_ex1 ?_ | refine a_for ?_ | refine a_sfor ?_ | refine a_iE1 ?_ | refine a_iEs ?_ | refine a_iEz ?_ | refine a_iEnum ?_ | refine a_iTup ?_ | refine a_iList ?_ | refine a_gcons ?_ | refine a_gnil ?_ | refine a_revT ?_ | refine a_spar3 ?_ | refine a_par3 ?_ | refine a_three ?_)
local macro_rules | `(tactic| walk_at "el2") => `(tactic| first
  | (refine a_var (by rfl) ?_)
  | (refine n_ixL (SqL.of (by assumption)) (by rfl) ?_) | (refine n_ixT (SqT.of (by assumption)) (by rfl) ?_) | (refine n_eq (by rfl) ?_) | (refine n_ne (by rfl) ?_)
  | (refine n_isN ?_) | (refine n_notN ?_) | (refine n_isB ?_) | (refine n_notB ?_) | (refine n_isBI ?_) | (refine n_notBI ?_) | (refine n_len (.inl (SqL.of (by assumption))) ?_) | (refine n_len (.inr (SqT.of (by assumption))) ?_)
  | (refine a_getL (SqL.of (by assumption)) (by rfl) ?_)
  | (refine n_isInt (by assumption) ?_) | (refine n_isBool (by assumption) ?_) | (refine n_isStr (by assumption) ?_) | (refine n_isTup (by assumption) ?_) | (refine n_isLst (by assumption) ?_))
local macro_rules | `(tactic| walk_at "el") => `(tactic| repeat (first | walk_at "el1" | walk_at "el2"))

/-! ### what the words mean -/
def intB : V → Bool | .int _ => true | _ => false
def numB : V → Bool | .int i => decide (-1000000000000000 ≤ i) && decide (i ≤ 1000000000000000) | _ => false
def kindB : V → Bool | .str s => decide (s = "early") || decide (s = "late") | _ => false
def otherK (s : Str) : Str := if s = "early" then "late" else "early"
def spB (f : V → Bool) (K : Frag) : Sp := fun vs H Q _ => ∃ x, vs = [x] ∧ Th K H x ∧ ∀ H', Same H H' → Q (.bl (f x)) H'
theorem intB_eq (x : V) : (if isI x = true then !isB x else false) = intB x := by cases x <;> rfl
/-- a tuple of so many -/
def tupN (H : Hp) (x : V) (n : Int) : Prop := ∃ a xs, x = .ref a ∧ H a = some (.tup xs) ∧ (xs.length : Int) = n
def spTu (K : Frag) : Sp := fun vs H Q _ => ∃ (x : V) (n : Int), vs = [x, .int n] ∧ Th K H x ∧ ∀ b, (b = true ↔ tupN H x n) → Q (.bl b) H
theorem isT_tup {K : Frag} {H : Hp} {x : V} (th : Th K H x) (e : isT H x = true) : ∃ a xs, x = .ref a ∧ H a = some (.tup xs) := by
  cases th with
  | tup h => exact ⟨_, _, rfl, h⟩
  | @lst a xs h => (exfalso; have q : obT (H a) = true := e; rw [h] at q; cases q)
  | @dct a xs h => (exfalso; have q : obT (H a) = true := e; rw [h] at q; cases q)
  | @ins a C dx fs h c => (exfalso; have q : obT (H a) = true := e; rw [h] at q; cases q)
  | @dtt a kvs h => (exfalso; have q : obT (H a) = true := e; rw [h] at q; cases q)
  | _ => cases e
theorem isT_of {H : Hp} {a : Addr} {xs : List V} (h : H a = some (.tup xs)) : isT H (.ref a) = true := by show obT (H a) = true; rw [h]; rfl
section
variable {P : Program} {w : World} {K : Frag} {mg : Str → Option Value} {base : Heap} {f : Addr} {fd : FuncData}
/-- a tuple of this word and one value more -/
def spHd (K : Frag) : Sp := fun vs H Q _ => ∃ (x : V) (wd : Str), vs = [x, .str wd] ∧ Th K H x ∧ (∀ q xs, x = .ref q → H q = some (.tup xs) → ∀ y ∈ xs, Th K H y) ∧ ∀ b, (b = true ↔ ∃ a y, x = .ref a ∧ H a = some (.tup [.str wd, y])) → Q (.bl b) H
theorem ok_is_kind (F : Fun K "is_kind" "is_kind" s_is_kind f fd) (T : Wo K mg) : FnOk P w K mg base CX0 1 f fd ["thing"] (spB kindB K) := by
  refine F.ok sc_is_kind (fun vs H Q E h => ?_) (fun cdv A outer s H vs Q E hr h => ?_)
  · obtain ⟨x, rfl, _⟩ := h
    rfl
  · obtain ⟨x, rfl, hx, k⟩ := h
    refine ⟨_, (pss_one (ps_ret (pe_and (pe_callB u_isi rfl T.b.isinstance_ boot_isinstance (pa_cons (pv 0) (pa_cons (pe_bltn (v := V.ty "str") rfl T.b.str_ (by decide +kernel) rfl) pa_nil))) (pe_one (pe_cmpR u_in (pv 0) (pe_tup (pa_cons pe_str (pa_cons pe_str pa_nil))) rfl))))), ?_⟩
    obtain ⟨t, kt⟩ := hx.kit
    walk_at "el"
    refine ite2 (fun h0 => ?_) (fun h0 => ?_)
    · obtain ⟨i, rfl⟩ : ∃ i, x = .str i := by cases x <;> first | exact ⟨_, rfl⟩ | cases h0
      walk_at "el"
      refine ⟨by decide, fun p hp => n_inT upd_same rfl rfl ?_⟩
      walk_at "el"
      have e : kindB (.str i) = inV (.str i) [.str "early", .str "late"] := by
        show (decide _ || decide _) = (_ == _ || (_ == _ || false))
        rw [Bool.or_false]
        congr 1 <;> (rw [Bool.eq_iff_iff, decide_eq_true_iff, beq_iff_eq]; exact ⟨fun h => h.symm, fun h => h.symm⟩)
      rw [e] at k
      exact k _ (L2.Same.nw (Same.refl _) hp)
    · walk_at "el"
      have e : kindB x = false := by cases x <;> first | rfl | exact absurd rfl h0
      rw [e] at k
      exact k _ (Same.refl _)
def spTl : Sp := fun vs H Q _ => ∃ p x s, vs = [.ref p] ∧ H p = some (.tup [x, .str s]) ∧ ∀ r, H r = none → Q (.ref r) (upd H r (.tup [x, .str (otherK s)]))
end
end EL

/- part C -/
namespace EL
open PySem PySem.Spec PyProof.Rows L2
open PySem.W (Frag)

local macro_rules | `(tactic| walk_at "el1") => `(tactic| with_reducible first
  | refine a_sasg ?_ | refine a_sdrop ?_ | refine a_saugS ?_ | refine a_spar ?_ | refine a_seq ?_ | refine a_asg ?_ | refine a_drop ?_ | refine a_ret ?_ | refine a_if ?_ | refine a_next ?_
  | refine a_op ?_ | refine a_cons ?_ | refine a_nil ?_ | refine a_cb ?_ | refine a_call ?_ | refine a_c ?_ | refine a_gn ?_ | refine a_nx ?_ | refine a_rt ?_ | refine a_un ?_
  | refine a_test ?_ | refine a_B ?_ | refine a_bl ?_ | refine a_and ?_ | refine a_or ?_ | refine a_not ?_ | refine a_andV ?_ | refine a_orV ?_ | refine a_notV ?_ | refine a_ifx ?_ | refine a_chain ?_
  | refine a_nT ?_ | refine a_nF ?_ | refine a_fld ?_ | refine a_getF ?_ | refine a_T ?_ | refine a_F ?_ | refine a_tup ?_ | refine a_lst ?_ | refine a_sub ?_ | refine a_augS ?_ | refine a_two ?_ | refine a_I0 ?_ | refine a_U ?_ | refine n_add ?_ | refine n_int ?_ | refine n_ib ?_ | refine a_ip ?_ | refine a_rng1 ?_ | refine a_rng2 ?_ | refine a_bm ?_ | refine a_abs ?_ | refine a_pairs ?_ | refine a_pairs0 ?_ | refine a_bk ?_ | refine a_prp ?_ | refine a_lc ?_ | refine a_yes ?_ | refine a_sl ?_ | refine a_nop ?_ | refine a_prt ?_ | refine a_ex1 ?_ | refine a_for ?_ | refine a_sfor ?_ | refine a_iE1 ?_ | refine a_iEs ?_ | refine a_iEz ?_ | refine a_iEnum ?_ | refine a_iTup ?_ | refine a_iList ?_ | refine a_gcons ?_ | refine a_gnil ?_ | refine a_revT ?_ | refine a_spar3 ?_ | refine a_par3 ?_ | refine a_three ?_)
local macro_rules | `(tactic| walk_at "el2") => `(tactic| first
  | (refine a_var (by rfl) ?_)
  | (refine n_ixL (SqL.of (by assumption)) (by rfl) ?_) | (refine n_ixT (SqT.of (by assumption)) (by rfl) ?_) | (refine n_eq (by rfl) ?_) | (refine n_ne (by rfl) ?_)
  | (refine n_isN ?_) | (refine n_notN ?_) | (refine n_isB ?_) | (refine n_notB ?_) | (refine n_isBI ?_) | (refine n_notBI ?_) | (refine n_len (.inl (SqL.of (by assumption))) ?_) | (refine n_len (.inr (SqT.of (by assumption))) ?_)
  | (refine a_getL (SqL.of (by assumption)) (by rfl) ?_)
  | (refine n_isInt (by assumption) ?_) | (refine n_isBool (by assumption) ?_) | (refine n_isStr (by assumption) ?_) | (refine n_isTup (by assumption) ?_) | (refine n_isLst (by assumption) ?_))
local macro_rules | `(tactic| walk_at "el") => `(tactic| repeat (first | walk_at "el1" | walk_at "el2"))

/-! ### items -/
inductive Pt | tel | gap | sur | cla
  deriving DecidableEq
def Pt.name : Pt → Str | .tel => "tellings" | .gap => "gaps" | .sur => "sure" | .cla => "clauses"
def Pt.form : Pt → List Str
  | .tel => ["witness", "event", "number"]
  | .gap => ["event", "another event", "number"]
  | .sur => ["event", "side", "number"]
  | .cla => ["witness", "kind", "witness", "kind"]
def belowB (x : V) (n : Int) : Bool := match x with | .int i => decide (0 ≤ i) && decide (i < n) | _ => false
def sideB : V → Bool | .str s => decide (s = "least") || decide (s = "most") | _ => false
def turnS (s : Str) : Str := if s = "least" then "most" else "least"
structure It4 (K : Frag) (w : World) (mg : Str → Option Value) (aForms aParts : Addr) : Prop where
  b : Bi mg
  gForms : mg "FORMS" = some (.ref aForms)
  gParts : mg "PARTS" = some (.ref aParts)
  forms : ∀ p : Pt, ∃ a, KDct K w aForms p.name (.ref a) ∧ ∀ H, SqT K H a (p.form.map V.str)
  parts : ∀ H, SqT K H aParts [.str "tellings", .str "gaps", .str "sure", .str "clauses"]
def spBelow (K : Frag) : Sp := fun vs H Q _ => ∃ x n, vs = [x, .int n] ∧ Th K H x ∧ ∀ H', Same H H' → Q (.bl (belowB x n)) H'
section
variable {P : Program} {w : World} {K : Frag} {mg : Str → Option Value} {base : Heap} {f : Addr} {fd : FuncData} {aForms aParts : Addr}
/-- what may stand at a place -/
def standB (word : Str) (xs : List V) (i : Nat) (x : V) (ev wi : Int) : Bool :=
  if word = "witness" then belowB x wi else if word = "event" then belowB x ev else if word = "another event" then belowB x ev && !decide (some x = xs[i - 1]?)
  else if word = "side" then sideB x else if word = "kind" then kindB x else numB x
def spCan (K : Frag) : Sp := fun vs H Q _ => ∃ (word : Str) (a : Addr) (xs : List V) (i : Nat) (x : V) (ev wi : Int), vs = [.str word, .ref a, .int i, .int ev, .int wi] ∧ H a = some (.tup xs) ∧ xs[i]? = some x ∧ Th K H x ∧
  (word = "another event" → 1 ≤ i ∧ ∃ j, xs[i - 1]? = some (.int j)) ∧ ∀ H', Same H H' → Q (.bl (standB word xs i x ev wi)) H'
/-- the values that may stand in an item -/
def StandsTo (p : Pt) (xs : List V) (ev wi : Int) (n : Nat) : Prop := ∀ j, j < n → ∀ wd x, p.form[j]? = some wd → xs[j]? = some x → standB wd xs j x ev wi = true
def spFw (K : Frag) : Sp := fun vs H Q _ => ∃ (p : Pt) (a : Addr) (xs : List V) (ev wi : Int), vs = [.str p.name, .ref a, .int ev, .int wi] ∧ H a = some (.tup xs) ∧ xs.length = p.form.length ∧ (∀ x ∈ xs, Th K H x) ∧
  (StandsTo p xs ev wi p.form.length → ∀ H', Same H H' → Q .non H') ∧
  (∀ i wd x, StandsTo p xs ev wi i → p.form[i]? = some wd → xs[i]? = some x → standB wd xs i x ev wi = false → ∀ H', Same H H' → Q (.int i) H')
theorem another_at {p : Pt} {i : Nat} (h : p.form[i]? = some ("another event" : Str)) : p = .gap ∧ i = 1 := by
  cases p <;> (rcases i with _ | _ | _ | _ | i) <;> first | exact ⟨rfl, rfl⟩ | (exfalso; revert h; decide) | cases h
theorem below_int {x : V} {n : Int} (h : belowB x n = true) : ∃ j, x = .int j ∧ 0 ≤ j ∧ j < n := by
  cases x with
  | int j =>
    have q : (decide (0 ≤ j) && decide (j < n)) = true := h
    rw [Bool.and_eq_true, decide_eq_true_iff, decide_eq_true_iff] at q
    exact ⟨j, rfl, q⟩
  | _ => cases h
theorem stands_prev {p : Pt} {xs : List V} {ev wi : Int} {i : Nat} (hl : xs.length = p.form.length) (h : StandsTo p xs ev wi i) (hw : p.form[i]? = some ("another event" : Str)) : 1 ≤ i ∧ ∃ j, xs[i - 1]? = some (.int j) := by
  obtain ⟨rfl, rfl⟩ := another_at hw
  have l0 : 0 < xs.length := by rw [hl]; decide
  have e0 : xs[0]? = some xs[0] := List.getElem?_eq_getElem l0
  have q := h 0 (by decide) "event" _ rfl e0
  obtain ⟨j, hj, _⟩ := below_int (x := xs[0]) (n := ev) (by
    unfold standB at q
    rw [if_neg (by decide), if_pos rfl] at q
    exact q)
  exact ⟨by decide, j, by rw [← hj]; exact e0⟩
/-- an item of a part -/
def ItemOk (p : Pt) (H : Hp) (x : V) (ev wi : Int) : Prop := ∃ a xs, x = .ref a ∧ H a = some (.tup xs) ∧ xs.length = p.form.length ∧ StandsTo p xs ev wi p.form.length
def spItem (K : Frag) : Sp := fun vs H Q _ => ∃ (p : Pt) (x : V) (ev wi : Int), vs = [.str p.name, x, .int ev, .int wi] ∧ Th K H x ∧ (∀ a xs, x = .ref a → H a = some (.tup xs) → ∀ y ∈ xs, Th K H y) ∧ ∀ H' b, Same H H' → (b = true ↔ ItemOk p H x ev wi) → Q (.bl b) H'
end
end EL

/- part D -/
namespace EL
open PySem PySem.Spec PyProof.Rows L2
open PySem.W (Frag)

local macro_rules | `(tactic| walk_at "el1") => `(tactic| with_reducible first
  | refine a_sasg ?_ | refine a_sdrop ?_ | refine a_saugS ?_ | refine a_spar ?_ | refine a_seq ?_ | refine a_asg ?_ | refine a_drop ?_ | refine a_ret ?_ | refine a_if ?_ | refine a_next ?_
  | refine a_op ?_ | refine a_cons ?_ | refine a_nil ?_ | refine a_cb ?_ | refine a_call ?_ | refine a_c ?_ | refine a_gn ?_ | refine a_nx ?_ | refine a_rt ?_ | refine a_un ?_
  | refine a_test ?_ | refine a_B ?_ | refine a_bl ?_ | refine a_and ?_ | refine a_or ?_ | refine a_not ?_ | refine a_andV ?_ | refine a_orV ?_ | refine a_notV ?_ | refine a_ifx ?_ | refine a_chain ?_
  | refine a_nT ?_ | refine a_nF ?_ | refine a_fld ?_ | refine a_getF ?_ | refine a_T ?_ | refine a_F ?_ | refine a_tup ?_ | refine a_lst ?_ | refine a_sub ?_ | refine a_augS ?_ | refine a_two ?_ | refine a_I0 ?_ | refine a_U ?_ | refine n_add ?_ | refine n_int ?_ | refine n_ib ?_ | refine a_ip ?_ | refine a_rng1 ?_ | refine a_rng2 ?_ | refine a_bm ?_ | refine a_abs ?_ | refine a_pairs ?_ | refine a_pairs0 ?_ | refine a_bk ?_ | refine a_prp ?_ | refine a_lc ?_ | refine a_yes ?_ | refine a_sl ?_ | refine a_nop ?_ | refine a_prt ?_ | refine a_ex1 ?_ | refine a_for ?_ | refine a_sfor ?_ | refine a_iE1 ?_ | refine a_iEs ?_ | refine a_iEz ?_ | refine a_iEnum ?_ | refine a_iTup ?_ | refine a_iList ?_ | refine a_gcons ?_ | refine a_gnil ?_ | refine a_revT ?_ | refine a_spar3 ?_ | refine a_par3 ?_ | refine a_three ?_)
local macro_rules | `(tactic| walk_at "el2") => `(tactic| first
  | (refine a_var (by rfl) ?_)
  | (refine n_ixL (SqL.of (by assumption)) (by rfl) ?_) | (refine n_ixT (SqT.of (by assumption)) (by rfl) ?_) | (refine n_eq (by rfl) ?_) | (refine n_ne (by rfl) ?_)
  | (refine n_isN ?_) | (refine n_notN ?_) | (refine n_isB ?_) | (refine n_notB ?_) | (refine n_isBI ?_) | (refine n_notBI ?_) | (refine n_len (.inl (SqL.of (by assumption))) ?_) | (refine n_len (.inr (SqT.of (by assumption))) ?_)
  | (refine a_getL (SqL.of (by assumption)) (by rfl) ?_)
  | (refine n_isInt (by assumption) ?_) | (refine n_isBool (by assumption) ?_) | (refine n_isStr (by assumption) ?_) | (refine n_isTup (by assumption) ?_) | (refine n_isLst (by assumption) ?_))
local macro_rules | `(tactic| walk_at "el") => `(tactic| repeat (first | walk_at "el1" | walk_at "el2"))

/-! ### books -/
structure Bo (mg : Str → Option Value) : Prop where
  k_MOST_EVENTS : ∃ u, mg "MOST_EVENTS" = some u ∧ L2.RelV (.int 8) u
  k_MOST_WITNESSES : ∃ u, mg "MOST_WITNESSES" = some u ∧ L2.RelV (.int 8) u
  k_MOST_ITEMS : ∃ u, mg "MOST_ITEMS" = some u ∧ L2.RelV (.int 24) u
structure BoT (K : Frag) (w : World) (mg : Str → Option Value) (aForms aParts : Addr) : Prop extends It4 K w mg aForms aParts, Bo mg
theorem stand_th {K : Frag} {H : Hp} {wd : Str} {xs : List V} {j : Nat} {x : V} {ev wi : Int} (h : standB wd xs j x ev wi = true) : Th K H x := by
  cases x with
  | int i => exact .int i
  | str s => exact .str s
  | _ => (exfalso; simp [standB, belowB, sideB, kindB, numB] at h)
theorem ItemOk.th {K : Frag} {p : Pt} {H : Hp} {x : V} {ev wi : Int} (h : ItemOk p H x ev wi) : Th K H x ∧ ∀ a xs, x = .ref a → H a = some (.tup xs) → ∀ y ∈ xs, Th K H y := by
  obtain ⟨a, xs, rfl, ha, hl, hs⟩ := h
  refine ⟨.tup ha, fun a' xs' e ha' y hy => ?_⟩
  cases e
  rw [ha] at ha'
  cases ha'
  obtain ⟨j, hj, rfl⟩ := List.getElem_of_mem hy
  have h2 : j < p.form.length := by omega
  exact stand_th (hs j h2 _ _ (List.getElem?_eq_getElem h2) (List.getElem?_eq_getElem hj))
theorem ItemOk.same {p : Pt} {H H' : Hp} {x : V} {ev wi : Int} (h : ItemOk p H x ev wi) (s : Same H H') : ItemOk p H' x ev wi := by
  obtain ⟨a, xs, rfl, ha, hl, hs⟩ := h
  exact ⟨a, xs, rfl, s _ _ ha, hl, hs⟩
/-- a part that a book may have -/
structure PartOk (K : Frag) (p : Pt) (H : Hp) (a : Addr) (xs : List V) (ev wi : Int) : Prop where
  seq : SqA K H a xs
  len : xs.length ≤ 24
  items : ∀ x ∈ xs, ItemOk p H x ev wi
theorem PartOk.same {K : Frag} {p : Pt} {H H' : Hp} {a : Addr} {xs : List V} {ev wi : Int} (h : PartOk K p H a xs ev wi) (s : Same H H') : PartOk K p H' a xs ev wi := ⟨h.seq.same s, h.len, fun x hx => (h.items x hx).same s⟩
def spCa (K : Frag) : Sp := fun vs H Q _ => ∃ (ev wi : Int) (q t g s c : Addr) (ts gs ss cs : List V), vs = [.int ev, .int wi, .ref q] ∧ H q = some (.tup [.ref t, .ref g, .ref s, .ref c]) ∧ 0 ≤ ev ∧ ev ≤ 8 ∧ 0 ≤ wi ∧ wi ≤ 8 ∧ SqA K H t ts ∧ SqA K H g gs ∧ SqA K H s ss ∧ SqA K H c cs ∧ ∀ H', Same H H' → Q .non H'
def spCi (K : Frag) : Sp := fun vs H Q _ => ∃ (n : Int) (p : Pt) (a : Addr) (xs : List V) (ev wi : Int), vs = [.int n, .str p.name, .ref a, .int ev, .int wi] ∧ PartOk K p H a xs ev wi ∧ ∀ H', Same H H' → Q .non H'
section
variable {P : Program} {w : World} {K : Frag} {mg : Str → Option Value} {base : Heap} {f : Addr} {fd : FuncData} {aForms aParts : Addr}
theorem below_true {i n : Int} (h0 : 0 ≤ i) (h1 : i < n) : belowB (.int i) n = true := by show (decide _ && decide _) = true; rw [decide_eq_true h0, decide_eq_true h1]; rfl
/-- a book, its parts told by their addresses -/
def bookO (C dx : Addr) (ev wi : Int) (t g s c : Addr) : HO := .ins C dx [("_events", .int ev), ("_witnesses", .int wi), ("_tellings", .ref t), ("_gaps", .ref g), ("_sure", .ref s), ("_clauses", .ref c)]
structure BkC (K : Frag) (C : Addr) : Prop where
  own : OwnC K C
  n0 : NoAttr K C "_events"
  n1 : NoAttr K C "_witnesses"
  n2 : NoAttr K C "_tellings"
  n3 : NoAttr K C "_gaps"
  n4 : NoAttr K C "_sure"
  n5 : NoAttr K C "_clauses"
def spInit (K : Frag) (C : Addr) : Sp := fun vs H Q _ => ∃ (o dx : Addr) (ev wi : Int) (t g s c : Addr) (ts gs ss cs : List V), vs = [.ref o, .int ev, .int wi, .ref t, .ref g, .ref s, .ref c] ∧ H o = some (.ins C dx []) ∧ 0 ≤ ev ∧ ev ≤ 8 ∧ 0 ≤ wi ∧ wi ≤ 8 ∧
  PartOk K .tel H t ts ev wi ∧ PartOk K .gap H g gs ev wi ∧ PartOk K .sur H s ss ev wi ∧ PartOk K .cla H c cs ev wi ∧
  ∀ H' t' g' s' c', Kp o H H' → H' o = some (bookO C dx ev wi t' g' s' c') → SqT K H' t' ts → SqT K H' g' gs → SqT K H' s' ss → SqT K H' c' cs → Q .non H'
end
end EL

/- part L -/
namespace EL
open PySem PySem.Spec PyProof.Rows L2
open PySem.W (Frag)
abbrev s_bag : Stmt := top 19
abbrev N_bag : List Str := ["_law_script", "_law_cell"]
theorem sc_bag : FnScope N_bag ["_law_script"] (defScope s_bag) := ⟨rfl, rfl, rfl, by decide +kernel, rfl, by decide +kernel, by decide +kernel⟩
abbrev s_one : Stmt := top 21
abbrev N_one : List Str := ["_law_bag_here", "_law_menu"]
theorem sc_one : FnScope N_one ["_law_bag_here", "_law_menu"] (defScope s_one) := ⟨rfl, rfl, rfl, by decide +kernel, rfl, by decide +kernel, by decide +kernel⟩
local macro_rules | `(tactic| walk_at "el1") => `(tactic| with_reducible first
  | refine a_sasg ?_ | refine a_sdrop ?_ | refine a_saugS ?_ | refine a_spar ?_ | refine a_seq ?_ | refine a_asg ?_ | refine a_drop ?_ | refine a_ret ?_ | refine a_if ?_ | refine a_next ?_
  | refine a_op ?_ | refine a_cons ?_ | refine a_nil ?_ | refine a_cb ?_ | refine a_call ?_ | refine a_c ?_ | refine a_gn ?_ | refine a_nx ?_ | refine a_rt ?_ | refine a_un ?_
  | refine a_test ?_ | refine a_B ?_ | refine a_bl ?_ | refine a_and ?_ | refine a_or ?_ | refine a_not ?_ | refine a_andV ?_ | refine a_orV ?_ | refine a_notV ?_ | refine a_ifx ?_ | refine a_chain ?_
  | refine a_nT ?_ | refine a_nF ?_ | refine a_fld ?_ | refine a_getF ?_ | refine a_T ?_ | refine a_F ?_ | refine a_tup ?_ | refine a_lst ?_ | refine a_sub ?_ | refine a_augS ?_ | refine a_two ?_ | refine a_I0 ?_ | refine a_U ?_ | refine n_add ?_ | refine n_int ?_ | refine n_ib ?_ | refine a_ip ?_ | refine a_rng1 ?_ | refine a_rng2 ?_ | refine a_bm ?_ | refine a_abs ?_ | refine a_pairs ?_ | refine a_pairs0 ?_ | refine a_bk ?_ | refine a_prp ?_ | refine a_lc ?_ | refine a_yes ?_ | refine a_sl ?_ | refine a_nop ?_ | refine a_prt ?_ | refine a_ex1 ?_ | refine a_for ?_ | refine a_sfor ?_ | refine a_iE1 ?_ | refine a_iEs ?_ | refine a_iEz ?_ | refine a_iEnum ?_ | refine a_iTup ?_ | refine a_iList ?_ | refine a_gcons ?_ | refine a_gnil ?_ | refine a_revT ?_ | refine a_spar3 ?_ | refine a_par3 ?_ | refine a_three ?_)
local macro_rules | `(tactic| walk_at "el2") => `(tactic| first
  | (refine a_var (by rfl) ?_)
  | (refine n_ixL (SqL.of (by assumption)) (by rfl) ?_) | (refine n_ixT (SqT.of (by assumption)) (by rfl) ?_) | (refine n_eq (by rfl) ?_) | (refine n_ne (by rfl) ?_)
  | (refine n_isN ?_) | (refine n_notN ?_) | (refine n_isB ?_) | (refine n_notB ?_) | (refine n_isBI ?_) | (refine n_notBI ?_) | (refine n_len (.inl (SqL.of (by assumption))) ?_) | (refine n_len (.inr (SqT.of (by assumption))) ?_)
  | (refine a_getL (SqL.of (by assumption)) (by rfl) ?_)
  | (refine n_isInt (by assumption) ?_) | (refine n_isBool (by assumption) ?_) | (refine n_isStr (by assumption) ?_) | (refine n_isTup (by assumption) ?_) | (refine n_isLst (by assumption) ?_))
local macro_rules | `(tactic| walk_at "el") => `(tactic| repeat (first | walk_at "el1" | walk_at "el2"))

/-! ### the bag is made; one of a menu -/
def spBag (K : Frag) : Sp := fun vs H Q _ => ∃ (a : Addr) (ns : List Int), vs = [.ref a] ∧ SqL K H a (ns.map V.int) ∧ ∀ b c H', H b = none → H c = none → Bag H' b c → Same H H' → Q (.ref b) H'
def spOne (K : Frag) : Sp := fun vs H Q _ => ∃ (b c m : Addr) (xs : List V), vs = [.ref b, .ref m] ∧ Bag H b c ∧ m ≠ b ∧ SqA K H m xs ∧ 0 < xs.length ∧ xs.length ≤ 1000000000 ∧ ∀ x H', x ∈ xs → Bag H' b c → Kp b H H' → Q x H'
theorem cut_map {α : Type} (f : α → V) (ns : List α) (lo hi : Option Int) : ∃ ms : List α, cutV (ns.map f) lo hi = ms.map f ∧ ms.length ≤ ns.length := by
  unfold cutV
  refine ⟨(ns.drop (HT.sIx (ns.map f).length 0 lo)).take (HT.sIx (ns.map f).length (ns.map f).length hi - HT.sIx (ns.map f).length 0 lo), by rw [List.map_take, List.map_drop], ?_⟩
  rw [List.length_take, List.length_drop]
  omega
theorem atI_mem {xs : List V} {k : Int} {x : V} (h : atI xs k = some x) : x ∈ xs := by
  obtain ⟨j, h1, h2, _⟩ := atI_get h
  exact List.mem_of_getElem? h2
theorem cut_len63 (xs : List V) : (cutV xs none (some 63)).length ≤ 63 := by
  unfold cutV
  rw [List.length_take]
  refine Nat.le_trans (Nat.min_le_left _ _) ?_
  show min (63 : Int).toNat xs.length - 0 ≤ 63
  have q : (63 : Int).toNat = 63 := rfl
  omega
section
variable {P : Program} {w : World} {K : Frag} {mg : Str → Option Value} {base : Heap} {f : Addr} {fd : FuncData}
theorem ok_bag (F : Fun K "_law_bag" "_law_bag" s_bag f fd) (T : Tb mg) : FnOk P w K mg base CX0 1 f fd ["_law_script"] (spBag K) := by
  refine F.ok sc_bag (fun vs H Q E h => ?_) (fun cdv A outer s H vs Q E hr h => ?_)
  · obtain ⟨_, _, rfl, _⟩ := h
    rfl
  · obtain ⟨a, ns, rfl, ha, k⟩ := h
    refine ⟨_, (pss_one (ps_ret (pe_lst (pa_cons pe_int (pa_cons pe_int (pa_cons pe_int (pa_cons (pe_lc (own := [("_law_cell", 1)]) rfl sc_bag.nd (u_iter (pe_slice u_slice (pv 0) po_none (po_some pe_int))) (blkOk_by (own := [("_law_cell", 1)]) (N := N_bag) (sc := defScope s_bag) (by decide +kernel)) (fun _ _ _ _ _ => (pg_name (i := 1) sc_bag.nd rfl (Or.inl rfl))) (fun _ _ _ _ _ => pts_nil) (fun _ _ _ _ _ => (pe_callB call_abs rfl T.b.abs_ (by decide +kernel) (pa_cons (pv 1) pa_nil)))) pa_nil))))))), ?_⟩
    walk_at "el"
    refine a_iSeq (.inl ?_)
    walk_at "el"
    refine .inl ⟨a, _, rfl, ha, fun p hp => ?_⟩
    obtain ⟨ms, em, lm⟩ := cut_map V.int ns none (some 63)
    have l63 := cut_len63 (ns.map V.int)
    rw [em] at l63 ⊢
    rw [List.length_map] at l63
    have s1 := L2.Same.nw (o := .lst (ms.map V.int)) (Same.refl H) hp
    refine ⟨p, rfl, ⟨_, SqL.of upd_same⟩, fun D hD => ?_⟩
    have hDp : D ≠ p := fun z => by subst z; rw [upd_same] at hD; cases hD
    have hD0 : H D = none := s1.free hD
    refine lc_of (walk_list (xs := ms.map V.int)) (fun i H3 => Same H H3 ∧ H3 p = some (.lst (ms.map V.int)) ∧ ∃ cs : List Int, H3 D = some (.lst (cs.map V.int)) ∧ cs.length = i ∧ ∀ x ∈ cs, 0 ≤ x) ⟨s1.nw hD, by rw [upd_ne hDp.symm]; exact upd_same, [], upd_same, rfl, fun _ h => nomatch h⟩ (fun i H3 hi h => SqL.of h.2.1) ?_ ?_
    · rintro i x H3 H4 hi ⟨s3, hp3, cs, hD3, hl, hc⟩ ⟨rfl, hx⟩
      rw [List.length_map] at hi
      rw [List.getElem?_map, List.getElem?_eq_getElem hi] at hx
      cases hx
      walk_at "el"
      refine ⟨rfl, ?_⟩
      walk_at "el"
      refine ⟨_, hD3, by rw [List.length_map, hl]; exact Nat.lt_of_lt_of_le (m := 63) (by omega) (by decide), ?_⟩
      refine ⟨s3.mu hD0, by rw [upd_ne hDp.symm]; exact hp3, cs ++ [if ms[i] < 0 then -ms[i] else ms[i]], by rw [upd_same, List.map_append]; rfl, by rw [List.length_append, hl]; rfl, ?_⟩
      intro x hx
      rcases List.mem_append.mp hx with h | h
      · exact hc x h
      · cases List.mem_singleton.mp h
        split <;> omega
    · rintro H3 ⟨s3, hp3, cs, hD3, hl, hc⟩
      walk_at "el"
      refine ⟨by show 4 ≤ sizeLine; decide, fun b hb => ?_⟩
      have hbD : D ≠ b := fun z => by subst z; rw [hD3] at hb; cases hb
      exact k b D _ (s3.free hb) hD0 ⟨0, 1234567891, 0, cs, upd_same, by rw [upd_ne hbD]; exact hD3, hbD, by decide, by decide, by decide, by decide, hc⟩ (s3.nw hb)
theorem ok_one (F : Fun K "_law_one" "_law_one" s_one f fd) (T : Tb mg) (c_take : Cal P w K mg base CX0 1 "_law_take" ["_law_bag_here", "_law_many"] spTake) : FnOk P w K mg base CX0 2 f fd ["_law_bag_here", "_law_menu"] (spOne K) := by
  refine F.ok sc_one (fun vs H Q E h => ?_) (fun cdv A outer s H vs Q E hr h => ?_)
  · obtain ⟨_, _, _, _, rfl, _⟩ := h
    rfl
  · obtain ⟨b, c, m, xs, rfl, hb, hm, hs, h0, h1, k⟩ := h
    refine ⟨_, (pss_one (ps_ret (pe_ix ix_seq (pv 1) (pe_cal c_take (hr.mono (by decide)) pass0 (pa_cons (pv 0) (pa_cons (pe_callB u_len rfl T.b.len_ boot_len (pa_cons (pv 1) pa_nil)) pa_nil))) (fun _ _ => rfl)))), ?_⟩
    walk_at "el"
    refine n_len hs.len ?_
    walk_at "el"
    refine ⟨b, c, xs.length, rfl, hb, by omega, by omega, fun r H1 r0 r1 hb1 k1 => ?_⟩
    obtain ⟨x, hx⟩ : ∃ x, atI xs r = some x := by
      obtain ⟨n, rfl⟩ : ∃ n : Nat, r = n := ⟨r.toNat, by omega⟩
      have hn : n < xs.length := by omega
      exact ⟨xs[n], atI_nat (List.getElem?_eq_getElem hn)⟩
    have hm1 : SqA K H1 m xs := by
      rcases hs with h | (h | ⟨o, h⟩) | h
      · exact .inl (k1 _ _ hm h)
      · exact .inr (.inl (.inl (k1 _ _ hm h)))
      · exact .inr (.inl (.inr ⟨o, k1 _ _ hm h⟩))
      · exact .inr (.inr h)
    walk_at "el"
    rcases hm1 with h | h
    · refine n_ixL (SqL.of h) hx ?_
      exact k x _ (atI_mem hx) hb1 k1
    · refine n_ixT h hx ?_
      exact k x _ (atI_mem hx) hb1 k1
end
end EL

/- part G -/
namespace EL
open PySem PySem.Spec PyProof.Rows L2
open PySem.W (Frag)
/-! ### Book(..) as a call -/
abbrev psBook : List Str := ["self", "events", "witnesses", "tellings", "gaps", "sure", "clauses"]
structure BookD where
  f : Addr
  fd : FuncData
  d1 : Addr
  d2 : Addr
  d3 : Addr
  d4 : Addr
  ds : List Value
  ds4 : List Value
  ds3 : List Value
structure BookG (P : Program) (w : World) (K : Frag) (mg : Str → Option Value) (base : Heap) (C : Addr) (D : BookD) : Prop where
  made : Mk K C D.f
  fn : FnOk P w K mg base CX0 7 D.f D.fd psBook (spInit K C)
  b6 : L2.Binds K D.fd psBook []
  v2 : Vals [.ref D.d1, .ref D.d2, .ref D.d3, .ref D.d4] D.ds
  b2 : L2.Binds K D.fd psBook D.ds
  v4 : Vals [.ref D.d3, .ref D.d4] D.ds4
  b4 : L2.Binds K D.fd psBook D.ds4
  v3 : Vals [.ref D.d2, .ref D.d3, .ref D.d4] D.ds3
  b3 : L2.Binds K D.fd psBook D.ds3
  dflt : ∀ H, SqT K H D.d1 [] ∧ SqT K H D.d2 [] ∧ SqT K H D.d3 [] ∧ SqT K H D.d4 []
  g : mg "Book" = some (.ref C)
  c : BkC K C
/-- a new book, its parts tuples -/
def NewBook (K : Frag) (C : Addr) (ev wi : Int) (ts gs ss cs : List V) (H1 : Hp) (Q : VK) : Prop :=
  ∀ o dx t g s c H', Same H1 H' → H1 o = none → H' o = some (bookO C dx ev wi t g s c) → SqT K H' t ts → SqT K H' g gs → SqT K H' s ss → SqT K H' c cs → Q (.ref o) H'
theorem made_same {H1 H' : Hp} {x dx C : Addr} (nx : H1 x = none) (nd : H1 dx = none) (k : Kp x (upd (upd H1 dx (.own x)) x (.ins C dx [])) H') : Same H1 H' := fun a o e =>
  k a o (ne_of_none e nx) (by rw [upd_ne (ne_of_none e nx), upd_ne (ne_of_none e nd)]; exact e)
/-- what a making asks -/
def MkB (K : Frag) (C : Addr) (dvs vs : List V) (H1 : Hp) (Q : VK) : Prop := ∀ x dx, H1 x = none → H1 dx = none → dx ≠ x → spInit K C (.ref x :: (vs ++ dvs)) (upd (upd H1 dx (.own x)) x (.ins C dx [])) (fun v H2 => v = .non ∧ Q (.ref x) H2) E0
def tBk (K : Frag) (C : Addr) (dvs : List V) (t : TA) : TE := fun σ H Q => t σ H fun vs H1 => MkB K C dvs vs H1 Q
section
variable {X : Cx} {C : Addr} {D : BookD} {pos p : Pos} {e : Expr} {es : List Expr} {t : TA}
theorem pe_bk2 (B : BookG X.prog X.w X.K X.mg X.base C D) (hr : Room 8 X.A) (hg : Gl X "Book") (ha : PA X (e :: es) t) (he : starEach (e :: es) X.env = (false, eval e X.env) :: starEach es X.env := by rfl) (hpl : (backTo pos (starEach es X.env)).any (·.1) = false := by rfl) :
    PE X (.Call (.Name "Book" p) (e :: es) [] pos) (tBk X.K C [.ref D.d1, .ref D.d2, .ref D.d3, .ref D.d4] t) := pe_make (p := p) (pos := pos) B.made B.fn hr hg B.g B.b2 B.v2 pass0 ha (by decide) he hpl
theorem pe_bk6 (B : BookG X.prog X.w X.K X.mg X.base C D) (hr : Room 8 X.A) (hg : Gl X "Book") (ha : PA X (e :: es) t) (he : starEach (e :: es) X.env = (false, eval e X.env) :: starEach es X.env := by rfl) (hpl : (backTo pos (starEach es X.env)).any (·.1) = false := by rfl) :
    PE X (.Call (.Name "Book" p) (e :: es) [] pos) (tBk X.K C [] t) := pe_make (p := p) (pos := pos) B.made B.fn hr hg B.g B.b6 .nil pass0 ha (by decide) he hpl
theorem pe_bk4 (B : BookG X.prog X.w X.K X.mg X.base C D) (hr : Room 8 X.A) (hg : Gl X "Book") (ha : PA X (e :: es) t) (he : starEach (e :: es) X.env = (false, eval e X.env) :: starEach es X.env := by rfl) (hpl : (backTo pos (starEach es X.env)).any (·.1) = false := by rfl) :
    PE X (.Call (.Name "Book" p) (e :: es) [] pos) (tBk X.K C [.ref D.d3, .ref D.d4] t) := pe_make (p := p) (pos := pos) B.made B.fn hr hg B.g B.b4 B.v4 pass0 ha (by decide) he hpl
theorem pe_bk3 (B : BookG X.prog X.w X.K X.mg X.base C D) (hr : Room 8 X.A) (hg : Gl X "Book") (ha : PA X (e :: es) t) (he : starEach (e :: es) X.env = (false, eval e X.env) :: starEach es X.env := by rfl) (hpl : (backTo pos (starEach es X.env)).any (·.1) = false := by rfl) :
    PE X (.Call (.Name "Book" p) (e :: es) [] pos) (tBk X.K C [.ref D.d2, .ref D.d3, .ref D.d4] t) := pe_make (p := p) (pos := pos) B.made B.fn hr hg B.g B.b3 B.v3 pass0 ha (by decide) he hpl
end
section
variable {K : Frag} {C : Addr} {σ : L2.St} {H : Hp} {Q : VK} {dvs : List V} {t : TA}
theorem a_bk (q : t σ H fun vs H1 => MkB K C dvs vs H1 Q) : tBk K C dvs t σ H Q := q
theorem PartOk.nil {p : Pt} {a : Addr} {ev wi : Int} (h : SqT K H a []) : PartOk K p H a [] ev wi := ⟨.inr h, by decide, fun _ h => nomatch h⟩
theorem new_same {x dx : Addr} (nx : H x = none) (nd : H dx = none) (ne : dx ≠ x) : Same H (upd (upd H dx (.own x)) x (.ins C dx [])) := L2.Same.nw (L2.Same.nw (Same.refl H) nd) (by rw [upd_ne ne.symm]; exact nx)
theorem n_bk6 {ev wi : Int} {t g s c : Addr} {ts gs ss cs : List V} (e0 : 0 ≤ ev) (e8 : ev ≤ 8) (w0 : 0 ≤ wi) (w8 : wi ≤ 8) (ht : PartOk K .tel H t ts ev wi) (hg : PartOk K .gap H g gs ev wi) (hs : PartOk K .sur H s ss ev wi) (hc : PartOk K .cla H c cs ev wi)
    (q : NewBook K C ev wi ts gs ss cs H Q) : MkB K C [] [.int ev, .int wi, .ref t, .ref g, .ref s, .ref c] H Q := fun x dx nx nd ne => by
  have s0 := new_same (C := C) nx nd ne
  exact ⟨x, dx, ev, wi, t, g, s, c, ts, gs, ss, cs, rfl, upd_same, e0, e8, w0, w8, ht.same s0, hg.same s0, hs.same s0, hc.same s0, fun H' t' g' s' c' k ho h1 h2 h3 h4 => ⟨rfl, q x dx t' g' s' c' H' (made_same nx nd k) nx ho h1 h2 h3 h4⟩⟩
theorem n_bk4 {D : BookD} {ev wi : Int} {t g : Addr} {ts gs : List V} (hd : ∀ H, SqT K H D.d1 [] ∧ SqT K H D.d2 [] ∧ SqT K H D.d3 [] ∧ SqT K H D.d4 []) (e0 : 0 ≤ ev) (e8 : ev ≤ 8) (w0 : 0 ≤ wi) (w8 : wi ≤ 8) (ht : PartOk K .tel H t ts ev wi) (hg : PartOk K .gap H g gs ev wi)
    (q : NewBook K C ev wi ts gs [] [] H Q) : MkB K C [.ref D.d3, .ref D.d4] [.int ev, .int wi, .ref t, .ref g] H Q := fun x dx nx nd ne => by
  have s0 := new_same (C := C) nx nd ne
  exact ⟨x, dx, ev, wi, t, g, D.d3, D.d4, ts, gs, [], [], rfl, upd_same, e0, e8, w0, w8, ht.same s0, hg.same s0, .nil (hd _).2.2.1, .nil (hd _).2.2.2,
    fun H' t' g' s' c' k ho h1 h2 h3 h4 => ⟨rfl, q x dx t' g' s' c' H' (made_same nx nd k) nx ho h1 h2 h3 h4⟩⟩
theorem n_bk3 {D : BookD} {ev wi : Int} {t : Addr} {ts : List V} (hd : ∀ H, SqT K H D.d1 [] ∧ SqT K H D.d2 [] ∧ SqT K H D.d3 [] ∧ SqT K H D.d4 []) (e0 : 0 ≤ ev) (e8 : ev ≤ 8) (w0 : 0 ≤ wi) (w8 : wi ≤ 8) (ht : PartOk K .tel H t ts ev wi)
    (q : NewBook K C ev wi ts [] [] [] H Q) : MkB K C [.ref D.d2, .ref D.d3, .ref D.d4] [.int ev, .int wi, .ref t] H Q := fun x dx nx nd ne => by
  have s0 := new_same (C := C) nx nd ne
  exact ⟨x, dx, ev, wi, t, D.d2, D.d3, D.d4, ts, [], [], [], rfl, upd_same, e0, e8, w0, w8, ht.same s0, .nil (hd _).2.1, .nil (hd _).2.2.1, .nil (hd _).2.2.2,
    fun H' t' g' s' c' k ho h1 h2 h3 h4 => ⟨rfl, q x dx t' g' s' c' H' (made_same nx nd k) nx ho h1 h2 h3 h4⟩⟩
theorem n_bk2 {D : BookD} {ev wi : Int} (hd : ∀ H, SqT K H D.d1 [] ∧ SqT K H D.d2 [] ∧ SqT K H D.d3 [] ∧ SqT K H D.d4 []) (e0 : 0 ≤ ev) (e8 : ev ≤ 8) (w0 : 0 ≤ wi) (w8 : wi ≤ 8)
    (q : NewBook K C ev wi [] [] [] [] H Q) : MkB K C [.ref D.d1, .ref D.d2, .ref D.d3, .ref D.d4] [.int ev, .int wi] H Q := fun x dx nx nd ne => by
  exact ⟨x, dx, ev, wi, D.d1, D.d2, D.d3, D.d4, [], [], [], [], rfl, upd_same, e0, e8, w0, w8, .nil (hd _).1, .nil (hd _).2.1, .nil (hd _).2.2.1, .nil (hd _).2.2.2,
    fun H' t' g' s' c' k ho h1 h2 h3 h4 => ⟨rfl, q x dx t' g' s' c' H' (made_same nx nd k) nx ho h1 h2 h3 h4⟩⟩
end
theorem Bag.same {H H' : Hp} {b c : Addr} (h : Bag H b c) (s : Same H H') : Bag H' b c := by
  obtain ⟨i, j, k, cs, h1, h2, r⟩ := h
  exact ⟨i, j, k, cs, s _ _ h1, s _ _ h2, r⟩
theorem Bag.ne {H : Hp} {b c p : Addr} (h : Bag H b c) (hp : H p = none) : p ≠ b := fun z => by
  obtain ⟨i, j, k, cs, h1, _⟩ := h
  subst z
  rw [h1] at hp
  cases hp
theorem Th.kp {K : Frag} {b c : Addr} {H H' : Hp} {x : V} (h : Th K H x) (hb : Bag H b c) (hb' : Bag H' b c) (k : Kp b H H') : Th K H' x := by
  obtain ⟨_, _, _, _, h1, _⟩ := hb
  obtain ⟨_, _, _, _, h2, _⟩ := hb'
  exact h.stay h1 h2 k
theorem all_nil {α : Type} {p : α → Prop} : ∀ x ∈ ([] : List α), p x := fun _ h => nomatch h
theorem all_cons {α : Type} {p : α → Prop} {a : α} {l : List α} (h : p a) (t : ∀ x ∈ l, p x) : ∀ x ∈ a :: l, p x := fun x hx => (List.mem_cons.mp hx).elim (fun e => e ▸ h) (t x)
theorem all_app {α : Type} {p : α → Prop} {l m : List α} (h : ∀ x ∈ l, p x) (t : ∀ x ∈ m, p x) : ∀ x ∈ l ++ m, p x := fun x hx => (List.mem_append.mp hx).elim (h x) (t x)
/-- what is new -/
def Nw (H : Hp) (p : Addr) : Prop := ∀ o, Same H (upd H p o)
theorem nw_of {H : Hp} {p : Addr} (h : H p = none) : Nw H p := fun o => L2.Same.nw (Same.refl H) h
theorem Nw.to {H : Hp} {p a : Addr} {o u : HO} (n : Nw H p) (h : H a = some u) : upd H p o a = some u := n o a u h
theorem Th.kpK {K : Frag} {b c : Addr} {H H' : Hp} {x : V} (k : Kp b H H') (hb' : Bag H' b c) (hb : Bag H b c) (h : Th K H x) : Th K H' x := h.kp hb hb' k
theorem Kp.into {b : Addr} {H H1 H2 : Hp} (q : Kp b H1 H2) (p : Same H H1) : Kp b H H2 := (same_kp p).trans q
theorem eqv_is (r : Int) (s : Str) : PyData.eqv (.tuple [.int r, .str s]) (.tuple [.int r, .str s]) = true := by simp [PyData.eqv, PyData.eqvAll]
theorem shp_is {r : Int} {s : Str} (h : PyData.strOk s = true) : SeqAt.shaped (.tuple [.int r, .str s]) = true := by
  simp [SeqAt.shaped, PyData.canLay0, PyData.canLayAll0, PyData.depth, PyData.depthAll]
  exact h
/-- what a law promises: True for each script -/
def spLaw (K : Frag) : Sp := fun vs H Q _ => ∃ (a : Addr) (ns : List Int), vs = [.ref a] ∧ SqL K H a (ns.map V.int) ∧ ∀ H', Q (.bl true) H'
theorem walk_all {l : PySem.W.OpenLaw} {k : Nat} {q : Program} {loose : List Str} {XP : (Str → Option Value) → Heap → Prop} {YP : World → Heap → Prop} {d : DefRec} {K : Params → Frag} (hn : l.most = some 63) (hdf : d.params.defaults = []) (hr : Room k PySem.callerA)
    (hY : ∀ (w : World) (h : Heap), YP w h → (K w.params).In h)
    (F : ∀ (w : World) (mg : Str → Option Value) (fa : Addr) (h : Heap), (K w.params).In h → h.Ns mainGlobals mg → mg d.name = some (.ref fa) →
      ∃ fd : FuncData, (∀ (s : Shared) (u : Value), BindsTo s fd ⟨[u], []⟩ [("_law_script", u)]) ∧ ∀ base : Heap, (K w.params).In base → base.Ns mainGlobals mg → FnG l.prog w (K w.params) mg base CX0 k fa fd ["_law_script"] (spLaw (K w.params))) :
    PySem.W.WalkO q loose XP YP l.row.toRowW d [] (fun f vs => PySem.call f vs) :=
  walk_law (n := 63) (x := "_law_script") (CX := fun _ => CX0) (sp := fun w => spLaw (K w.params)) hn (by decide) hdf hr hY F (fun _ _ a ns hl _ hS => ⟨a, ns, rfl, hS, fun _ => rfl⟩) fun _ _ _ _ _ z => z
theorem own_kit {K : PySem.W.Frag} {C : Addr} {T : String} (hm : PySem.W.kitMeta T = true) (h : PySem.W.mroIn K C (.type T) = some false) : PySem.W.kitOne K (.ref C) (.type T) = some false := by
  unfold PySem.W.kitOne
  rw [if_neg (by simp)]
  show (if PySem.W.kitMeta T = true then PySem.W.subIn K (.ref C) (.type T) else none) = _
  rw [if_pos hm]
  exact h
/-! ### the properties of a book -/
def spGet (C : Addr) (fld : Str) : Sp := fun vs H Q _ => ∃ (a dx : Addr) (fs : List (Str × V)) (v : V), vs = [.ref a] ∧ H a = some (.ins C dx fs) ∧ fs.lookup fld = some v ∧ Q v H
structure PrpG (P : Program) (w : World) (K : Frag) (mg : Str → Option Value) (base : Heap) (C : Addr) (f fld : Str) : Prop where
  ex : ∃ p g fd, PropOf K C f p g ∧ FnOk P w K mg base CX0 1 g fd ["self"] (spGet C fld) ∧ L2.Binds K fd ["self"] []
  cl : Cls K C
theorem pe_prp {X : Cx} {C : Addr} {f fld : Str} {e : Expr} {ta : TE} {pos : Pos} (G : PrpG X.prog X.w X.K X.mg X.base C f fld) (hr : Room 2 X.A) (ha : PE X e ta) (hab : attributeBase e f X.env (eval e X.env) = eval e X.env := by rfl) :
    PE X (.Attribute e f pos) (tProp C (spGet C fld) [] E0 ta) := by
  obtain ⟨p, g, fd, hp, F, hb⟩ := G.ex
  exact pe_prop ha G.cl hp F hr hb .nil pass0 hab
def PrpR (C : Addr) (fld : Str) (x : V) (H : Hp) (Q : VK) : Prop := ∃ a dx fs, x = V.ref a ∧ H a = some (.ins C dx fs) ∧ spGet C fld (V.ref a :: []) H Q E0
theorem a_prp {C : Addr} {fld : Str} {ta : TE} {σ : L2.St} {H : Hp} {Q : VK} (q : ta σ H fun x H1 => PrpR C fld x H1 Q) : tProp C (spGet C fld) [] E0 ta σ H Q := q
theorem n_prp {C a dx : Addr} {fld : Str} {fs : List (Str × V)} {v : V} {H : Hp} {Q : VK} (h : H a = some (.ins C dx fs)) (hv : fs.lookup fld = some v) (q : Q v H) : PrpR C fld (.ref a) H Q := ⟨a, dx, fs, rfl, h, a, dx, fs, v, rfl, h, hv, q⟩
theorem nn {H : Hp} {a q : Addr} {o : HO} (h : upd H a o q = none) : q ≠ a ∧ H q = none := by
  by_cases e : q = a
  · subst e
    rw [upd_same] at h
    cases h
  · rw [upd_ne e] at h
    exact ⟨e, h⟩
theorem isI_cases {x : V} (h : isI x = true) : (∃ z, x = .int z) ∨ ∃ z, x = .bl z := by
  cases x with
  | int z => exact .inl ⟨z, rfl⟩
  | bl z => exact .inr ⟨z, rfl⟩
  | _ => cases h
theorem shp_ints : ∀ (js : List Int), SeqAt.shaped (.list (js.map PyData.int)) = true := by
  intro js
  simp only [SeqAt.shaped, Bool.and_eq_true, decide_eq_true_iff]
  refine ⟨?_, ?_⟩
  · show PyData.canLayAll0 (js.map PyData.int) = true
    induction js with
    | nil => rfl
    | cons j r ih => simp only [List.map_cons, PyData.canLayAll0, PyData.canLay0, ih, Bool.and_true]
  · have q : PyData.depthAll (js.map PyData.int) ≤ 1 := by
      induction js with
      | nil => decide
      | cons j r ih => simp [PyData.depthAll, PyData.depth]; omega
    simp [PyData.depth]; omega
theorem eqv_nil (ds : List PyData) : PyData.eqv (.list ds) (.list []) = decide (ds = []) := by
  cases ds with
  | nil => simp [PyData.eqv, PyData.eqvAll]
  | cons d r => simp [PyData.eqv, PyData.eqvAll]
theorem dp_ints {K : Frag} {H : Hp} : ∀ (js : List Int), DpAll K H (js.map V.int) (js.map PyData.int)
  | [] => .nil
  | j :: r => .cons (.int j) (dp_ints r)
/-! ### data stays -/
mutual
theorem dp_same {K : Frag} {H H' : Hp} (s : Same H H') : ∀ (d : PyData) (v : V), Dp K H v d → Dp K H' v d
  | .none, _, h => by cases h; exact .non
  | .bool _, _, h => by cases h; exact .bl _
  | .int _, _, h => by cases h; exact .int _
  | .str _, _, h => by cases h; exact .str _
  | .list ds, _, h => by
    cases h with
    | lst a ha => exact .lst (Same.seq s a) (dp_sameAll s ds _ ha)
  | .tuple ds, _, h => by
    cases h with
    | tup a ha => exact .tup (a.same s) (dp_sameAll s ds _ ha)
  | .dict _, _, h => by cases h
theorem dp_sameAll {K : Frag} {H H' : Hp} (s : Same H H') : ∀ (ds : List PyData) (vs : List V), DpAll K H vs ds → DpAll K H' vs ds
  | [], _, h => by cases h; exact .nil
  | d :: ds, _, h => by
    cases h with
    | cons h1 h2 => exact .cons (dp_same s d _ h1) (dp_sameAll s ds _ h2)
end
end EL

/- part XC -/
/-! a caught error that keeps fields: isinstance of it, its fields; the class told by the reading -/
namespace EL
open PySem PySem.Spec PyProof.Rows L2
open PySem.W (Frag)
def rIsX (K : Frag) (a : Addr) (cls : Value) (d : Option Addr) : List V → Hp → VK → Prop := fun xs H Q => ∃ (D : Addr) (c : V) (cv : Value) (b : Bool) (dd : Addr) (fs : List (Str × V)), xs = [.ref a, c] ∧ cls = .ref D ∧ ExcC K D ∧ d = some dd ∧ H dd = some (.xd fs) ∧ (∀ u, RelV c u → u = cv) ∧ PySem.W.kitOne K (.ref D) cv = some b ∧ Q (.bl b) H
theorem call_isX {X : Cx} {a : Addr} {oe : Obj} {cls : Value} {d : Option Addr} {pn : List (Addr × Obj)} (hz : Zc cls d oe) (hf : ∃ vs, oe.data = .fields vs) : CallR (X.suite a ((a, oe) :: pn)) (.builtin "isinstance") (rIsX X.K a cls d) := by
  intro pins s σ H xs us Q I r h
  obtain ⟨D, c, cv, b, dd, fs, rfl, ecl, C, ed, ea, hcv, e, q⟩ := h
  cases r with
  | cons rx rr =>
    cases rr with
    | cons rt rr =>
      cases rr
      cases rx
      have ec := hcv _ rt
      subst ec
      subst ecl
      subst ed
      obtain ⟨hget, _⟩ := I.pin (a, oe) (List.mem_append.mpr (.inl List.mem_cons_self))
      obtain ⟨vs, hv⟩ := hf
      have hx : ObjOk X.prog X.w H s.heap dd (.xd fs) := I.hok dd _ ea
      obtain ⟨mA, hns, hr⟩ := hx
      obtain ⟨od, ho, hl⟩ := lookIn_ns hns
      have J : PySem.W.InstAt s.heap a oe D (some od) := ⟨hget, hz.1, by unfold PySem.W.notCls; rw [hv] <;> rfl, by rw [hz.2]; exact ho⟩
      have hcl : (PySem.W.clsIn X.K D).isSome = true := by
        obtain ⟨cd, hc, _⟩ := PySem.W.any_some C.hd
        rw [hc]; rfl
      exact PySem.W.kia_one (PySem.W.kitx_exc hcl C.hg C.hk C.hs C.ha C.hn C.ht C.hm) I.kIn J e (fun z => nomatch z) fun tk => ⟨.bl b, H, I.kept (t' := tk) fun _ _ z => z, rfl, q⟩
/-- the reading of e.f: a the caught error, cls its class, d its dict -/
def tXfR (K : Frag) (a : Addr) (cls : Value) (d : Option Addr) (f : Str) (te : TE) : TE := fun σ H Q => te σ H fun x H1 => x = .ref a ∧ ∃ (C dd : Addr) (fs : List (Str × V)) (v : V), cls = .ref C ∧ XfC K C ∧ PySem.W.findIn K (.ref C) f = some none ∧ d = some dd ∧ H1 dd = some (.xd fs) ∧ fs.lookup f = some v ∧ Q v H1
theorem pe_xfR {X : Cx} {a : Addr} {oe : Obj} {cls : Value} {d : Option Addr} {pn : List (Addr × Obj)} {e : Expr} {te : TE} {pos : Pos} {n : Str}
    (hz : Zc cls d oe) (hf : ∃ vs, oe.data = .fields vs) (he : PE (X.suite a ((a, oe) :: pn)) e te) (hb : attributeBase e n X.env (eval e X.env) = eval e X.env := by rfl) :
    PE (X.suite a ((a, oe) :: pn)) (.Attribute e n pos) (tXfR X.K a cls d n te) := by
  refine ⟨fun pins s σ H Q I h => ?_⟩
  refine attr_of hb (thn (he.run pins s σ H _ I h) fun u s1 hh => ?_)
  obtain ⟨x, H1, I1, rx, ex, C, dd, fs, v, ec, T, hno, ed, ea, l, q⟩ := hh
  subst ex
  obtain rfl : u = Value.ref a := rx
  subst ec
  subst ed
  obtain ⟨ha, _⟩ := I1.pin (a, oe) (List.mem_append_left _ List.mem_cons_self)
  obtain ⟨vs, hd⟩ := hf
  have hx : ObjOk X.prog X.w H1 s1.heap dd (.xd fs) := I1.hok dd _ ea
  obtain ⟨mA, hns, hr⟩ := hx
  obtain ⟨od, ho, hl⟩ := lookIn_ns hns
  obtain ⟨u, hu, ru⟩ := RelO.some_of (v := v) (o := mA n) (by rw [← l]; exact hr n)
  have J : PySem.W.InstAt s1.heap a oe C (some od) := ⟨ha, hz.1, by unfold PySem.W.notCls; rw [hd] <;> rfl, by rw [hz.2]; exact ho⟩
  exact HandSPX.exc_get I1.kIn J T.ga T.gg T.exC (PySem.W.findObj_own T.hdC hno rfl (by rw [hl, hu])) (handed_of ru) ⟨v, H1, I1.tok _, ru, q⟩
theorem a_xfR {K : Frag} {a : Addr} {cls : Value} {d : Option Addr} {f : Str} {te : TE} {σ : L2.St} {H : Hp} {Q : VK} (q : te σ H fun x H1 => x = .ref a ∧ ∃ (C dd : Addr) (fs : List (Str × V)) (v : V), cls = .ref C ∧ XfC K C ∧ PySem.W.findIn K (.ref C) f = some none ∧ d = some dd ∧ H1 dd = some (.xd fs) ∧ fs.lookup f = some v ∧ Q v H1) : tXfR K a cls d f te σ H Q := q
end EL

/- part T4 -/
/-! tracked data with dicts of any entries (keys: ints and texts); repr of it, sys.modules' own place told apart; a law's end that tells it -/
namespace EL
open PySem PySem.Spec PyProof.Rows L2
open PySem.W (Frag)
def kD : Key → PyData
  | .inl i => .int i
  | .inr x => .str x
mutual
inductive Td (H : Hp) : V → PyData → Prop
  | non : Td H .non .none
  | bl (b : Bool) : Td H (.bl b) (.bool b)
  | int (i : Int) : Td H (.int i) (.int i)
  | str (x : Str) : Td H (.str x) (.str x)
  | lst {a : Addr} {xs : List V} {ds : List PyData} (h : H a = some (.lst xs)) (t : TdAll H xs ds) : Td H (.ref a) (.list ds)
  | tup {a : Addr} {xs : List V} {ds : List PyData} (h : H a = some (.tup xs)) (t : TdAll H xs ds) : Td H (.ref a) (.tuple ds)
  | dct {a : Addr} {kvs : List (Key × V)} {ds : List (PyData × PyData)} (h : H a = some (.dK kvs)) (t : TdKv H kvs ds) : Td H (.ref a) (.dict ds)
inductive TdAll (H : Hp) : List V → List PyData → Prop
  | nil : TdAll H [] []
  | cons {v : V} {vs : List V} {d : PyData} {ds : List PyData} (h : Td H v d) (t : TdAll H vs ds) : TdAll H (v :: vs) (d :: ds)
inductive TdKv (H : Hp) : List (Key × V) → List (PyData × PyData) → Prop
  | nil : TdKv H [] []
  | cons {k : Key} {v : V} {vs : List (Key × V)} {d : PyData} {ds : List (PyData × PyData)} (h : Td H v d) (t : TdKv H vs ds) : TdKv H ((k, v) :: vs) ((kD k, d) :: ds)
end
mutual
theorem td_same {H H' : Hp} (s : Same H H') : ∀ (d : PyData) (v : V), Td H v d → Td H' v d
  | .none, _, h => by cases h; exact .non
  | .bool _, _, h => by cases h; exact .bl _
  | .int _, _, h => by cases h; exact .int _
  | .str _, _, h => by cases h; exact .str _
  | .list ds, _, h => by
    cases h with
    | lst a t => exact .lst (s _ _ a) (td_sameAll s ds _ t)
  | .tuple ds, _, h => by
    cases h with
    | tup a t => exact .tup (s _ _ a) (td_sameAll s ds _ t)
  | .dict ds, _, h => by
    cases h with
    | dct a t => exact .dct (s _ _ a) (td_sameKv s ds _ t)
theorem td_sameAll {H H' : Hp} (s : Same H H') : ∀ (ds : List PyData) (vs : List V), TdAll H vs ds → TdAll H' vs ds
  | [], _, h => by cases h; exact .nil
  | d :: ds, _, h => by
    cases h with
    | cons h1 h2 => exact .cons (td_same s d _ h1) (td_sameAll s ds _ h2)
theorem td_sameKv {H H' : Hp} (s : Same H H') : ∀ (ds : List (PyData × PyData)) (vs : List (Key × V)), TdKv H vs ds → TdKv H' vs ds
  | [], _, h => by cases h; exact .nil
  | (_, d) :: ds, _, h => by
    cases h with
    | cons h1 h2 => exact .cons (td_same s d _ h1) (td_sameKv s ds _ h2)
end
theorem Td.same {H H' : Hp} {v : V} {d : PyData} (h : Td H v d) (s : Same H H') : Td H' v d := td_same s d v h
theorem TdAll.same {H H' : Hp} {v : List V} {d : List PyData} (h : TdAll H v d) (s : Same H H') : TdAll H' v d := td_sameAll s d v h
/-- known apart from the object at b -/
abbrev TdB (b : Addr) (H : Hp) (v : V) (d : PyData) : Prop := Td (wo b H) v d
theorem TdB.td {b : Addr} {H : Hp} {v : V} {d : PyData} (h : TdB b H v d) : Td H v d := h.same wo_same
theorem TdB.kp {b : Addr} {H H' : Hp} {v : V} {d : PyData} (h : TdB b H v d) (k : Kp b H H') : TdB b H' v d := h.same (wo_kp k)
theorem TdB.of {b : Addr} {H H' : Hp} {v : V} {d : PyData} (h : TdB b H v d) (s : Same H H') : TdB b H' v d := h.same (wo_sm s)
section
variable {X : Cx} {pins : List (Addr × Obj)} {σ : L2.St} {H : Hp} {s : Shared}
theorem lst_ne (hM : ∃ mm, X.base.Ns sysModules mm) (I : Inv X pins σ H s) {a : Addr} {xs : List V} (h : H a = some (.lst xs)) : a ≠ sysModules := by
  rintro rfl
  obtain ⟨its, rv, ⟨o, n, ho, hc, _, hd⟩, _⟩ := I.list (SqL.of h)
  obtain ⟨mm, o', es, ep, ho', hd', _⟩ := hM
  have := I.bk _ _ ho'
  rw [ho] at this
  cases this
  rw [hd] at hd'
  cases hd'
mutual
theorem td_reads (hM : ∃ mm, X.base.Ns sysModules mm) (I : Inv X pins σ H s) : ∀ (d : PyData) (v : V) (u : Value), Td H v d → RelV v u → ∃ as, Reads s.heap u d as ∧ sysModules ∉ as
  | .none, _, _, h, r => by
    cases h
    cases r
    exact ⟨_, Reads.none, List.not_mem_nil⟩
  | .bool b, _, _, h, r => by
    cases h
    cases r
    exact ⟨_, Reads.bool b, List.not_mem_nil⟩
  | .int i, _, _, h, r => by
    cases h
    obtain ⟨t, rfl⟩ := r
    exact ⟨_, Reads.int i t, List.not_mem_nil⟩
  | .str x, _, _, h, r => by
    cases h
    obtain ⟨t, rfl⟩ := r
    exact ⟨_, Reads.str x t, List.not_mem_nil⟩
  | .list ds, _, _, h, r => by
    cases h with
    | lst hs ha =>
      cases r
      obtain ⟨its, rv, ⟨o, n, ho, hc, _, hd⟩, _⟩ := I.list (SqL.of hs)
      obtain ⟨as, hr, hm⟩ := td_readsAll hM I ds _ its ha rv
      refine ⟨_, Reads.list ho hc hd hr, fun z => ?_⟩
      rcases List.mem_cons.mp z with z | z
      · exact lst_ne hM I hs z.symm
      · exact hm z
  | .tuple ds, _, _, h, r => by
    cases h with
    | tup hs ha =>
      cases r
      obtain ⟨its, rv, ⟨o, ho, hc, n, hd⟩, _⟩ := I.tuple (SqT.of hs)
      obtain ⟨as, hr, hm⟩ := td_readsAll hM I ds _ its ha rv
      exact ⟨_, Reads.tuple ho hc hd hr, hm⟩
  | .dict ds, _, _, h, r => by
    cases h with
    | @dct p kvs _ hp ha =>
      cases r
      obtain ⟨_, ns, vs, kv, o, es, ep, ho, ex, hd, _, pr, _⟩ := I.hok p _ hp
      obtain ⟨as, bs, h1, h2, m1, m2⟩ := td_readsKv hM I ds kvs vs es.toList ha kv pr
      refine ⟨_, .dict ho ex.1 hd h1 h2, fun z => ?_⟩
      rcases List.mem_append.mp z with z | z
      · rcases List.mem_cons.mp z with z | z
        · rw [← z] at ns
          exact absurd ns (by decide)
        · exact m1 z
      · exact m2 z
theorem td_readsAll (hM : ∃ mm, X.base.Ns sysModules mm) (I : Inv X pins σ H s) : ∀ (ds : List PyData) (vs : List V) (us : List Value), TdAll H vs ds → Vals vs us → ∃ as, ReadsAll s.heap us ds as ∧ sysModules ∉ as
  | [], _, _, h, r => by
    cases h
    cases r
    exact ⟨_, ReadsAll.nil, List.not_mem_nil⟩
  | d :: ds, _, _, h, r => by
    cases h with
    | cons h1 h2 =>
      cases r with
      | cons r1 r2 =>
        obtain ⟨as, q1, m1⟩ := td_reads hM I d _ _ h1 r1
        obtain ⟨bs, q2, m2⟩ := td_readsAll hM I ds _ _ h2 r2
        exact ⟨_, ReadsAll.cons q1 q2, fun w => (List.mem_append.mp w).elim m1 m2⟩
theorem td_readsKv (hM : ∃ mm, X.base.Ns sysModules mm) (I : Inv X pins σ H s) : ∀ (ds : List (PyData × PyData)) (kvs : List (Key × V)) (vs : List (Key × Value)) (es : List DictEntry), TdKv H kvs ds → KV kvs vs → Pairs (mixKind X.prog X.w) es vs →
    ∃ as bs, ReadsAll s.heap (es.map (·.key)) (ds.map (·.1)) as ∧ ReadsAll s.heap (es.map (·.val)) (ds.map (·.2)) bs ∧ sysModules ∉ as ∧ sysModules ∉ bs
  | [], _, _, _, h, r, p => by
    cases h
    cases r
    cases p
    exact ⟨_, _, ReadsAll.nil, ReadsAll.nil, List.not_mem_nil, List.not_mem_nil⟩
  | (_, d) :: ds, _, _, _, h, r, p => by
    cases h with
    | @cons k v vs _ _ h1 h2 =>
      cases r with
      | @cons _ q _ qs r1 r2 =>
        cases p with
        | @cons e _ es _ p1 p2 p3 =>
          obtain ⟨ek, rv⟩ := r1
          obtain ⟨bs, q2, m2⟩ := td_reads hM I d v q.2 h1 rv
          obtain ⟨as', bs', h3, h4, m3, m4⟩ := td_readsKv hM I ds vs qs es h2 r2 p3
          have key : Reads s.heap e.key (kD k) [] := by
            have ek' : k = q.1 := ek
            rw [ek']
            have p1' : keyIs q.1 e.key = true := p1
            cases hq : q.1 with
            | inl i =>
              rw [hq] at p1'
              obtain ⟨t, e⟩ := Value.isInt_shape p1'
              rw [e]
              exact Reads.int _ _
            | inr x =>
              rw [hq] at p1'
              obtain ⟨t, e⟩ := Value.isStrOf_shape p1'
              rw [e]
              exact Reads.str _ _
          have q2' : Reads s.heap e.val d bs := by rw [p2]; exact q2
          refine ⟨_, _, ReadsAll.cons key h3, ReadsAll.cons q2' h4, fun z => (List.mem_append.mp z).elim (fun z => nomatch z) m3, fun z => (List.mem_append.mp z).elim m2 m4⟩
end
end
def rShowD : List V → Hp → VK → Prop := fun xs H Q => ∃ x d, xs = [x] ∧ Td H x d ∧ d.showable = true ∧ d.depth ≤ 40 ∧ d.shown.length ≤ sizeLine ∧ Q (.str d.shown) H
theorem u_showD {X : Cx} (hM : ∃ mm, X.base.Ns sysModules mm) (hq : Quiet X.A) (hu : X.A.units + 64 < cLine) : CallR X (.builtin "repr") rShowD := by
  rintro pins s σ H xs us Q I r ⟨x, d, rfl, hd, hs, hdep, hlen, q⟩
  cases r with
  | cons rx rn =>
    rename_i u us
    cases rn
    obtain ⟨as, rd, ns⟩ := td_reads hM I d x u hd rx
    have ns2 : d.hasDict = true → sysModules ∉ as := fun _ => ns
    have fin : ∀ t k, EP X pins σ Q (.str d.shown t) { s with toks := k } := fun t k => ⟨V.str d.shown, H, I.tok _, ⟨t, rfl⟩, q⟩
    have fin2 : ∀ h' t k, (∀ b o, s.heap.get? b = some o → h'.get? b = some o) → EP X pins σ Q (.str d.shown t) { s with heap := h', toks := k } := fun h' t tk k => ⟨V.str _, H, I.kept k, ⟨t, rfl⟩, q⟩
    cases rd with
    | none => exact PySem.P.repr_of_none (fin _ _)
    | bool b => exact PySem.P.repr_of_bool (fin _ _)
    | int i t => exact PySem.P.repr_of_int (by simpa [PyData.showable] using hs) (fin _ _)
    | str y t => exact PySem.P.repr_of_str (fin _ _) hlen
    | list h1 h2 h3 h4 => exact repr_of_reads' (h₀ := s.heap) (.list h1 h2 h3 h4) hs ns2 hq (by omega) (fun _ _ e => e) fin2 hlen
    | tuple h1 h2 h3 h4 => exact repr_of_reads' (h₀ := s.heap) (.tuple h1 h2 h3 h4) hs ns2 hq (by omega) (fun _ _ e => e) fin2 hlen
    | dict h1 h2 h3 h4 h5 => exact repr_of_reads' (h₀ := s.heap) (.dict h1 h2 h3 h4 h5) hs ns2 hq (by omega) (fun _ _ e => e) fin2 hlen
/-! ### one expression, two readings -/
theorem PE.alt {X : Cx} {e : Expr} {t1 t2 : TE} (h1 : PE X e t1) (h2 : PE X e t2) : PE X e (fun σ H Q => t1 σ H Q ∨ t2 σ H Q) :=
  ⟨fun pins s σ H Q I h => h.elim (h1.run pins s σ H Q I) (h2.run pins s σ H Q I)⟩
end EL

/- part TX -/
open PySem L2
namespace TX

theorem str_ext {a b : Str} (h : a.cps.toList = b.cps.toList) : a = b := by
  cases a; cases b; exact congrArg _ (Array.ext' h)

/-- the signs of a join with one sign between -/
def flat (c : Nat) : List (List Nat) → List Nat
  | [] => []
  | [x] => x
  | x :: y :: r => x ++ c :: flat c (y :: r)

theorem join_nil (s : Str) : s.join [] = Str.empty := rfl
theorem join_one (s x : Str) : s.join [x] = x := by rfl
theorem join_two (s x y : Str) (r : List Str) : s.join (x :: y :: r) = x ++ s ++ s.join (y :: r) := by rfl

theorem app_list (a b : Str) : (a ++ b).cps.toList = a.cps.toList ++ b.cps.toList := by
  rw [Str.cps_append]; simp

theorem flat_of (c : Nat) : ∀ ws : List Str, ((⟨#[c]⟩ : Str).join ws).cps.toList = flat c (ws.map (·.cps.toList))
  | [] => rfl
  | [x] => by rw [join_one]; rfl
  | x :: y :: r => by
    rw [join_two, app_list, app_list, flat_of c (y :: r)]
    simp [flat]

theorem cut_eq {c : Nat} : ∀ {x y r s : List Nat}, c ∉ x → c ∉ y → x ++ c :: r = y ++ c :: s → x = y ∧ r = s
  | [], [], r, s, _, _, h => ⟨rfl, by simpa using h⟩
  | [], b :: y, r, s, _, h2, h => by simp at h; exact absurd (by simp [h.1]) h2
  | a :: x, [], r, s, h1, _, h => by simp at h; exact absurd (by simp [h.1]) h1
  | a :: x, b :: y, r, s, h1, h2, h => by
    simp at h h1 h2
    have := cut_eq h1.2 h2.2 h.2
    exact ⟨by rw [h.1, this.1], this.2⟩

theorem flat_inj {c : Nat} : ∀ {a b : List (List Nat)}, a ≠ [] → b ≠ [] → (∀ x ∈ a, c ∉ x) → (∀ x ∈ b, c ∉ x) → flat c a = flat c b → a = b
  | [], _, h, _, _, _, _ => absurd rfl h
  | _, [], _, h, _, _, _ => absurd rfl h
  | [x], [y], _, _, _, _, h => by simp [flat] at h; rw [h]
  | [x], y :: z :: r, _, _, hx, hy, h => by
    simp [flat] at h; exact absurd (by simp [h]) (hx x (by simp))
  | x :: z :: r, [y], _, _, hx, hy, h => by
    simp [flat] at h; exact absurd (by simp [← h]) (hy y (by simp))
  | x :: z :: r, y :: w :: s, _, _, hx, hy, h => by
    simp only [flat] at h
    have := cut_eq (hx x (by simp)) (hy y (by simp)) h
    have e := flat_inj (a := z :: r) (b := w :: s) (by simp) (by simp) (fun u hu => hx u (List.mem_cons_of_mem _ hu)) (fun u hu => hy u (List.mem_cons_of_mem _ hu)) this.2
    rw [this.1, e]

theorem split_ne (x y : Str) : Txt.split x y ≠ [] := by
  unfold Txt.split
  split
  · simp
  · split
    · simp
    · rw [StrLaws.partsBetween_eq]
      obtain ⟨p, r, e⟩ := StrLaws.partsFrom_ne x y.length 0 (Builtin.Str.occurrences x y 0 x.length (x.length + 1))
      rw [e]; simp

theorem map_list_inj : ∀ {a b : List Str}, a.map (fun s => s.cps.toList) = b.map (fun s => s.cps.toList) → a = b
  | [], [], _ => rfl
  | [], _ :: _, h => by simp at h
  | _ :: _, [], h => by simp at h
  | x :: a, y :: b, h => by
    simp only [List.map_cons, List.cons.injEq] at h
    rw [str_ext h.1, map_list_inj h.2]

/-- what is joined with a sign that is in none is cut into the same again -/
theorem split_join {c : Nat} {ws : List Str} (h0 : ws ≠ []) (hf : ∀ w ∈ ws, c ∉ w.cps.toList) :
    Txt.split ((⟨#[c]⟩ : Str).join ws) ⟨#[c]⟩ = ws := by
  refine map_list_inj ?_
  refine flat_inj (c := c) ?_ ?_ ?_ ?_ ?_
  · intro h; exact split_ne _ _ (List.map_eq_nil_iff.mp h)
  · intro h; exact h0 (List.map_eq_nil_iff.mp h)
  · intro x hx
    obtain ⟨p, hp, rfl⟩ := List.mem_map.mp hx
    exact StrLaws.split_free _ c p hp
  · intro x hx
    obtain ⟨p, hp, rfl⟩ := List.mem_map.mp hx
    exact hf p hp
  · rw [← flat_of, ← flat_of, StrLaws.join_split]

theorem flat_len (c : Nat) : ∀ ws : List (List Nat), (ws.map List.length).sum + ws.length ≤ (flat c ws).length + 1
  | [] => by simp [flat]
  | [x] => by simp [flat]
  | x :: y :: r => by
    have := flat_len c (y :: r)
    simp [flat] at this ⊢; omega
theorem flat_len' (c : Nat) : ∀ ws : List (List Nat), (flat c ws).length ≤ (ws.map List.length).sum + ws.length
  | [] => by simp [flat]
  | [x] => by simp [flat]
  | x :: y :: r => by
    have := flat_len' c (y :: r)
    simp [flat] at this ⊢; omega

theorem len_list (s : Str) : s.cps.toList.length = s.length := by simp [Str.length]

/-- the parts of a text, all together -/
theorem split_len (x : Str) (c : Nat) : ((Txt.split x ⟨#[c]⟩).map (·.length)).sum + (Txt.split x ⟨#[c]⟩).length ≤ x.length + 1 := by
  have h := flat_len c ((Txt.split x ⟨#[c]⟩).map (·.cps.toList))
  rw [← flat_of, StrLaws.join_split, len_list] at h
  simp only [List.map_map, List.length_map] at h
  have e : (List.map (List.length ∘ fun x : Str => x.cps.toList) (Txt.split x ⟨#[c]⟩)) = (Txt.split x ⟨#[c]⟩).map (·.length) :=
    List.map_congr_left fun s _ => len_list s
  rw [e] at h; exact h

theorem le_sum : ∀ {l : List Nat} {n : Nat}, n ∈ l → n ≤ l.sum
  | a :: l, n, h => by
    rcases List.mem_cons.mp h with h | h
    · subst h; simp
    · have := le_sum h; simp; omega

theorem split_mem (x : Str) (c : Nat) {p : Str} (h : p ∈ Txt.split x ⟨#[c]⟩) : p.length ≤ x.length := by
  have h1 := split_len x c
  have h2 := le_sum (List.mem_map_of_mem (f := fun s : Str => s.length) h)
  have h3 : 0 < (Txt.split x ⟨#[c]⟩).length := List.length_pos_of_mem h
  omega


/-! numbers as texts -/
def figs (l : List Nat) : List Nat := match l with | 45 :: r => r | l => l
def negW (l : List Nat) : Bool := match l with | 45 :: _ => true | _ => false
def dig (c : Nat) : Bool := decide (48 ≤ c ∧ c ≤ 57)
def digs (w : Str) : Bool := !(figs w.cps.toList).isEmpty && (decide ((figs w.cps.toList).length ≤ 40) && (figs w.cps.toList).all dig)
def valW (w : Str) : Int := if negW w.cps.toList then - (NumText.digitsVal (figs w.cps.toList) : Int) else NumText.digitsVal (figs w.cps.toList)
def showI (n : Int) : Str := Str.ofString (toString n)
def intW (w : Str) : Option Int := if digs w then (if showI (valW w) = w then some (valW w) else none) else none

theorem figs_or (l : List Nat) : (negW l = true ∧ l = 45 :: figs l) ∨ (negW l = false ∧ figs l = l ∧ ∀ r, l ≠ 45 :: r) := by
  match l with
  | [] => exact .inr ⟨rfl, rfl, by simp⟩
  | c :: r =>
    by_cases h : c = 45
    · subst h; exact .inl ⟨rfl, rfl⟩
    · refine .inr ⟨?_, ?_, ?_⟩
      · unfold negW; split
        · rename_i e; simp at e; exact absurd e.1 h
        · rfl
      · unfold figs; split
        · rename_i e; simp at e; exact absurd e.1 h
        · rfl
      · intro s e; simp at e; exact h e.1

theorem digs_all {w : Str} (h : digs w = true) : NumText.AllDigits (figs w.cps.toList) ∧ figs w.cps.toList ≠ [] ∧ (figs w.cps.toList).length ≤ 40 := by
  unfold digs at h
  simp only [Bool.and_eq_true, Bool.not_eq_true', decide_eq_true_eq, List.all_eq_true] at h
  refine ⟨fun c hc => by have := h.2.2 c hc; simpa [dig] using this, fun e => by rw [e] at h; simp at h, h.2.1⟩

theorem digs_len {w : Str} (h : digs w = true) : w.length ≤ 41 := by
  have h1 := (digs_all h).2.2
  rw [← len_list]
  rcases figs_or w.cps.toList with ⟨_, e⟩ | ⟨_, e, _⟩
  · rw [e]; simp; omega
  · rw [e] at h1; omega

theorem digs_int {w : Str} (h : digs w = true) : intText? w = some (valW w) := by
  obtain ⟨h1, h2, h3⟩ := digs_all h
  have hl := digs_len h
  unfold valW
  rcases figs_or w.cps.toList with ⟨n, e⟩ | ⟨n, e, _⟩
  · rw [n]; exact intText_neg e h1 h2 (by omega)
  · rw [n]; rw [e] at h1 h2 ⊢; exact intText_digits h1 h2 (by omega)

theorem val_lt : ∀ {l : List Nat} {a : Nat}, NumText.AllDigits l → l.foldl (fun acc c => acc * 10 + (c - 48)) a < (a + 1) * 10 ^ l.length
  | [], a, _ => by simp
  | c :: r, a, h => by
    have hc := h c (List.mem_cons_self)
    have := val_lt (l := r) (a := a * 10 + (c - 48)) (fun x hx => h x (List.mem_cons_of_mem _ hx))
    simp only [List.foldl_cons, List.length_cons]
    refine Nat.lt_of_lt_of_le this ?_
    rw [Nat.pow_succ, Nat.mul_comm (10 ^ r.length) 10, ← Nat.mul_assoc]
    refine Nat.mul_le_mul_right _ ?_
    omega

theorem log_of {n : Nat} (h : n < 10 ^ 41) : n.log2 < 1920 := by
  by_cases h0 : n = 0
  · subst h0; decide
  · refine (Nat.log2_lt h0).mpr (Nat.lt_trans h ?_)
    exact by decide +kernel

theorem digs_log {w : Str} (h : digs w = true) : (valW w).natAbs < 10 ^ 41 := by
  obtain ⟨h1, h2, h3⟩ := digs_all h
  have := val_lt (a := 0) h1
  have hp : 10 ^ (figs w.cps.toList).length ≤ 10 ^ 41 := Nat.pow_le_pow_right (by decide) (by omega)
  have e : (valW w).natAbs = NumText.digitsVal (figs w.cps.toList) := by
    unfold valW; split <;> simp
  rw [e]; unfold NumText.digitsVal; omega

theorem back_digit {c : Nat} (h : 48 ≤ c ∧ c ≤ 57) : (Char.ofNat c).toNat = c := by
  have : c = 48 ∨ c = 49 ∨ c = 50 ∨ c = 51 ∨ c = 52 ∨ c = 53 ∨ c = 54 ∨ c = 55 ∨ c = 56 ∨ c = 57 := by omega
  rcases this with h | h | h | h | h | h | h | h | h | h <;> subst h <;> rfl

theorem back_digits : ∀ {l : List Nat}, NumText.AllDigits l → (l.map Char.ofNat).map Char.toNat = l
  | [], _ => rfl
  | c :: r, h => by
    simp only [List.map_cons]
    rw [back_digit (h c List.mem_cons_self), back_digits (l := r) fun x hx => h x (List.mem_cons_of_mem _ hx)]

def norm (l : List Nat) : List Nat := match l.dropWhile (fun x => x == 48) with | [] => [48] | l => l

theorem drop_all {l : List Nat} (h : NumText.AllDigits l) : NumText.AllDigits (l.dropWhile (fun x => x == 48)) :=
  fun c hc => h c ((List.dropWhile_sublist _).subset hc)

/-- the signs of a whole number at least 0 that digits write -/
theorem show_digits {l : List Nat} (h : NumText.AllDigits l) : (showI (NumText.digitsVal l : Int)).cps.toList = norm l := by
  unfold showI
  rw [W.KIN.signs_num, NumText.toDigits_all l h]
  unfold norm
  have hd := drop_all h
  match e : l.dropWhile (fun x => x == 48) with
  | [] => rfl
  | c :: r => rw [e] at hd; exact back_digits hd

theorem show_neg {n : Nat} (h : 0 < n) : (showI (-(n : Int))).cps.toList = 45 :: (showI (n : Int)).cps.toList := by
  match n, h with
  | m + 1, _ =>
    have e : (-((m + 1 : Nat) : Int)) = Int.negSucc m := rfl
    unfold showI
    rw [e]
    have e1 : toString (Int.negSucc m) = "-" ++ toString (m + 1) := rfl
    have e2 : toString (((m + 1 : Nat) : Int)) = toString (m + 1) := rfl
    rw [e1, e2]
    have e3 : ("-" : String).toByteArray.data.toList = [45] := by decide +kernel
    simp only [Str.ofString, String.toByteArray_append, ByteArray.data_append, Array.toList_append]
    rw [e3]; rfl

theorem norm_eq {l : List Nat} (h : l ≠ []) : norm l = l ↔ (l.head? ≠ some 48 ∨ l = [48]) := by
  match l, h with
  | c :: r, _ =>
    unfold norm
    by_cases hc : c = 48
    · subst hc
      have e : (List.dropWhile (fun x => x == 48) (48 :: r)) = List.dropWhile (fun x => x == 48) r := by simp [List.dropWhile]
      rw [e]
      constructor
      · intro h1
        right
        match e2 : List.dropWhile (fun x => x == 48) r with
        | [] => rw [e2] at h1; exact h1.symm
        | d :: s =>
          rw [e2] at h1
          have h2 := (List.dropWhile_sublist (l := r) (fun x => x == 48)).length_le
          rw [e2] at h2
          have h3 := congrArg List.length h1
          simp at h2 h3; omega
      · rintro (h1 | h1)
        · simp at h1
        · simp at h1; subst h1; rfl
    · have e : (List.dropWhile (fun x => x == 48) (c :: r)) = c :: r := by
        have hb : (c == 48) = false := by simp [hc]
        simp only [List.dropWhile, hb]
      rw [e]
      simp [hc]

theorem str_eq_iff {a b : Str} : a = b ↔ a.cps.toList = b.cps.toList := ⟨fun h => by rw [h], str_ext⟩

/-- what the law asks of a leading zero is what the program asks of the number's text -/
theorem show_val {w : Str} (h : digs w = true) : showI (valW w) = w ↔ ((figs w.cps.toList).head? ≠ some 48 ∨ w = "0") := by
  obtain ⟨h1, h2, h3⟩ := digs_all h
  have hz : ("0" : Str).cps.toList = [48] := rfl
  rw [str_eq_iff, str_eq_iff (b := "0"), hz]
  unfold valW
  rcases figs_or w.cps.toList with ⟨n, e⟩ | ⟨n, e, hn⟩
  · rw [n, if_pos rfl]
    generalize figs w.cps.toList = l at *
    rw [e]
    by_cases h0 : NumText.digitsVal l = 0
    · rw [h0]
      have e0 : (showI (-((0 : Nat) : Int))).cps.toList = [48] := rfl
      rw [e0]
      have hh : l.head? = some 48 := by
        match l, h2 with
        | c :: r, _ =>
          have hc := h1 c List.mem_cons_self
          by_cases hc' : c = 48
          · rw [hc']; rfl
          · have := NumText.digitsVal_pos (c := c) (cs := r) (by omega); omega
      simp [hh]
    · rw [show_neg (Nat.pos_of_ne_zero h0), show_digits h1]
      simp only [List.cons.injEq, true_and]
      rw [norm_eq h2]
      constructor
      · rintro (h | h)
        · exact .inl h
        · subst h; exact absurd rfl h0
      · rintro (h | h)
        · exact .inl h
        · simp at h
  · rw [n, if_neg (by simp), show_digits h1, e]
    rw [e] at h2
    exact norm_eq h2

theorem intW_law {w : Str} (h : digs w = true) : intW w = if (figs w.cps.toList).head? = some 48 ∧ w ≠ "0" then none else some (valW w) := by
  unfold intW
  rw [if_pos h]
  by_cases h1 : showI (valW w) = w
  · rw [if_pos h1, if_neg]
    rintro ⟨a, b⟩
    rcases (show_val h).mp h1 with c | c
    · exact c a
    · exact b c
  · rw [if_neg h1, if_pos]
    refine ⟨Classical.byContradiction fun a => h1 ((show_val h).mpr (.inl a)), fun b => h1 ((show_val h).mpr (.inr b))⟩


theorem toD_all (m : Nat) : NumText.AllDigits ((Nat.toDigits 10 m).map Char.toNat) := by
  intro c hc
  obtain ⟨x, hx, rfl⟩ := List.mem_map.mp hc
  have := Nat.isDigit_of_mem_toDigits (by decide) (by decide) hx
  simp only [Char.isDigit, Bool.and_eq_true, decide_eq_true_eq] at this
  exact ⟨this.1, this.2⟩
theorem toD_ne (m : Nat) : (Nat.toDigits 10 m).map Char.toNat ≠ [] := by
  intro h
  have h1 := W.KIN.val_back m
  have h0 := NumText.toDigits_all [] (by intro c hc; cases hc)
  have : Nat.toDigits 10 m = [] := List.map_eq_nil_iff.mp h
  rw [h] at h1
  have : m = 0 := h1.symm
  subst this
  simp at h
theorem showI_list (n : Int) : (showI n).cps.toList = if n < 0 then 45 :: (Nat.toDigits 10 n.natAbs).map Char.toNat else (Nat.toDigits 10 n.natAbs).map Char.toNat := by
  by_cases h : n < 0
  · rw [if_pos h]
    have e : n = -((n.natAbs : Nat) : Int) := by omega
    have hp : 0 < n.natAbs := by omega
    conv => lhs; rw [e]
    rw [show_neg hp]; unfold showI; rw [W.KIN.signs_num]
  · rw [if_neg h]
    have e : n = ((n.natAbs : Nat) : Int) := by omega
    conv => lhs; rw [e]
    unfold showI; rw [W.KIN.signs_num]

theorem figs_show (n : Int) : figs (showI n).cps.toList = (Nat.toDigits 10 n.natAbs).map Char.toNat ∧ (negW (showI n).cps.toList = decide (n < 0)) := by
  rw [showI_list]
  by_cases h : n < 0
  · rw [if_pos h]; exact ⟨rfl, by simp [h, negW]⟩
  · rw [if_neg h]
    rcases figs_or ((Nat.toDigits 10 n.natAbs).map Char.toNat) with ⟨_, e⟩ | ⟨a, b, _⟩
    · have := toD_all n.natAbs 45 (by rw [e]; exact List.mem_cons_self); omega
    · exact ⟨b, by rw [a]; simp [h]⟩

theorem digs_show {n : Int} (h : n.natAbs < 10 ^ 40) : digs (showI n) = true := by
  unfold digs
  rw [(figs_show n).1]
  simp only [Bool.and_eq_true, Bool.not_eq_true', decide_eq_true_eq, List.all_eq_true]
  refine ⟨?_, ?_, ?_⟩
  · cases e : ((Nat.toDigits 10 n.natAbs).map Char.toNat)
    · exact absurd e (toD_ne _)
    · rfl
  · rw [List.length_map]; exact PyProof.Rows.digits10_le (by decide) h
  · intro c hc; have := toD_all n.natAbs c hc; simpa [dig] using this

theorem val_show (n : Int) : valW (showI n) = n := by
  unfold valW
  rw [(figs_show n).1, (figs_show n).2, W.KIN.val_back]
  by_cases h : n < 0
  · simp [h]; omega
  · simp [h]; omega

theorem intW_show {n : Int} (h : n.natAbs < 10 ^ 40) : intW (showI n) = some n := by
  unfold intW; rw [if_pos (digs_show h), val_show, if_pos rfl]

theorem showI_len {n : Int} (h : n.natAbs < 10 ^ 40) : (showI n).length ≤ 41 := digs_len (digs_show h)
theorem showI_free {n : Int} {c : Nat} (hc : c ≠ 45) (hd : dig c = false) : c ∉ (showI n).cps.toList := by
  rw [showI_list]
  have : c ∉ (Nat.toDigits 10 n.natAbs).map Char.toNat := fun h => by
    have := toD_all n.natAbs c h; simp [dig] at hd; omega
  split
  · simp [hc]; simpa using this
  · exact this
end TX

/- part TXR -/
open PySem L2 PyProof.Rows
namespace EL
theorem rep_len (cs : Array Nat) : ∀ n a, (List.foldl (fun x1 x2 => x1 ++ x2) a (List.replicate n cs)).size = a.size + cs.size * n
  | 0, a => by simp
  | n + 1, a => by
    rw [List.replicate_succ, List.foldl_cons, rep_len cs n, Array.size_append, Nat.mul_succ]; omega
theorem rep_mem (cs : Array Nat) : ∀ n a x, x ∈ (List.foldl (fun x1 x2 => x1 ++ x2) a (List.replicate n cs)).toList → (x ∈ a.toList → x ∈ cs.toList) → x ∈ cs.toList
  | 0, a, x, h, k => k (by simpa using h)
  | n + 1, a, x, h, k => by
    rw [List.replicate_succ, List.foldl_cons] at h
    refine rep_mem cs n _ x h fun h => ?_
    rw [Array.toList_append] at h
    rcases List.mem_append.mp h with h | h
    · exact k h
    · exact h
/-- a text taken many times: only its length is told -/
theorem op_mulS {X : Cx} : OpR X (binaryOp .Mult) (fun x y H Q => ∃ (z : Str) (n : Int), x = .str z ∧ y = .int n ∧ 2 ≤ n ∧ n ≤ 100000 ∧ 0 < z.length ∧ z.length ≤ 100 ∧ ∀ z' : Str, z'.length = z.length * n.toNat → (∀ x ∈ z'.cps.toList, x ∈ z.cps.toList) → Q (.str z') H) := by
  rintro pins s σ H x y v u Q I rx ry ⟨z, n, rfl, rfl, h1, h2, h3, h4, q⟩
  obtain ⟨t, rfl⟩ := rx
  obtain ⟨u, rfl⟩ := ry
  have hn : n = 2 ∨ 2 < n := by omega
  have hb : (n == 1 || z.length == 0) = false := by
    have a : (n == 1) = false := by simp; omega
    have b : (z.length == 0) = false := by simp; omega
    rw [a, b]; rfl
  have hm : z.length * n.toNat ≤ 10000000 := Nat.mul_le_mul h4 (show n.toNat ≤ 100000 by omega)
  refine P.mul_str ?_ (fun _ _ => ?_) (fun _ _ => ?_) ?_
  · have a : decide (n < -2 ^ 63) = false := by simp; omega
    have b : decide (n ≥ 2 ^ 63) = false := by simp; omega
    rw [a, b]; rfl
  · have : (2 ^ 63 - 1) / n ≥ (2 ^ 63 - 1) / 100000 := by
      rw [ge_iff_le, Int.le_ediv_iff_mul_le (by omega)]; omega
    have e : ((2 : Int) ^ 63 - 1) / 100000 = 92233720368547 := by decide
    omega
  · unfold Builtin.Str.tooLong; have : sizeLine = 16777216 := rfl; simp; omega
  · rw [if_neg (by omega), hb]
    show (Made.str _).post _ _
    have hl : (⟨List.foldl (fun x1 x2 => x1 ++ x2) #[] (List.replicate n.toNat z.cps)⟩ : Str).length = z.length * n.toNat := by
      unfold Str.length; rw [rep_len]; simp
    refine ⟨?_, ⟨V.str _, H, I.tok _, ⟨_, rfl⟩, q _ hl fun x hx => rep_mem z.cps n.toNat #[] x hx (by simp)⟩⟩
    rw [hl]; have : sizeLine = 16777216 := rfl; omega

open TX
theorem walk_str {z : Str} : Walk (Its z) z.cps.size (fun _ => True) (fun i H v H' => H' = H ∧ ∃ c, z.cps.toList[i]? = some c ∧ v = .str ⟨#[c]⟩) :=
  ⟨fun i H hi _ => hi, fun H _ => Nat.le_refl _, fun i H x H' _ _ h => ⟨h.1, by obtain ⟨c, a, b⟩ := h.2; exact ⟨c, by simpa using a, b⟩⟩⟩
/-- the text behind a minus -/
def figS (z : Str) : Str := ⟨(figs z.cps.toList).toArray⟩
theorem figS_list (z : Str) : (figS z).cps.toList = figs z.cps.toList := by simp [figS]
theorem figS_len (z : Str) : (figS z).length = (figs z.cps.toList).length := by simp [figS, Str.length]
theorem figs_le (l : List Nat) : (figs l).length ≤ l.length := by
  rcases figs_or l with ⟨_, e⟩ | ⟨_, e, _⟩
  · have := congrArg List.length e; simp at this; omega
  · rw [e]; omega
theorem figS_le (z : Str) : (figS z).length ≤ z.length := by
  rw [figS_len, ← TX.len_list]; exact figs_le _
theorem rm_eq (z : Str) : Txt.removeprefix z "-" = figS z := by
  refine str_ext ?_
  rw [figS_list]
  unfold Txt.removeprefix
  rw [StrLaws.subAt_eq]
  have e1 : ("-" : Str).cps.toList = [45] := rfl
  have e2 : ("-" : Str).length = 1 := rfl
  rw [e1, e2, List.drop_zero]
  rcases figs_or z.cps.toList with ⟨_, e⟩ | ⟨_, e, h⟩
  · have : (List.take 1 z.cps.toList == [45]) = true := by rw [e]; simp
    rw [this, if_pos rfl]
    have hl := TX.len_list z
    have hz : (z.length - 1 == z.length) = false := by
      rw [e] at hl; simp at hl ⊢; omega
    show (if (z.length - 1 == z.length) = true then z else Builtin.Str.strSub z 1 z.length).cps.toList = _
    rw [hz, if_neg (by simp), StrLaws.strSub_toList]
    have e3 : List.drop 1 z.cps.toList = figs z.cps.toList := by conv => lhs; rw [e]
                                                                 rfl
    rw [e3]
    refine List.take_of_length_le ?_
    rw [e] at hl; simp at hl; omega
  · have : (List.take 1 z.cps.toList == [45]) = false := by
      rw [beq_eq_false_iff_ne]
      intro c
      match e3 : z.cps.toList with
      | [] => rw [e3] at c; simp at c
      | a :: r => rw [e3] at c; simp at c; exact h r (by rw [e3, c])
    rw [this, if_neg (by simp), e]
    rfl
theorem cut1 {z : Str} (h : negW z.cps.toList = true) : cutS z (some 1) none = figS z := by
  refine str_ext ?_
  rw [figS_list]
  rcases figs_or z.cps.toList with ⟨_, e⟩ | ⟨n, _, _⟩
  · have hl := TX.len_list z
    unfold cutS
    have h1 : HT.sIx z.length 0 (some 1) = 1 := by
      rw [e] at hl; simp at hl
      unfold HT.sIx; simp; omega
    have h2 : HT.sIx z.length z.length none = z.length := by unfold HT.sIx; rfl
    show (List.take (HT.sIx z.length z.length none - HT.sIx z.length 0 (some 1)) (List.drop (HT.sIx z.length 0 (some 1)) z.cps.toList)).toArray.toList = _
    rw [h1, h2]
    have e3 : List.drop 1 z.cps.toList = figs z.cps.toList := by conv => lhs; rw [e]
                                                                 rfl
    rw [e3, List.toList_toArray]
    refine List.take_of_length_le ?_
    rw [e] at hl; simp at hl; omega
  · rw [h] at n; cases n
theorem cut0 (z : Str) : cutS z none (some 1) = ("-" : Str) ↔ negW z.cps.toList = true := by
  rw [str_eq_iff]
  have e1 : ("-" : Str).cps.toList = [45] := rfl
  rw [e1]
  have hl := TX.len_list z
  have h1 : HT.sIx z.length 0 none = 0 := by unfold HT.sIx; rfl
  have h2 : HT.sIx z.length z.length (some 1) = min 1 z.length := by unfold HT.sIx; simp
  have e2 : (cutS z none (some 1)).cps.toList = z.cps.toList.take 1 := by
    unfold cutS
    rw [h1, h2]
    match e3 : z.cps.toList with
    | [] => simp
    | a :: r => rw [e3] at hl; simp at hl ⊢; rw [← hl]; simp
  rw [e2]
  rcases figs_or z.cps.toList with ⟨n, e⟩ | ⟨n, _, h⟩
  · rw [n, e]; simp
  · rw [n]
    constructor
    · intro c
      match e3 : z.cps.toList with
      | [] => rw [e3] at c; simp at c
      | a :: r => rw [e3] at c; simp at c; exact absurd (by rw [e3, c]) (h r)
    · intro c; cases c
theorem in_digits (c : Nat) : decide (c ∈ ("0123456789" : Str).cps.toList) = dig c := by
  have e : ("0123456789" : Str).cps.toList = [48, 49, 50, 51, 52, 53, 54, 55, 56, 57] := by decide +kernel
  rw [e]
  unfold dig
  rw [Bool.eq_iff_iff, decide_eq_true_iff, decide_eq_true_iff]
  simp; omega
theorem cutS_mem {z : Str} {lo hi : Option Int} {x : Nat} (h : x ∈ (cutS z lo hi).cps.toList) : x ∈ z.cps.toList := by
  unfold cutS at h
  simp only [List.toList_toArray] at h
  exact List.mem_of_mem_drop (List.mem_of_mem_take h)
theorem app_mem {a b : Str} {x : Nat} (h : x ∈ (a ++ b).cps.toList) : x ∈ a.cps.toList ∨ x ∈ b.cps.toList := by
  rw [app_list] at h
  exact List.mem_append.mp h
end EL

/- part X -/
namespace EL
open PySem PySem.Spec PyProof.Rows L2
open PySem.W (Frag)

local macro_rules | `(tactic| walk_at "el1") => `(tactic| with_reducible first
  | refine a_sasg ?_ | refine a_sdrop ?_ | refine a_saugS ?_ | refine a_spar ?_ | refine a_seq ?_ | refine a_asg ?_ | refine a_drop ?_ | refine a_ret ?_ | refine a_if ?_ | refine a_next ?_
  | refine a_op ?_ | refine a_cons ?_ | refine a_nil ?_ | refine a_cb ?_ | refine a_call ?_ | refine a_c ?_ | refine a_gn ?_ | refine a_nx ?_ | refine a_rt ?_ | refine a_un ?_
  | refine a_test ?_ | refine a_B ?_ | refine a_bl ?_ | refine a_and ?_ | refine a_or ?_ | refine a_not ?_ | refine a_andV ?_ | refine a_orV ?_ | refine a_notV ?_ | refine a_ifx ?_ | refine a_chain ?_
  | refine a_nT ?_ | refine a_nF ?_ | refine a_fld ?_ | refine a_getF ?_ | refine a_T ?_ | refine a_F ?_ | refine a_tup ?_ | refine a_lst ?_ | refine a_sub ?_ | refine a_augS ?_ | refine a_two ?_ | refine a_I0 ?_ | refine a_U ?_ | refine n_add ?_ | refine n_int ?_ | refine n_ib ?_ | refine a_ip ?_ | refine a_rng1 ?_ | refine a_rng2 ?_ | refine a_bm ?_ | refine a_abs ?_ | refine a_pairs ?_ | refine a_pairs0 ?_ | refine a_bk ?_ | refine a_prp ?_ | refine a_lc ?_ | refine a_yes ?_ | refine a_sl ?_ | refine a_nop ?_ | refine a_prt ?_ | refine a_ex1 ?_ | refine a_for ?_ | refine a_sfor ?_ | refine a_iE1 ?_ | refine a_iEs ?_ | refine a_iEz ?_ | refine a_iEnum ?_ | refine a_iTup ?_ | refine a_iList ?_ | refine a_gcons ?_ | refine a_gnil ?_ | refine a_revT ?_ | refine a_spar3 ?_ | refine a_par3 ?_ | refine a_three ?_)
local macro_rules | `(tactic| walk_at "el2") => `(tactic| first
  | (refine a_var (by rfl) ?_)
  | (refine n_ixL (SqL.of (by assumption)) (by rfl) ?_) | (refine n_ixT (SqT.of (by assumption)) (by rfl) ?_) | (refine n_eq (by rfl) ?_) | (refine n_ne (by rfl) ?_)
  | (refine n_isN ?_) | (refine n_notN ?_) | (refine n_isB ?_) | (refine n_notB ?_) | (refine n_isBI ?_) | (refine n_notBI ?_) | (refine n_len (.inl (SqL.of (by assumption))) ?_) | (refine n_len (.inr (SqT.of (by assumption))) ?_)
  | (refine a_getL (SqL.of (by assumption)) (by rfl) ?_)
  | (refine n_isInt (by assumption) ?_) | (refine n_isBool (by assumption) ?_) | (refine n_isStr (by assumption) ?_) | (refine n_isTup (by assumption) ?_) | (refine n_isLst (by assumption) ?_))
local macro_rules | `(tactic| walk_at "el") => `(tactic| repeat (first | walk_at "el1" | walk_at "el2"))

/-! ### errors that keep what they were made of -/
def spErr1 (C : Addr) (fld : Str) : Sp := fun vs H Q _ => ∃ (a : Addr) (y : V), vs = [.ref a, y] ∧ H a = some (exo a C none) ∧ ∀ dx, H dx = none → dx ≠ a → Q .non (upd (upd H dx (exd dx [(fld, y)])) a (exo a C (some dx)))
def spErr2 (C : Addr) (f1 f2 : Str) : Sp := fun vs H Q _ => ∃ (a : Addr) (y z : V), vs = [.ref a, y, z] ∧ H a = some (exo a C none) ∧ ∀ dx, H dx = none → dx ≠ a → Q .non (upd (upd (upd H dx (exd dx [(f1, y)])) a (exo a C (some dx))) dx (exd dx [(f2, z), (f1, y)]))
theorem err_heap {H : Hp} {a d C : Addr} {e1 e2 : HO} (ha : H a = none) (hd : d ≠ a) (fs : List (Str × V)) : upd (del (upd (upd (upd H a e1) d e2) a (exo a C (some d))) a) d (.xd fs) = upd H d (.xd fs) := by
  funext b
  by_cases e : b = d
  · subst e
    rw [upd_same, upd_same]
  · rw [upd_ne e, upd_ne e]
    by_cases z : b = a
    · subst z
      show (if b = b then none else _) = _
      rw [if_pos rfl, ha]
    · show (if b = a then none else _) = _
      rw [if_neg z, upd_ne z, upd_ne e, upd_ne z]
/-- what the making of an error asks -/
def ErrR (C : Addr) (sp : Sp) (vs : List V) (H1 : Hp) (Q : XK) : Prop := vs.length ≤ 1000 ∧ ∀ a : Addr, H1 a = none → sp (.ref a :: (vs ++ [])) (upd H1 a (exo a C none)) (fun v H2 => v = .non ∧ ∃ (d : Addr) (fs : List (Str × V)), H2 a = some (exo a C (some d)) ∧ H2 d = some (exd d fs) ∧ H1 d = none ∧ Q (.ref C) (some d) (upd (del H2 a) d (.xd fs))) (fun _ _ _ => False)
def tRz (C : Addr) (sp : Sp) (ta : TA) (W : WX) : TS := fun _ σ H => ta σ H fun vs H1 => ErrR C sp vs H1 fun cls d H' => W cls d σ H'
theorem a_rz {C : Addr} {sp : Sp} {ta : TA} {W : WX} {D : Ends} {σ : L2.St} {H : Hp} (q : ta σ H fun vs H1 => ErrR C sp vs H1 fun cls d H' => W cls d σ H') : tRz C sp ta W D σ H := q
theorem n_err1 {C : Addr} {fld : Str} {y : V} {H : Hp} {Q : XK} (q : ∀ d, H d = none → Q (.ref C) (some d) (upd H d (.xd [(fld, y)]))) : ErrR C (spErr1 C fld) [y] H Q := by
  refine ⟨by show 1 ≤ 1000; decide, fun a ha => ⟨a, y, rfl, upd_same, fun d hd ne => ⟨rfl, d, [(fld, y)], upd_same, by rw [upd_ne ne]; exact upd_same, (nn hd).2, ?_⟩⟩⟩
  rw [err_heap ha ne]
  exact q d (nn hd).2
theorem err_heap2 {H : Hp} {a d C : Addr} {e1 e2 e3 : HO} (ha : H a = none) (hd : d ≠ a) (fs : List (Str × V)) : upd (del (upd (upd (upd (upd H a e1) d e2) a (exo a C (some d))) d e3) a) d (.xd fs) = upd H d (.xd fs) := by
  funext b
  by_cases e : b = d
  · subst e
    rw [upd_same, upd_same]
  · rw [upd_ne e, upd_ne e]
    by_cases z : b = a
    · subst z
      show (if b = b then none else _) = _
      rw [if_pos rfl, ha]
    · show (if b = a then none else _) = _
      rw [if_neg z, upd_ne e, upd_ne z, upd_ne e, upd_ne z]
theorem n_err2 {C : Addr} {f1 f2 : Str} {y z : V} {H : Hp} {Q : XK} (q : ∀ d, H d = none → Q (.ref C) (some d) (upd H d (.xd [(f2, z), (f1, y)]))) : ErrR C (spErr2 C f1 f2) [y, z] H Q := by
  refine ⟨by show 2 ≤ 1000; decide, fun a ha => ⟨a, y, z, rfl, upd_same, fun d hd ne => ⟨rfl, d, [(f2, z), (f1, y)], by rw [upd_ne ne.symm]; exact upd_same, upd_same, (nn hd).2, ?_⟩⟩⟩
  rw [err_heap2 ha ne]
  exact q d (nn hd).2
structure ErrG (P : Program) (w : World) (K : Frag) (mg : Str → Option Value) (base : Heap) (x : Str) (C : Addr) (ps : List Str) (sp : Sp) : Prop where
  ex : ∃ fI fd, PySem.W.findIn K (.ref C) "__init__" = some (some (.ref fI)) ∧ PySem.W.typeIn K (.ref fI) = some (.type "function") ∧ FnOk P w K mg base CX0 1 fI fd ps sp ∧ L2.Binds K fd ps []
  o : OexC K C
  g : mg x = some (.ref C)
theorem ps_rz {X : Cx} {W : WX} {x : Str} {C : Addr} {ps : List Str} {sp : Sp} {e : Expr} {es : List Expr} {ta : TA} {p pos pos' : Pos} (G : ErrG X.prog X.w X.K X.mg X.base x C ps sp) (hr : Room 2 X.A) (hc : X.calm = true) (tk : Takes X W) (ha : PA X (e :: es) ta)
    (hg : Gl X x := by rfl) (hb : (x == ("__debug__" : Str)) = false := by decide) (he : starEach (e :: es) X.env = (false, eval e X.env) :: starEach es X.env := by rfl) (hpl : (backTo pos (starEach es X.env)).any (·.1) = false := by rfl) :
    PS X (.Raise (some (.Call (.Name x p) (e :: es) [] pos)) none pos') (tRz C sp ta W) := by
  obtain ⟨fI, fd, i, t, F, b⟩ := G.ex
  exact ps_raise hc tk (pmk_oex (pos := pos) (p := p) G.o i t F hr b .nil pass0 hg G.g ha hb he hpl)
/-! ### errors on their way through a call -/
theorem passE {X : Cx} {E : XK} (tk : Takes X fun cls d _ H => E cls d H) : Passes (L2.CX X.prog X.w) X E := fun pins σ H s e s' I hz => passAt tk σ pins H s e s' I hz
theorem pe_calX {X : Cx} {W : WX} {k : Nat} {x : Str} {ps : List Str} {sp : Sp} {p pos : Pos} {e : Expr} {es : List Expr} {t : TA} (C : Cal X.prog X.w X.K X.mg X.base (L2.CX X.prog X.w) k x ps sp) (hr : Room k X.A) (tk : Takes X W) (ha : PA X (e :: es) t)
    (hg : Gl X x := by rfl) (hdb : (x == ("__debug__" : Str)) = false := by decide) (he : starEach (e :: es) X.env = (false, eval e X.env) :: starEach es X.env := by rfl) (hpl : (backTo pos (starEach es X.env)).any (·.1) = false := by rfl) :
    PE X (.Call (.Name x p) (e :: es) [] pos) (tCallS sp (WE W) t) := by
  obtain ⟨f, fd, h1, h2, h3, h4⟩ := C.ex
  exact pe_callS h4 hr hg h1 h2 h3 (fun σ => passAt tk σ) ha hdb he hpl
section
variable {P : Program} {w : World} {K : Frag} {mg : Str → Option Value} {base : Heap} {f C aForms aParts : Addr} {fd : FuncData}
/-- items that are looked at: the error of the first that is none -/
def spCiX (K : Frag) (CT CB : Addr) : Sp := fun vs H Q E => ∃ (n : Int) (p : Pt) (a : Addr) (xs : List V) (ev wi : Int), vs = [.int n, .str p.name, .ref a, .int ev, .int wi] ∧ SqA K H a xs ∧ (∀ x ∈ xs, Th K H x ∧ ∀ (q : Addr) (ys : List V), x = .ref q → H q = some (.tup ys) → ∀ y ∈ ys, Th K H y) ∧
  (24 < xs.length → ∀ d, H d = none → E (.ref CT) (some d) (upd H d (.xd [("limit", .int 24)]))) ∧
  (xs.length ≤ 24 → (∀ x ∈ xs, ItemOk p H x ev wi) → ∀ H', Same H H' → Q .non H') ∧
  (xs.length ≤ 24 → ∀ i x, xs[i]? = some x → (∀ (j : Nat) y, j < i → xs[j]? = some y → ItemOk p H y ev wi) → ¬ ItemOk p H x ev wi → ∀ H' d, Same H H' → H' d = none → E (.ref CB) (some d) (upd H' d (.xd [("index", .int i), ("place", .int n)])))
theorem ItemOk.back {K : Frag} {p : Pt} {H H' : Hp} {x : V} {ev wi : Int} (h : ItemOk p H' x ev wi) (th : Th K H x) (s : Same H H') : ItemOk p H x ev wi := by
  obtain ⟨a, xs, rfl, ha, hl, hs⟩ := h
  refine ⟨a, xs, rfl, ?_, hl, hs⟩
  have go : ∀ u, H a = some u → H a = some (.tup xs) := fun u hu => by
    have q := s _ _ hu
    rw [ha] at q
    rw [hu, ← q]
  cases th with
  | lst h => exact go _ h
  | tup h => exact go _ h
  | dct h => exact go _ h
  | ins h c => exact go _ h
  | dtt h => exact go _ h
theorem th_at {K : Frag} {H H' : Hp} {xs : List V} {x : V} (th : ∀ x ∈ xs, Th K H x ∧ ∀ (q : Addr) (ys : List V), x = .ref q → H q = some (.tup ys) → ∀ y ∈ ys, Th K H y) (s : Same H H') (hx : x ∈ xs) {q : Addr} {ys : List V} (e : x = .ref q) (hq : H' q = some (.tup ys)) : ∀ y ∈ ys, Th K H' y := by
  obtain ⟨t1, t2⟩ := th x hx
  have go : ∀ u, H q = some u → H q = some (.tup ys) := fun u hu => by
    have w := s _ _ hu
    rw [hq] at w
    rw [hu, ← w]
  intro y hy
  subst e
  have h0 : H q = some (.tup ys) := by
    cases t1 with
    | lst h => exact go _ h
    | tup h => exact go _ h
    | dct h => exact go _ h
    | ins h c => exact go _ h
    | dtt h => exact go _ h
  exact (t2 q ys rfl h0 y hy).same s
end
end EL

/- part N -/
namespace EL
open PySem PySem.Spec PyProof.Rows L2
open PySem.W (Frag)
abbrev s_kind : Stmt := top 22
abbrev N_kind : List Str := ["_law_bag_here"]
theorem sc_kind : FnScope N_kind ["_law_bag_here"] (defScope s_kind) := ⟨rfl, rfl, rfl, by decide +kernel, rfl, by decide +kernel, by decide +kernel⟩
local macro_rules | `(tactic| walk_at "el1") => `(tactic| with_reducible first
  | refine a_sasg ?_ | refine a_sdrop ?_ | refine a_saugS ?_ | refine a_spar ?_ | refine a_seq ?_ | refine a_asg ?_ | refine a_drop ?_ | refine a_ret ?_ | refine a_if ?_ | refine a_next ?_
  | refine a_op ?_ | refine a_cons ?_ | refine a_nil ?_ | refine a_cb ?_ | refine a_call ?_ | refine a_c ?_ | refine a_gn ?_ | refine a_nx ?_ | refine a_rt ?_ | refine a_un ?_
  | refine a_test ?_ | refine a_B ?_ | refine a_bl ?_ | refine a_and ?_ | refine a_or ?_ | refine a_not ?_ | refine a_andV ?_ | refine a_orV ?_ | refine a_notV ?_ | refine a_ifx ?_ | refine a_chain ?_
  | refine a_nT ?_ | refine a_nF ?_ | refine a_fld ?_ | refine a_getF ?_ | refine a_T ?_ | refine a_F ?_ | refine a_tup ?_ | refine a_lst ?_ | refine a_sub ?_ | refine a_augS ?_ | refine a_two ?_ | refine a_I0 ?_ | refine a_U ?_ | refine n_add ?_ | refine n_int ?_ | refine n_ib ?_ | refine a_ip ?_ | refine a_rng1 ?_ | refine a_rng2 ?_ | refine a_bm ?_ | refine a_abs ?_ | refine a_pairs ?_ | refine a_pairs0 ?_ | refine a_bk ?_ | refine a_prp ?_ | refine a_lc ?_ | refine a_yes ?_ | refine a_sl ?_ | refine a_nop ?_ | refine a_prt ?_ | refine a_ex1 ?_ | refine a_for ?_ | refine a_sfor ?_ | refine a_iE1 ?_ | refine a_iEs ?_ | refine a_iEz ?_ | refine a_iEnum ?_ | refine a_iTup ?_ | refine a_iList ?_ | refine a_gcons ?_ | refine a_gnil ?_ | refine a_revT ?_ | refine a_spar3 ?_ | refine a_par3 ?_ | refine a_three ?_)
local macro_rules | `(tactic| walk_at "el2") => `(tactic| first
  | (refine a_var (by rfl) ?_)
  | (refine n_ixL (SqL.of (by assumption)) (by rfl) ?_) | (refine n_ixT (SqT.of (by assumption)) (by rfl) ?_) | (refine n_eq (by rfl) ?_) | (refine n_ne (by rfl) ?_)
  | (refine n_isN ?_) | (refine n_notN ?_) | (refine n_isB ?_) | (refine n_notB ?_) | (refine n_isBI ?_) | (refine n_notBI ?_) | (refine n_len (.inl (SqL.of (by assumption))) ?_) | (refine n_len (.inr (SqT.of (by assumption))) ?_)
  | (refine a_getL (SqL.of (by assumption)) (by rfl) ?_)
  | (refine n_isInt (by assumption) ?_) | (refine n_isBool (by assumption) ?_) | (refine n_isStr (by assumption) ?_) | (refine n_isTup (by assumption) ?_) | (refine n_isLst (by assumption) ?_))
local macro_rules | `(tactic| walk_at "el") => `(tactic| repeat (first | walk_at "el1" | walk_at "el2"))

/-! ### numbers, kinds, parts as a law draws them -/
def spNum : Sp := fun vs H Q _ => ∃ b c, vs = [.ref b] ∧ Bag H b c ∧ ∀ (r : Int) H', -1000000000000 ≤ r → r ≤ 1000000000000 → Bag H' b c → Kp b H H' → Q (.int r) H'
def spKnd : Sp := fun vs H Q _ => ∃ b c, vs = [.ref b] ∧ Bag H b c ∧ ∀ (s : Str) H', s = "early" ∨ s = "late" → Bag H' b c → Kp b H H' → Q (.str s) H'
/-- the lists of four parts, new since H0 -/
structure PSt (b c p : Addr) (l : Pt → Addr) (H0 : Hp) : Prop where
  inj : ∀ t u, t ≠ u → l t ≠ l u
  lb : ∀ t, l t ≠ b
  lc : ∀ t, l t ≠ c
  pl : ∀ t, p ≠ l t
  pb : p ≠ b
  fl : ∀ t, H0 (l t) = none
  fp : H0 p = none
/-- no number in an item is near the end of the numbers -/
def Below (H : Hp) (x : V) : Prop := ∀ (q : Addr) (ys : List V) (n : Int), x = .ref q → H q = some (.tup ys) → V.int n ∈ ys → -10000000000000 ≤ n ∧ n ≤ 10000000000000
/-- the number of a gap is small -/
def GapSm (H : Hp) (x : V) : Prop := ∀ (q : Addr) (a e : V) (n : Int), x = .ref q → H q = some (.tup [a, e, .int n]) → -4 ≤ n ∧ n ≤ 4
structure PIv (b c p : Addr) (l : Pt → Addr) (H0 H : Hp) (ev wi : Int) (xs : Pt → List V) : Prop where
  bag : Bag H b c
  kp : Kp b H0 H
  hp : H p = some (.lst [.ref (l .tel), .ref (l .gap), .ref (l .sur), .ref (l .cla)])
  hl : ∀ t, H (l t) = some (.lst (xs t))
  it : ∀ t, ∀ x ∈ xs t, ItemOk t H x ev wi
  nb : ∀ t, ∀ x ∈ xs t, Below H x
  ng : ∀ x ∈ xs .gap, GapSm H x
theorem GapSm.of {H H' : Hp} {x : V} (h : GapSm H x) (hi : ∃ a ys, x = .ref a ∧ H a = some (.tup ys) ∧ H' a = some (.tup ys)) : GapSm H' x := fun q a e n ex hq => by
  obtain ⟨a', zs, ex', h1, h2⟩ := hi
  cases (ex'.symm.trans ex)
  rw [h2] at hq
  cases hq
  exact h _ _ _ n ex h1
theorem gapsm3 {H : Hp} {q : Addr} {a e x : Int} (hx : -4 ≤ x ∧ x ≤ 4) : GapSm (upd H q (.tup [.int a, .int e, .int x])) (.ref q) := fun q' a' e' n e hq => by
  cases e
  rw [upd_same] at hq
  cases hq
  exact hx
theorem Below.of {H H' : Hp} {x : V} (h : Below H x) (hi : ∃ a ys, x = .ref a ∧ H a = some (.tup ys) ∧ H' a = some (.tup ys)) : Below H' x := fun q ys n e hq hn => by
  obtain ⟨a, zs, ex, h1, h2⟩ := hi
  cases (ex.symm.trans e)
  rw [h2] at hq
  cases hq
  exact h _ _ n e h1 hn
theorem below_tup {H : Hp} {q : Addr} {ys : List V} (hq : H q = some (.tup ys)) (h : ∀ n, V.int n ∈ ys → -10000000000000 ≤ n ∧ n ≤ 10000000000000) : Below H (.ref q) := fun q' zs n e hq' hn => by
  cases e
  rw [hq] at hq'
  cases hq'
  exact h n hn
theorem below3 {H : Hp} {q : Addr} {a e x : Int} (ha : 0 ≤ a ∧ a ≤ 8) (he : 0 ≤ e ∧ e ≤ 8) (hx : -10000000000000 ≤ x ∧ x ≤ 10000000000000) : Below (upd H q (.tup [.int a, .int e, .int x])) (.ref q) := below_tup upd_same fun n hn => by
  rcases List.mem_cons.mp hn with z | hn
  · cases z; omega
  rcases List.mem_cons.mp hn with z | hn
  · cases z; omega
  cases List.mem_singleton.mp hn
  exact hx
theorem belowS {H : Hp} {q : Addr} {a x : Int} {s : Str} (ha : 0 ≤ a ∧ a ≤ 8) (hx : -10000000000000 ≤ x ∧ x ≤ 10000000000000) : Below (upd H q (.tup [.int a, .str s, .int x])) (.ref q) := below_tup upd_same fun n hn => by
  rcases List.mem_cons.mp hn with z | hn
  · cases z; omega
  rcases List.mem_cons.mp hn with z | hn
  · cases z
  cases List.mem_singleton.mp hn
  exact hx
theorem belowC {H : Hp} {q : Addr} {a v : Int} {s r : Str} (ha : 0 ≤ a ∧ a ≤ 8) (hv : 0 ≤ v ∧ v ≤ 8) : Below (upd H q (.tup [.int a, .str s, .int v, .str r])) (.ref q) := below_tup upd_same fun n hn => by
  rcases List.mem_cons.mp hn with z | hn
  · cases z; omega
  rcases List.mem_cons.mp hn with z | hn
  · cases z
  rcases List.mem_cons.mp hn with z | hn
  · cases z; omega
  cases List.mem_singleton.mp hn
theorem ItemOk.kp {t : Pt} {b c : Addr} {H H' : Hp} {x : V} {ev wi : Int} (h : ItemOk t H x ev wi) (hb : Bag H b c) (k : Kp b H H') : ItemOk t H' x ev wi := by
  obtain ⟨a, xs, rfl, ha, hl, hs⟩ := h
  refine ⟨a, xs, rfl, k _ _ (fun z => ?_) ha, hl, hs⟩
  subst z
  obtain ⟨_, _, _, _, q, _⟩ := hb
  rw [q] at ha
  cases ha
theorem ItemOk.lst {t : Pt} {a : Addr} {ys zs : List V} {H : Hp} {x : V} {ev wi : Int} (h : ItemOk t H x ev wi) (hb : H a = some (.lst ys)) : ItemOk t (upd H a (.lst zs)) x ev wi := by
  obtain ⟨c, xs, rfl, ha, hl, hs⟩ := h
  refine ⟨c, xs, rfl, ?_, hl, hs⟩
  rw [upd_ne (fun z => by subst z; rw [hb] at ha; cases ha)]
  exact ha
theorem PIv.kp' {b c p : Addr} {l : Pt → Addr} {H0 H H' : Hp} {ev wi : Int} {xs : Pt → List V} (S : PSt b c p l H0) (h : PIv b c p l H0 H ev wi xs) (hb : Bag H' b c) (k : Kp b H H') : PIv b c p l H0 H' ev wi xs :=
  ⟨hb, h.kp.trans k, k _ _ S.pb h.hp, fun t => k _ _ (S.lb t) (h.hl t), fun t x hx => (h.it t x hx).kp h.bag k, fun t x hx => (h.nb t x hx).of (by
    obtain ⟨a, ys, e, ha, _, _⟩ := h.it t x hx
    refine ⟨a, ys, e, ha, k _ _ (fun z => ?_) ha⟩
    subst z
    obtain ⟨_, _, _, _, q, _⟩ := h.bag
    rw [q] at ha
    cases ha), fun x hx => (h.ng x hx).of (by
    obtain ⟨a, ys, e, ha, _, _⟩ := h.it .gap x hx
    refine ⟨a, ys, e, ha, k _ _ (fun z => ?_) ha⟩
    subst z
    obtain ⟨_, _, _, _, q, _⟩ := h.bag
    rw [q] at ha
    cases ha)⟩
theorem PIv.nw {b c p : Addr} {l : Pt → Addr} {H0 H H' : Hp} {ev wi : Int} {xs : Pt → List V} (S : PSt b c p l H0) (h : PIv b c p l H0 H ev wi xs) (s : Same H H') : PIv b c p l H0 H' ev wi xs := h.kp' S (h.bag.same s) (same_kp s)
def setP (xs : Pt → List V) (t : Pt) (ys : List V) : Pt → List V := fun u => if u = t then ys else xs u
theorem setP_at {xs : Pt → List V} {t : Pt} {ys : List V} : setP xs t ys t = ys := if_pos rfl
theorem setP_ne {xs : Pt → List V} {t u : Pt} {ys : List V} (h : u ≠ t) : setP xs t ys u = xs u := if_neg h
theorem PIv.app {b c p : Addr} {l : Pt → Addr} {H0 H : Hp} {ev wi : Int} {xs : Pt → List V} (S : PSt b c p l H0) (h : PIv b c p l H0 H ev wi xs) (t : Pt) {x : V} (hx : ItemOk t H x ev wi) (hn : Below H x) (hg : t = .gap → GapSm H x) : PIv b c p l H0 (upd H (l t) (.lst (xs t ++ [x]))) ev wi (setP xs t (xs t ++ [x])) := by
  refine ⟨?_, h.kp.mut (S.fl t), by rw [upd_ne (S.pl t)]; exact h.hp, fun u => ?_, fun u y hy => ?_, fun u y hy => ?_, fun y hy => ?_⟩
  · obtain ⟨i, j, n, cs, h1, h2, r⟩ := h.bag
    exact ⟨i, j, n, cs, by rw [upd_ne (S.lb t).symm]; exact h1, by rw [upd_ne (S.lc t).symm]; exact h2, r⟩
  · by_cases e : u = t
    · subst e
      rw [upd_same, setP_at]
    · rw [upd_ne (S.inj u t e), setP_ne e]
      exact h.hl u
  · by_cases e : u = t
    · subst e
      rw [setP_at] at hy
      rcases List.mem_append.mp hy with q | q
      · exact (h.it u y q).lst (h.hl u)
      · cases List.mem_singleton.mp q
        exact hx.lst (h.hl u)
    · rw [setP_ne e] at hy
      exact (h.it u y hy).lst (h.hl t)
  · have mv : ∀ {v : V} {w : Pt}, ItemOk w H v ev wi → Below H v → Below (upd H (l t) (.lst (xs t ++ [x]))) v := fun {v w} hi hb => hb.of (by
      obtain ⟨a, ys, e, ha, _, _⟩ := hi
      refine ⟨a, ys, e, ha, ?_⟩
      rw [upd_ne (fun z => by rw [z, h.hl t] at ha; cases ha)]
      exact ha)
    by_cases e : u = t
    · subst e
      rw [setP_at] at hy
      rcases List.mem_append.mp hy with q | q
      · exact mv (h.it u y q) (h.nb u y q)
      · cases List.mem_singleton.mp q
        exact mv hx hn
    · rw [setP_ne e] at hy
      exact mv (h.it u y hy) (h.nb u y hy)
  · have mv : ∀ {v : V} {w : Pt}, ItemOk w H v ev wi → GapSm H v → GapSm (upd H (l t) (.lst (xs t ++ [x]))) v := fun {v w} hi hb => hb.of (by
      obtain ⟨a, ys, e, ha, _, _⟩ := hi
      refine ⟨a, ys, e, ha, ?_⟩
      rw [upd_ne (fun z => by rw [z, h.hl t] at ha; cases ha)]
      exact ha)
    by_cases e : Pt.gap = t
    · subst e
      rw [setP_at] at hy
      rcases List.mem_append.mp hy with q | q
      · exact mv (h.it .gap y q) (h.ng y q)
      · cases List.mem_singleton.mp q
        exact mv hx (hg rfl)
    · rw [setP_ne e] at hy
      exact mv (h.it .gap y hy) (h.ng y hy)
def spParts : Sp := fun vs H Q _ => ∃ (ev wi most : Int) (b c : Addr), vs = [.ref b, .int ev, .int wi, .int most] ∧ Bag H b c ∧ 0 ≤ ev ∧ ev ≤ 8 ∧ 0 ≤ wi ∧ wi ≤ 8 ∧ 0 ≤ most ∧ most ≤ 1000 ∧
  ∀ p l H' xs, PSt b c p l H → PIv b c p l H H' ev wi xs → ((xs .tel).length : Int) ≤ most → ((xs .gap).length : Int) ≤ most / 2 + 1 → (xs .sur).length ≤ 3 → (xs .cla).length ≤ 3 → Q (.ref p) H'
def lOf (l0 l1 l2 l3 : Addr) : Pt → Addr | .tel => l0 | .gap => l1 | .sur => l2 | .cla => l3
theorem parts_start {b c l0 l1 l2 l3 p : Addr} {H : Hp} {ev wi : Int} (hb : Bag H b c) (h0 : H l0 = none) (h1 : upd H l0 (.lst []) l1 = none) (h2 : upd (upd H l0 (.lst [])) l1 (.lst []) l2 = none) (h3 : upd (upd (upd H l0 (.lst [])) l1 (.lst [])) l2 (.lst []) l3 = none)
    (hp : upd (upd (upd (upd H l0 (.lst [])) l1 (.lst [])) l2 (.lst [])) l3 (.lst []) p = none) :
    PSt b c p (lOf l0 l1 l2 l3) H ∧ PIv b c p (lOf l0 l1 l2 l3) H (upd (upd (upd (upd (upd H l0 (.lst [])) l1 (.lst [])) l2 (.lst [])) l3 (.lst [])) p (.lst [.ref l0, .ref l1, .ref l2, .ref l3])) ev wi (fun _ => []) := by
  obtain ⟨n10, h1⟩ := nn h1
  obtain ⟨n21, h2⟩ := nn h2
  obtain ⟨n20, h2⟩ := nn h2
  obtain ⟨n32, h3⟩ := nn h3
  obtain ⟨n31, h3⟩ := nn h3
  obtain ⟨n30, h3⟩ := nn h3
  obtain ⟨m3, hp⟩ := nn hp
  obtain ⟨m2, hp⟩ := nn hp
  obtain ⟨m1, hp⟩ := nn hp
  obtain ⟨m0, hp⟩ := nn hp
  have hc : ∀ q, H q = none → q ≠ c := fun q h z => by
    obtain ⟨_, _, _, _, _, w, _⟩ := hb
    subst z
    rw [w] at h
    cases h
  refine ⟨⟨?_, ?_, ?_, ?_, hb.ne hp, ?_, hp⟩, ⟨?_, ?_, upd_same, ?_, fun t x h => (nomatch h), fun t x h => (nomatch h), fun x h => (nomatch h)⟩⟩
  · intro t u h
    cases t <;> cases u <;> first | exact absurd rfl h | assumption | exact Ne.symm (by assumption)
  · intro t
    cases t
    · exact hb.ne h0
    · exact hb.ne h1
    · exact hb.ne h2
    · exact hb.ne h3
  · intro t
    cases t
    · exact hc _ h0
    · exact hc _ h1
    · exact hc _ h2
    · exact hc _ h3
  · intro t
    cases t <;> assumption
  · intro t
    cases t <;> assumption
  · obtain ⟨i, j, n, cs, w1, w2, r⟩ := hb
    have q : ∀ a o, H a = some o → upd (upd (upd (upd (upd H l0 (.lst [])) l1 (.lst [])) l2 (.lst [])) l3 (.lst [])) p (.lst [.ref l0, .ref l1, .ref l2, .ref l3]) a = some o := fun a o h => by
      rw [upd_ne (ne_of_none h hp), upd_ne (ne_of_none h h3), upd_ne (ne_of_none h h2), upd_ne (ne_of_none h h1), upd_ne (ne_of_none h h0)]
      exact h
    exact ⟨i, j, n, cs, q _ _ w1, q _ _ w2, r⟩
  · intro a o _ h
    rw [upd_ne (ne_of_none h hp), upd_ne (ne_of_none h h3), upd_ne (ne_of_none h h2), upd_ne (ne_of_none h h1), upd_ne (ne_of_none h h0)]
    exact h
  · intro t
    cases t
    · show upd _ _ _ l0 = _
      rw [upd_ne m0.symm, upd_ne n30.symm, upd_ne n20.symm, upd_ne n10.symm, upd_same]
    · show upd _ _ _ l1 = _
      rw [upd_ne m1.symm, upd_ne n31.symm, upd_ne n21.symm, upd_same]
    · show upd _ _ _ l2 = _
      rw [upd_ne m2.symm, upd_ne n32.symm, upd_same]
    · show upd _ _ _ l3 = _
      rw [upd_ne m3.symm, upd_same]
theorem stands3 {p : Pt} {x0 x1 x2 : V} {w0 w1 w2 : Str} {ev wi : Int} (hf : p.form = [w0, w1, w2]) (h0 : standB w0 [x0, x1, x2] 0 x0 ev wi = true) (h1 : standB w1 [x0, x1, x2] 1 x1 ev wi = true) (h2 : standB w2 [x0, x1, x2] 2 x2 ev wi = true) : StandsTo p [x0, x1, x2] ev wi p.form.length := by
  intro j hj wd x hw hx
  rw [hf] at hw hj
  rcases j with _ | _ | _ | j
  · cases hw; cases hx; exact h0
  · cases hw; cases hx; exact h1
  · cases hw; cases hx; exact h2
  · simp only [List.length_cons, List.length_nil] at hj; omega
theorem num_true {i : Int} (h0 : -1000000000000000 ≤ i) (h1 : i ≤ 1000000000000000) : numB (.int i) = true := by
  show (decide _ && decide _) = true
  rw [decide_eq_true h0, decide_eq_true h1]
  rfl
section
variable {xs : List V} {i : Nat} {x : V} {ev wi : Int}
theorem st_w : standB "witness" xs i x ev wi = belowB x wi := by unfold standB; rw [if_pos rfl]
theorem st_e : standB "event" xs i x ev wi = belowB x ev := by unfold standB; rw [if_neg (by decide), if_pos rfl]
theorem st_a : standB "another event" xs i x ev wi = (belowB x ev && !decide (some x = xs[i - 1]?)) := by unfold standB; rw [if_neg (by decide), if_neg (by decide), if_pos rfl]
theorem st_s : standB "side" xs i x ev wi = sideB x := by unfold standB; rw [if_neg (by decide), if_neg (by decide), if_neg (by decide), if_pos rfl]
theorem st_k : standB "kind" xs i x ev wi = kindB x := by unfold standB; rw [if_neg (by decide), if_neg (by decide), if_neg (by decide), if_neg (by decide), if_pos rfl]
theorem st_n : standB "number" xs i x ev wi = numB x := by unfold standB; rw [if_neg (by decide), if_neg (by decide), if_neg (by decide), if_neg (by decide), if_neg (by decide)]
end
theorem item_tel {H : Hp} {q : Addr} {ev wi a e x : Int} (h : H q = some (.tup [.int a, .int e, .int x])) (a0 : 0 ≤ a) (a1 : a < wi) (e0 : 0 ≤ e) (e1 : e < ev) (x0 : -1000000000000000 ≤ x) (x1 : x ≤ 1000000000000000) : ItemOk .tel H (.ref q) ev wi :=
  ⟨q, _, rfl, h, rfl, stands3 rfl (st_w.trans (below_true a0 a1)) (st_e.trans (below_true e0 e1)) (st_n.trans (num_true x0 x1))⟩
theorem item_gap {H : Hp} {q : Addr} {ev wi a e x : Int} (h : H q = some (.tup [.int a, .int e, .int x])) (a0 : 0 ≤ a) (a1 : a < ev) (e0 : 0 ≤ e) (e1 : e < ev) (ne : e ≠ a) (x0 : -1000000000000000 ≤ x) (x1 : x ≤ 1000000000000000) : ItemOk .gap H (.ref q) ev wi :=
  ⟨q, _, rfl, h, rfl, stands3 rfl (st_e.trans (below_true a0 a1)) (st_a.trans (by
    rw [below_true e0 e1, Bool.true_and, decide_eq_false]
    · rfl
    · intro z
      cases z
      exact ne rfl)) (st_n.trans (num_true x0 x1))⟩
theorem item_sur {H : Hp} {q : Addr} {ev wi a x : Int} {s : Str} (h : H q = some (.tup [.int a, .str s, .int x])) (a0 : 0 ≤ a) (a1 : a < ev) (hs : s = "least" ∨ s = "most") (x0 : -1000000000000000 ≤ x) (x1 : x ≤ 1000000000000000) : ItemOk .sur H (.ref q) ev wi :=
  ⟨q, _, rfl, h, rfl, stands3 rfl (st_e.trans (below_true a0 a1)) (st_s.trans (by rcases hs with rfl | rfl <;> decide)) (st_n.trans (num_true x0 x1))⟩
theorem item_cla {H : Hp} {q : Addr} {ev wi a v : Int} {s r : Str} (h : H q = some (.tup [.int a, .str s, .int v, .str r])) (a0 : 0 ≤ a) (a1 : a < wi) (hs : s = "early" ∨ s = "late") (v0 : 0 ≤ v) (v1 : v < wi) (hr : r = "early" ∨ r = "late") : ItemOk .cla H (.ref q) ev wi := by
  refine ⟨q, _, rfl, h, rfl, ?_⟩
  intro j hj wd x hw hx
  rcases j with _ | _ | _ | _ | j
  · cases hw; cases hx; exact st_w.trans (below_true a0 a1)
  · cases hw; cases hx; exact st_k.trans (by rcases hs with rfl | rfl <;> decide)
  · cases hw; cases hx; exact st_w.trans (below_true v0 v1)
  · cases hw; cases hx; exact st_k.trans (by rcases hr with rfl | rfl <;> decide)
  · exact absurd hj (by show ¬ (j + 1 + 1 + 1 + 1 < 4); omega)
theorem gap_ne {a t ev : Int} (a0 : 0 ≤ a) (a1 : a < ev) (t0 : 0 ≤ t) (t1 : t < ev - 1) (e8 : ev ≤ 8) : (a + 1 + t) % ev ≠ a := by
  have h : ev = 2 ∨ ev = 3 ∨ ev = 4 ∨ ev = 5 ∨ ev = 6 ∨ ev = 7 ∨ ev = 8 := by omega
  rcases h with rfl | rfl | rfl | rfl | rfl | rfl | rfl <;> omega
theorem pos2 {x y : Int} (x0 : 0 ≤ x) (y0 : 0 ≤ y) (h : 0 < x * y) : 0 < x ∧ 0 < y := by
  constructor
  · rcases Int.lt_or_eq_of_le x0 with q | q
    · exact q
    · rw [← q, Int.zero_mul] at h; omega
  · rcases Int.lt_or_eq_of_le y0 with q | q
    · exact q
    · rw [← q, Int.mul_zero] at h; omega
theorem size1k {n : Nat} (h : n ≤ 1001) : n < sizeLine := Nat.lt_of_le_of_lt h (by decide)
theorem mul8 {x y : Int} (x0 : 0 ≤ x) (x8 : x ≤ 8) (y0 : 0 ≤ y) (y8 : y ≤ 8) : CMul x y := .inl ⟨by omega, by omega⟩
theorem cnt01 {r : Int} {p : Prop} [Decidable p] (h0 : 0 ≤ r) : 0 ≤ r * (if decide p = true then 1 else 0) ∧ r * (if decide p = true then 1 else 0) ≤ r ∧ (0 < r * (if decide p = true then 1 else 0) → p) := by
  by_cases h : p
  · rw [if_pos (decide_eq_true h)]
    exact ⟨by omega, by omega, fun _ => h⟩
  · rw [if_neg (by rw [decide_eq_false h]; exact Bool.false_ne_true)]
    exact ⟨by omega, by omega, fun z => absurd z (by omega)⟩
section
variable {P : Program} {w : World} {K : Frag} {mg : Str → Option Value} {base : Heap} {f : Addr} {fd : FuncData}
theorem ok_kind (F : Fun K "_law_kind" "_law_kind" s_kind f fd) (T : Tb mg) (c_take : Cal P w K mg base CX0 1 "_law_take" ["_law_bag_here", "_law_many"] spTake) : FnOk P w K mg base CX0 2 f fd ["_law_bag_here"] spKnd := by
  refine F.ok sc_kind (fun vs H Q E h => ?_) (fun cdv A outer s H vs Q E hr h => ?_)
  · obtain ⟨_, _, rfl, _⟩ := h
    rfl
  · obtain ⟨b, c, rfl, hb, k⟩ := h
    refine ⟨_, (pss_one (ps_ret (pe_ix ix_seq (pe_lst (pa_cons pe_str (pa_cons pe_str pa_nil))) (pe_cal c_take (hr.mono (by decide)) pass0 (pa_cons (pv 0) (pa_cons pe_int pa_nil))) (fun _ _ => rfl)))), ?_⟩
    walk_at "el"
    refine ⟨by decide, fun p hp => ?_⟩
    have e1 := nw_of hp
    have n1 := hb.ne hp
    walk_at "el"
    refine ⟨b, c, 2, rfl, hb.same (e1 _), by decide, by decide, fun r1 H1 r0 r2 hb1 k1 => ?_⟩
    have hp1 := k1 _ _ n1 upd_same
    have r3 : r1 = 0 ∨ r1 = 1 := by omega
    have kF : Kp b H H1 := Kp.into k1 (e1 _)
    rcases r3 with rfl | rfl
    · walk_at "el"
      exact k _ _ (.inl rfl) hb1 kF
    · walk_at "el"
      exact k _ _ (.inr rfl) hb1 kF
end
end EL

/- part K93A -/
namespace EL
open PySem PySem.Spec PyProof.Rows L2
open PySem.W (Frag)
open TX
abbrev s_NoText_init : Stmt := inClass (top 2) 0
abbrev N_NoText_init : List Str := ["self", "line"]
theorem sc_NoText_init : FnScope N_NoText_init ["self", "line"] (defScope s_NoText_init) := ⟨rfl, rfl, rfl, by decide +kernel, rfl, by decide +kernel, by decide +kernel⟩
abbrev s__row_of : Stmt := top 8
abbrev N__row_of : List Str := ["words"]
theorem sc__row_of : FnScope N__row_of ["words"] (defScope s__row_of) := ⟨rfl, rfl, rfl, by decide +kernel, rfl, by decide +kernel, by decide +kernel⟩
abbrev s_show_kinds : Stmt := top 6
abbrev N_show_kinds : List Str := ["kinds"]
theorem sc_show_kinds : FnScope N_show_kinds ["kinds"] (defScope s_show_kinds) := ⟨rfl, rfl, rfl, by decide +kernel, rfl, by decide +kernel, by decide +kernel⟩
abbrev s_show_times : Stmt := top 7
abbrev N_show_times : List Str := ["times", "time"]
theorem sc_show_times : FnScope N_show_times ["times"] (defScope s_show_times) := ⟨rfl, rfl, rfl, by decide +kernel, rfl, by decide +kernel, by decide +kernel⟩
abbrev s_integer_of : Stmt := top 11
abbrev N_integer_of : List Str := ["word", "digits", "digit", "number"]
theorem sc_integer_of : FnScope N_integer_of ["word"] (defScope s_integer_of) := ⟨rfl, rfl, rfl, by decide +kernel, rfl, by decide +kernel, by decide +kernel⟩
abbrev s__lines_of : Stmt := top 13
abbrev N__lines_of : List Str := ["text"]
theorem sc__lines_of : FnScope N__lines_of ["text"] (defScope s__lines_of) := ⟨rfl, rfl, rfl, by decide +kernel, rfl, by decide +kernel, by decide +kernel⟩
abbrev s__words_in : Stmt := top 14
abbrev N__words_in : List Str := ["line"]
theorem sc__words_in : FnScope N__words_in ["line"] (defScope s__words_in) := ⟨rfl, rfl, rfl, by decide +kernel, rfl, by decide +kernel, by decide +kernel⟩
abbrev s__check_only_line : Stmt := top 15
abbrev N__check_only_line : List Str := ["lines"]
theorem sc__check_only_line : FnScope N__check_only_line ["lines"] (defScope s__check_only_line) := ⟨rfl, rfl, rfl, by decide +kernel, rfl, by decide +kernel, by decide +kernel⟩
abbrev s_read_kinds : Stmt := top 16
abbrev N_read_kinds : List Str := ["text", "lines", "kinds", "kind"]
theorem sc_read_kinds : FnScope N_read_kinds ["text"] (defScope s_read_kinds) := ⟨rfl, rfl, rfl, by decide +kernel, rfl, by decide +kernel, by decide +kernel⟩
abbrev s_read_times : Stmt := top 17
abbrev N_read_times : List Str := ["text", "lines", "times", "word"]
theorem sc_read_times : FnScope N_read_times ["text"] (defScope s_read_times) := ⟨rfl, rfl, rfl, by decide +kernel, rfl, by decide +kernel, by decide +kernel⟩
local macro_rules | `(tactic| walk_at "el1") => `(tactic| with_reducible first
  | refine a_sasg ?_ | refine a_sdrop ?_ | refine a_saugS ?_ | refine a_spar ?_ | refine a_seq ?_ | refine a_asg ?_ | refine a_drop ?_ | refine a_ret ?_ | refine a_if ?_ | refine a_next ?_
  | refine a_op ?_ | refine a_cons ?_ | refine a_nil ?_ | refine a_cb ?_ | refine a_call ?_ | refine a_c ?_ | refine a_gn ?_ | refine a_nx ?_ | refine a_rt ?_ | refine a_un ?_
  | refine a_test ?_ | refine a_B ?_ | refine a_bl ?_ | refine a_and ?_ | refine a_or ?_ | refine a_not ?_ | refine a_andV ?_ | refine a_orV ?_ | refine a_notV ?_ | refine a_ifx ?_ | refine a_chain ?_
  | refine a_nT ?_ | refine a_nF ?_ | refine a_fld ?_ | refine a_getF ?_ | refine a_T ?_ | refine a_F ?_ | refine a_tup ?_ | refine a_lst ?_ | refine a_sub ?_ | refine a_augS ?_ | refine a_two ?_ | refine a_I0 ?_ | refine a_U ?_ | refine n_add ?_ | refine n_int ?_ | refine n_ib ?_ | refine a_ip ?_ | refine a_rng1 ?_ | refine a_rng2 ?_ | refine a_bm ?_ | refine a_abs ?_ | refine a_pairs ?_ | refine a_pairs0 ?_ | refine a_bk ?_ | refine a_prp ?_ | refine a_lc ?_ | refine a_yes ?_ | refine a_sl ?_ | refine a_nop ?_ | refine a_prt ?_ | refine a_ex1 ?_ | refine a_for ?_ | refine a_sfor ?_ | refine a_iE1 ?_ | refine a_iEs ?_ | refine a_iEz ?_ | refine a_iEnum ?_ | refine a_iTup ?_ | refine a_iList ?_ | refine a_gcons ?_ | refine a_gnil ?_ | refine a_revT ?_ | refine a_spar3 ?_ | refine a_par3 ?_ | refine a_three ?_)
local macro_rules | `(tactic| walk_at "el2") => `(tactic| first
  | (refine a_var (by rfl) ?_)
  | (refine n_ixL (SqL.of (by assumption)) (by rfl) ?_) | (refine n_ixT (SqT.of (by assumption)) (by rfl) ?_) | (refine n_eq (by rfl) ?_) | (refine n_ne (by rfl) ?_)
  | (refine n_isN ?_) | (refine n_notN ?_) | (refine n_isB ?_) | (refine n_notB ?_) | (refine n_isBI ?_) | (refine n_notBI ?_) | (refine n_len (.inl (SqL.of (by assumption))) ?_) | (refine n_len (.inr (SqT.of (by assumption))) ?_)
  | (refine a_getL (SqL.of (by assumption)) (by rfl) ?_)
  | (refine n_isInt (by assumption) ?_) | (refine n_isBool (by assumption) ?_) | (refine n_isStr (by assumption) ?_) | (refine n_isTup (by assumption) ?_) | (refine n_isLst (by assumption) ?_))
local macro_rules | `(tactic| walk_at "el") => `(tactic| repeat (first | walk_at "el1" | walk_at "el2"))

def nl : Str := ⟨#[10]⟩
def sp1 : Str := ⟨#[32]⟩
theorem sp_eq : (" " : Str) = sp1 := by decide +kernel
theorem nl_eq : ("\n" : Str) = nl := by decide +kernel
def spIo : Sp := fun vs H Q _ => ∃ z : Str, vs = [.str z] ∧ z.length ≤ 20000 ∧ ∀ H', Same H H' → Q (match intW z with | some n => .int n | none => .non) H'
theorem none_b {H H1 : Hp} {p : Addr} (s : Same H H1) (h : H1 p = none) : H p = none := by
  cases e : H p
  · rfl
  · rw [s _ _ e] at h; cases h
theorem upd_twice {H : Hp} {D : Addr} {a b : HO} : upd (upd H D a) D b = upd H D b := by
  funext x
  by_cases e : x = D
  · subst e; rw [upd_same, upd_same]
  · rw [upd_ne e, upd_ne e, upd_ne e]
theorem take_next {α : Type} {l : List α} {i : Nat} {c : α} (h : l[i]? = some c) : l.take (i + 1) = l.take i ++ [c] := by
  rw [List.take_add_one, h]; rfl
section
variable {P : Program} {w : World} {K : Frag} {mg : Str → Option Value} {base : Heap} {f C aForms aParts : Addr} {fd : FuncData}
theorem ok_NoText (F : Fun K "__init__" "NoText.__init__" s_NoText_init f fd) (O : OexC K C) (n : PySem.W.findIn K (.ref C) "line" = some none) : FnOk P w K mg base CX0 1 f fd ["self", "line"] (spErr1 C "line") := by
  refine F.ok sc_NoText_init (fun vs H Q E h => ?_) (fun cdv A outer s H vs Q E hr h => ?_)
  · obtain ⟨_, _, rfl, _⟩ := h
    rfl
  · obtain ⟨a, y, rfl, ha, k⟩ := h
    refine ⟨_, (pss_one (ps_ost (pv 0) (pv 1))), ?_⟩
    walk_at "el"
    refine ⟨a, C, rfl, O, n, .inl ⟨ha, fun dx hd ne => ?_⟩⟩
    walk_at "el"
    exact k dx hd ne
theorem ok_integer_of (F : Fun K "integer_of" "integer_of" s_integer_of f fd) (T : Tb mg) (kM : ∃ u, mg "MOST_DIGITS" = some u ∧ L2.RelV (.int 40) u) : FnOk P w K mg base CX0 1 f fd ["word"] spIo := by
  refine F.ok sc_integer_of (fun vs H Q E h => ?_) (fun cdv A outer s H vs Q E hr h => ?_)
  · obtain ⟨_, rfl, _⟩ := h
    rfl
  · obtain ⟨z, rfl, hz, k⟩ := h
    refine ⟨_, (pss_cons (ps_set (i := 1) sc_integer_of.nd rfl (Or.inl rfl) (pe_m1 PySem.F.slot_str_removeprefix PySem.F.type_str_removeprefix mt_removeprefix (pv 0) pe_str))
  (pss_cons (ps_if (PW.pt (pw_or (pt_not (pt_truth (pv 1) (fun _ => rfl))) (pw_or (pt_cmpR op_gt (pe_callB call_len_str rfl T.b.len_ boot_len (pa_cons (pv 1) pa_nil)) (pe_gc (v := .int 40) rfl kM) (nomark _)) (pw_or1 (pt_not (pt_val (pe_callB (cr_all rfl) rfl T.b.all_ (by decide +kernel) (pa_cons (pe_lc (own := [("digit", 2)]) rfl sc_integer_of.nd (pi_str (pv 1)) (blkOk_by (own := [("digit", 2)]) (N := N_integer_of) (sc := defScope s_integer_of) (by decide +kernel)) (fun _ _ _ _ _ => (pg_name (i := 2) sc_integer_of.nd rfl (Or.inl rfl))) (fun _ _ _ _ _ => pts_nil) (fun _ _ _ _ _ => (pe_cmpR op_in_sign (pv 2) pe_str rfl))) pa_nil))))))))
    (pss_one (ps_ret pe_non))
    pss_nil)
  (pss_cons (ps_set (i := 3) sc_integer_of.nd rfl (Or.inl rfl) (pe_callTy call_int_str rfl T.b.int_ (by decide +kernel) (pa_cons (pv 0) pa_nil)))
  (pss_cons (ps_if (pt_cmpR (u_ne hr.units) (pe_callTy call_str_int rfl T.b.str_ (by decide +kernel) (pa_cons (pv 3) pa_nil)) (pv 0) (nomark _))
    (pss_one (ps_ret pe_non))
    pss_nil)
  (pss_one (ps_ret (pv 3))))))), ?_⟩
    walk_at "el"
    refine ⟨⟨z, rfl⟩, ?_⟩
    walk_at "el"
    refine ⟨z, "-", rfl, rfl, Nat.le_trans hz (by decide), ?_⟩
    rw [rm_eq]
    walk_at "el"
    have hl : (figS z).length ≤ sizeLine := Nat.le_trans (Nat.le_trans (figS_le z) hz) (by decide)
    have no : digs z = false → intW z = none := fun e => by unfold intW; rw [e]; rfl
    by_cases h0 : (figS z).length = 0
    · refine ⟨false, ⟨hl, by rw [h0]; rfl⟩, ?_⟩
      walk_at "el"
      have e : intW z = none := no (by
        rw [figS_len] at h0
        unfold digs
        rw [List.eq_nil_of_length_eq_zero h0]; rfl)
      have := k H (Same.refl _)
      rw [e] at this
      exact this
    · refine ⟨true, ⟨hl, by simp; omega⟩, ?_⟩
      walk_at "el"
      refine ⟨_, rfl, hl, ?_⟩
      walk_at "el"
      refine ite2 (fun h1 => ?_) (fun h1 => ?_)
      · walk_at "el"
        have e : intW z = none := no (by
          rw [figS_len] at h1
          unfold digs
          have : ¬ ((figs z.cps.toList).length ≤ 40) := by have := of_decide_eq_true h1; omega
          simp [this])
        have := k H (Same.refl _)
        rw [e] at this
        exact this
      · walk_at "el"
        refine ⟨_, rfl, fun D hD => ?_⟩
        refine lc_of walk_str (fun i H2 => H2 = upd H D (.lst ((((figs z.cps.toList).take i).map dig).map V.bl))) rfl (fun _ _ _ _ => trivial) ?_ ?_
        · rintro i x H2 H3 hi rfl ⟨rfl, c, hc, rfl⟩
          rw [figS_list] at hc
          walk_at "el"
          refine ⟨rfl, ?_⟩
          walk_at "el"
          refine ⟨c, _, rfl, rfl, ?_⟩
          rw [in_digits]
          have hlen : ((((figs z.cps.toList).take i).map dig).map V.bl).length < sizeLine := by
            have : sizeLine = 16777216 := rfl
            rw [List.length_map, List.length_map, List.length_take]
            have h8 := figs_le z.cps.toList
            rw [TX.len_list] at h8
            omega
          refine ⟨_, upd_same, hlen, ?_⟩
          rw [upd_twice, take_next hc, List.map_append, List.map_append]
          rfl
        · rintro H2 rfl
          walk_at "el"
          have hs : (figS z).cps.size = (figs z.cps.toList).length := figS_len z
          rw [hs, List.take_length]
          have sm := nw_of hD (.lst (((figs z.cps.toList).map dig).map V.bl))
          refine ⟨D, _, rfl, SqL.of upd_same, _, rfl, ?_⟩
          generalize upd H D (.lst (((figs z.cps.toList).map dig).map V.bl)) = H2 at sm ⊢
          have e : (List.map dig (figs z.cps.toList)).all id = (figs z.cps.toList).all dig := by rw [List.all_map]; rfl
          rw [e]
          have hd : digs z = (figs z.cps.toList).all dig := by
            unfold digs
            rw [figS_len] at h0 h1
            have a : (figs z.cps.toList).isEmpty = false := by
              cases e : figs z.cps.toList
              · rw [e] at h0; exact absurd rfl h0
              · rfl
            have b : decide ((figs z.cps.toList).length ≤ 40) = true := by
              have := of_decide_eq_false (Bool.not_eq_true _ |>.mp h1)
              exact decide_eq_true (by omega)
            rw [a, b]; rfl
          rw [← hd]
          have := k H2 sm
          cases hb : digs z
          · rw [no hb] at this
            walk_at "el"
            exact this
          · walk_at "el"
            refine ⟨z, _, rfl, digs_int hb, Nat.le_trans (digs_len hb) (by decide), ?_⟩
            walk_at "el"
            refine ⟨log_of (digs_log hb), ?_⟩
            walk_at "el"
            unfold intW at this
            rw [hb, if_pos rfl] at this
            by_cases hv : showI (valW z) = z
            · rw [if_pos hv] at this
              have hv' : decide (V.str (Str.ofString (toString (valW z))) = V.str z) = true := decide_eq_true (congrArg V.str hv)
              rw [hv']
              walk_at "el"
              exact this
            · rw [if_neg hv] at this
              have hv' : decide (V.str (Str.ofString (toString (valW z))) = V.str z) = false := decide_eq_false fun c => hv (V.str.inj c)
              rw [hv']
              walk_at "el"
              exact this

def spRow (K : Frag) : Sp := fun vs H Q _ => ∃ (a : Addr) (ws : List Str), vs = [.ref a] ∧ SqL K H a (ws.map V.str) ∧ (ws.map (·.length)).sum + ws.length ≤ 1000000 ∧ Q (.str (if ws = [] then "none" else Txt.join sp1 ws)) H
theorem ok_row_of (F : Fun K "_row_of" "_row_of" s__row_of f fd) (T : Tb mg) : FnOk P w K mg base CX0 1 f fd ["words"] (spRow K) := by
  refine F.ok sc__row_of (fun vs H Q E h => ?_) (fun cdv A outer s H vs Q E hr h => ?_)
  · obtain ⟨_, _, rfl, _⟩ := h
    rfl
  · obtain ⟨a, ws, rfl, ha, hl, k⟩ := h
    refine ⟨_, (pss_cons (ps_if (pt_not (pt_truth (pv 0) (fun _ => rfl)))
    (pss_one (ps_ret pe_str))
    pss_nil)
  (pss_one (ps_ret (pe_join pe_str (pv 0))))), ?_⟩
    walk_at "el"
    refine ⟨!ws.isEmpty, .inl ⟨_, ha, by simp⟩, ?_⟩
    cases ws with
    | nil =>
      walk_at "el"
      exact k
    | cons x r =>
      rw [if_neg (by simp)] at k
      rw [show (!(x :: r).isEmpty) = true from rfl]
      walk_at "el"
      refine ⟨⟨_, rfl⟩, ?_⟩
      walk_at "el"
      refine ⟨sp1, a, x :: r, congrArg V.str sp_eq, rfl, .inl ha, ?_, k⟩
      have e : sp1.length = 1 := rfl
      rw [e, Nat.mul_one]
      exact Nat.le_trans hl (by decide)
def spShK (K : Frag) : Sp := fun vs H Q _ => ∃ (a : Addr) (ws : List Str), vs = [.ref a] ∧ SqT K H a (ws.map V.str) ∧ (ws.map (·.length)).sum + ws.length ≤ 1000000 ∧ ∀ H', Same H H' → Q (.str (if ws = [] then "none" else Txt.join sp1 ws)) H'
theorem ok_show_kinds (F : Fun K "show_kinds" "show_kinds" s_show_kinds f fd) (T : Tb mg) (c__row_of : Cal P w K mg base CX0 1 "_row_of" ["words"] (spRow K)) : FnOk P w K mg base CX0 2 f fd ["kinds"] (spShK K) := by
  refine F.ok sc_show_kinds (fun vs H Q E h => ?_) (fun cdv A outer s H vs Q E hr h => ?_)
  · obtain ⟨_, _, rfl, _⟩ := h
    rfl
  · obtain ⟨a, ws, rfl, ha, hl, k⟩ := h
    refine ⟨_, (pss_one (ps_ret (pe_cal c__row_of (hr.mono (by decide)) pass0 (pa_cons (pe_callTy u_list rfl T.b.list_ (by decide +kernel) (pa_cons (pv 0) pa_nil)) pa_nil)))), ?_⟩
    walk_at "el"
    refine ⟨a, _, rfl, .inr ha, fun D hD => ?_⟩
    walk_at "el"
    exact ⟨D, ws, rfl, SqL.of upd_same, hl, k _ (nw_of hD _)⟩
def spShT (K : Frag) : Sp := fun vs H Q _ => ∃ (a : Addr) (ns : List Int), vs = [.ref a] ∧ SqT K H a (ns.map V.int) ∧ ns.length ≤ 2000 ∧ (∀ n ∈ ns, n.natAbs < 10 ^ 40) ∧ ∀ H', Same H H' → Q (.str (if ns = [] then "none" else Txt.join sp1 (ns.map showI))) H'
theorem ok_show_times (F : Fun K "show_times" "show_times" s_show_times f fd) (T : Tb mg) (c__row_of : Cal P w K mg base CX0 1 "_row_of" ["words"] (spRow K)) : FnOk P w K mg base CX0 2 f fd ["times"] (spShT K) := by
  refine F.ok sc_show_times (fun vs H Q E h => ?_) (fun cdv A outer s H vs Q E hr h => ?_)
  · obtain ⟨_, _, rfl, _⟩ := h
    rfl
  · obtain ⟨a, ns, rfl, ha, hl, hn, k⟩ := h
    refine ⟨_, (pss_one (ps_ret (pe_cal c__row_of (hr.mono (by decide)) pass0 (pa_cons (pe_lc (own := [("time", 1)]) rfl sc_show_times.nd (u_iter (pv 0)) (blkOk_by (own := [("time", 1)]) (N := N_show_times) (sc := defScope s_show_times) (by decide +kernel)) (fun _ _ _ _ _ => (pg_name (i := 1) sc_show_times.nd rfl (Or.inl rfl))) (fun _ _ _ _ _ => pts_nil) (fun _ _ _ _ _ => (pe_callTy call_str_int rfl T.b.str_ (by decide +kernel) (pa_cons (pv 1) pa_nil)))) pa_nil)))), ?_⟩
    walk_at "el"
    refine .inr ?_
    walk_at "el"
    refine ⟨a, rfl, ⟨_, ha⟩, fun D hD => ?_⟩
    have e0 := nw_of hD (.lst [])
    refine lc_of (walk_tup (xs := ns.map V.int)) (fun i H2 => Same H H2 ∧ H2 D = some (.lst (((ns.take i).map showI).map V.str))) ⟨e0, upd_same⟩ (fun i H3 hi h => ha.same h.1) ?_ ?_
    · rintro i x H2 H3 hi ⟨s2, d2⟩ ⟨rfl, hx⟩
      obtain ⟨n, hn1, rfl⟩ : ∃ n, ns[i]? = some n ∧ V.int n = x := by simpa [List.getElem?_map] using hx
      have hi' : i < ns.length := by simpa using hi
      have lg := hn n (List.mem_of_getElem? hn1)
      walk_at "el"
      refine ⟨rfl, ?_⟩
      walk_at "el"
      refine ⟨log_of (Nat.lt_trans lg (by decide +kernel)), ?_⟩
      refine ⟨_, d2, ?_, L2.Same.mu s2 hD, ?_⟩
      · have : sizeLine = 16777216 := rfl
        rw [List.length_map, List.length_map, List.length_take]; omega
      · rw [upd_same, take_next hn1, List.map_append, List.map_append]; rfl
    · rintro H2 ⟨s2, d2⟩
      rw [List.length_map, List.take_length] at d2
      walk_at "el"
      have q := k H2 s2
      have e : (if ns = [] then ("none" : Str) else Txt.join sp1 (ns.map showI)) = (if ns.map showI = [] then ("none" : Str) else Txt.join sp1 (ns.map showI)) := by
        cases ns <;> simp
      rw [e] at q
      refine ⟨D, ns.map showI, rfl, SqL.of d2, ?_, q⟩
      have h := StrLaws.sumLen_le (B := 41) (ns.map showI) (fun y hy => by
        obtain ⟨n, hn1, rfl⟩ := List.mem_map.mp hy
        exact showI_len (hn n hn1))
      rw [List.length_map] at h ⊢
      omega

/-! ### reading -/
/-- the words of a line -/
def wordsF (l : Str) : List Str := if l = "none" then [] else Txt.split l sp1
def lanes (a : Str) : List Str := Txt.split a nl
def line0 (a : Str) : Str := (lanes a).headD Str.empty
def spWi : Sp := fun vs H Q _ => ∃ z : Str, vs = [.str z] ∧ z.length ≤ 100000 ∧ ∀ H' p, Same H H' → H p = none → H' p = some (.lst ((wordsF z).map V.str)) → Q (.ref p) H'
theorem ok_words_in (F : Fun K "_words_in" "_words_in" s__words_in f fd) (T : Tb mg) : FnOk P w K mg base CX0 1 f fd ["line"] spWi := by
  refine F.ok sc__words_in (fun vs H Q E h => ?_) (fun cdv A outer s H vs Q E hr h => ?_)
  · obtain ⟨_, rfl, _⟩ := h
    rfl
  · obtain ⟨z, rfl, hl, k⟩ := h
    refine ⟨_, (pss_cons (ps_if (pt_cmpR (u_eq hr.units) (pv 0) pe_str (nomark _))
    (pss_one (ps_ret (pe_lst pa_nil)))
    pss_nil)
  (pss_one (ps_ret (pe_split (pv 0) pe_str)))), ?_⟩
    walk_at "el"
    refine ite2 (fun h0 => ?_) (fun h0 => ?_)
    · have e : wordsF z = [] := by unfold wordsF; rw [if_pos (V.str.inj (of_decide_eq_true h0))]
      rw [e] at k
      walk_at "el"
      exact ⟨by show 0 ≤ sizeLine; decide, fun p hp => k _ p (nw_of hp _) hp upd_same⟩
    · have e : wordsF z = Txt.split z sp1 := by unfold wordsF; rw [if_neg fun c => h0 (decide_eq_true (congrArg V.str c))]
      rw [e] at k
      walk_at "el"
      refine ⟨⟨_, rfl⟩, ?_⟩
      walk_at "el"
      have : sizeLine = 16777216 := rfl
      refine ⟨z, sp1, rfl, by rw [sp_eq], rfl, by omega, fun p hp => k _ p (nw_of hp _) hp upd_same⟩
def tooF (H : Hp) (E : XK) (C : Addr) (n : Int) : Prop := ∀ H' d, Same H H' → H' d = none → E (.ref C) (some d) (upd H' d (.xd [("line", .int n)]))
def spLo (K : Frag) (C : Addr) : Sp := fun vs H Q E => ∃ x, vs = [x] ∧ Th K H x ∧ ((∀ z, x ≠ .str z) → tooF H E C 1) ∧ ∀ z, x = .str z → z.length ≤ 100000 ∧ ∀ H' p, Same H H' → H p = none → H' p = some (.lst ((lanes z).map V.str)) → Q (.ref p) H'
theorem ok_lines_of (F : Fun K "_lines_of" "_lines_of" s__lines_of f fd) (T : Tb mg) (c_NoText : ErrG P w K mg base "NoText" C ["self", "line"] (spErr1 C "line")) : FnOk P w K mg base (L2.CX P w) 3 f fd ["text"] (spLo K C) := by
  refine F.okX sc__lines_of (fun vs H Q E h => ?_) (fun cdv A outer s H vs Q E hr h => ?_)
  · obtain ⟨_, rfl, _⟩ := h
    rfl
  · obtain ⟨x, rfl, th, k1, k2⟩ := h
    refine ⟨_, (pss_cons (ps_if (pt_not (pt_val (pe_callB u_isi rfl T.b.isinstance_ boot_isinstance (pa_cons (pv 0) (pa_cons (pe_bltn (v := V.ty "str") rfl T.b.str_ (by decide +kernel) rfl) pa_nil)))))
    (pss_one (ps_rz c_NoText (hr.mono (by decide)) rfl (takes_of rfl rfl rfl rfl) (pa_cons pe_int pa_nil)))
    pss_nil)
  (pss_one (ps_ret (pe_split (pv 0) pe_str)))), ?_⟩
    obtain ⟨t, kt⟩ := th.kit
    walk_at "el"
    by_cases hs : ∃ z, x = .str z
    · obtain ⟨z, rfl⟩ := hs
      obtain ⟨hl, k⟩ := k2 z rfl
      walk_at "el"
      rw [show isS (V.str z) = true from rfl]
      walk_at "el"
      refine ⟨⟨_, rfl⟩, ?_⟩
      walk_at "el"
      have : sizeLine = 16777216 := rfl
      refine ⟨z, nl, rfl, by rw [nl_eq], rfl, by omega, fun p hp => k _ p (nw_of hp _) hp upd_same⟩
    · have e := k1 fun z h => hs ⟨z, h⟩
      rw [show isS x = false by cases x <;> first | rfl | exact absurd ⟨_, rfl⟩ hs]
      walk_at "el"
      refine a_rz ?_
      walk_at "el"
      exact n_err1 fun d hd => e H d (Same.refl _) hd
def spCl (K : Frag) (C : Addr) : Sp := fun vs H Q E => ∃ (p : Addr) (xs : List V), vs = [.ref p] ∧ SqL K H p xs ∧ (1 < xs.length → tooF H E C 2) ∧ (xs.length ≤ 1 → Q .non H)
theorem ok_check_only_line (F : Fun K "_check_only_line" "_check_only_line" s__check_only_line f fd) (T : Tb mg) (c_NoText : ErrG P w K mg base "NoText" C ["self", "line"] (spErr1 C "line")) : FnOk P w K mg base (L2.CX P w) 3 f fd ["lines"] (spCl K C) := by
  refine F.okX sc__check_only_line (fun vs H Q E h => ?_) (fun cdv A outer s H vs Q E hr h => ?_)
  · obtain ⟨_, _, rfl, _⟩ := h
    rfl
  · obtain ⟨p, xs, rfl, hp, k1, k2⟩ := h
    refine ⟨_, (pss_one (ps_if (pt_cmpR op_gt (pe_callB u_len rfl T.b.len_ boot_len (pa_cons (pv 0) pa_nil)) pe_int (nomark _))
    (pss_one (ps_rz c_NoText (hr.mono (by decide)) rfl (takes_of rfl rfl rfl rfl) (pa_cons pe_int pa_nil)))
    pss_nil)), ?_⟩
    walk_at "el"
    refine n_len (.inl hp) ?_
    walk_at "el"
    refine ite2 (fun h0 => ?_) (fun h0 => ?_)
    · have e := k1 (by have := of_decide_eq_true h0; omega)
      refine a_rz ?_
      walk_at "el"
      exact n_err1 fun d hd => e H d (Same.refl _) hd
    · walk_at "el"
      refine k2 ?_
      have := of_decide_eq_false (Bool.not_eq_true _ |>.mp h0)
      omega

theorem tooF.mono {H H1 : Hp} {E : XK} {C : Addr} {n : Int} (h : tooF H E C n) (s : Same H H1) : tooF H1 E C n := fun H' d s' hd => h H' d (s.trans s') hd
/-- what reading kinds comes to: the words, or the line that is wrong -/
def kindsO (z : Str) : List Str ⊕ Int :=
  if (wordsF (line0 z)).all (fun w => kindB (.str w)) then (if 1 < (lanes z).length then .inr 2 else .inl (wordsF (line0 z))) else .inr 1
/-- what reading times comes to -/
def timesO (z : Str) : List Int ⊕ Int :=
  if (wordsF (line0 z)).all (fun w => (intW w).isSome) then (if 1 < (lanes z).length then .inr 2 else .inl ((wordsF (line0 z)).filterMap intW)) else .inr 1
def spRk (K : Frag) (C : Addr) : Sp := fun vs H Q E => ∃ x, vs = [x] ∧ Th K H x ∧ ((∀ z, x ≠ .str z) → tooF H E C 1) ∧ ∀ z, x = .str z → z.length ≤ 20000 ∧ (match kindsO z with
  | .inr n => tooF H E C n
  | .inl ws => ∀ H' p, Same H H' → H p = none → H' p = some (.tup (ws.map V.str)) → Q (.ref p) H')
theorem lanes_ne (z : Str) : lanes z = line0 z :: (lanes z).tail := by
  have := split_ne z nl
  unfold line0 lanes
  cases h : Txt.split z nl with
  | nil => exact absurd h this
  | cons a r => rfl
theorem line0_len (z : Str) : (line0 z).length ≤ z.length := split_mem z 10 (p := line0 z) (by
  show line0 z ∈ lanes z
  rw [lanes_ne z]; exact List.mem_cons_self)
theorem words_len (l : Str) : ((wordsF l).map (·.length)).sum + (wordsF l).length ≤ l.length + 1 := by
  unfold wordsF
  split
  · simp
  · exact split_len l 32
theorem ok_read_kinds (F : Fun K "read_kinds" "read_kinds" s_read_kinds f fd) (T : Tb mg) (c_is_kind : Cal P w K mg base CX0 1 "is_kind" ["thing"] (spB kindB K)) (c__lines_of : Cal P w K mg base (L2.CX P w) 3 "_lines_of" ["text"] (spLo K C)) (c__words_in : Cal P w K mg base CX0 1 "_words_in" ["line"] spWi)
    (c__check_only_line : Cal P w K mg base (L2.CX P w) 3 "_check_only_line" ["lines"] (spCl K C)) (c_NoText : ErrG P w K mg base "NoText" C ["self", "line"] (spErr1 C "line")) : FnOk P w K mg base (L2.CX P w) 4 f fd ["text"] (spRk K C) := by
  refine F.okX sc_read_kinds (fun vs H Q E h => ?_) (fun cdv A outer s H vs Q E hr h => ?_)
  · obtain ⟨_, rfl, _⟩ := h
    rfl
  · obtain ⟨x, rfl, th, k1, k2⟩ := h
    refine ⟨_, (pss_cons (ps_set (i := 1) sc_read_kinds.nd rfl (Or.inl rfl) (pe_cal c__lines_of (hr.mono (by decide)) (passE (takes_of rfl rfl rfl rfl)) (pa_cons (pv 0) pa_nil)))
  (pss_cons (ps_set (i := 2) sc_read_kinds.nd rfl (Or.inl rfl) (pe_cal c__words_in (hr.mono (by decide)) pass0 (pa_cons (pe_ix ix_seq (pv 1) pe_int (fun _ _ => rfl)) pa_nil)))
  (pss_cons (ps_if (pt_not (pt_val (pe_callB (cr_all rfl) rfl T.b.all_ (by decide +kernel) (pa_cons (pe_lc (own := [("kind", 3)]) rfl sc_read_kinds.nd (u_iter (pv 2)) (blkOk_by (own := [("kind", 3)]) (N := N_read_kinds) (sc := defScope s_read_kinds) (by decide +kernel)) (fun _ _ _ _ _ => (pg_name (i := 3) sc_read_kinds.nd rfl (Or.inl rfl))) (fun _ _ _ _ _ => pts_nil) (fun _ _ _ _ _ => (pe_cal c_is_kind (hr.mono (by decide)) pass0 (pa_cons (pv 3) pa_nil)))) pa_nil))))
    (pss_one (ps_rz c_NoText (hr.mono (by decide)) rfl (takes_of rfl rfl rfl rfl) (pa_cons pe_int pa_nil)))
    pss_nil)
  (pss_cons (ps_expr (pe_cal c__check_only_line (hr.mono (by decide)) (passE (takes_of rfl rfl rfl rfl)) (pa_cons (pv 1) pa_nil)))
  (pss_one (ps_ret (pe_callTy u_tuple rfl T.b.tuple_ (by decide +kernel) (pa_cons (pv 2) pa_nil)))))))), ?_⟩
    walk_at "el"
    refine ⟨x, rfl, th, k1, fun z hx => ?_⟩
    obtain ⟨hl, k⟩ := k2 z hx
    refine ⟨Nat.le_trans hl (by decide), fun H1 p s1 np hp => ?_⟩
    walk_at "el"
    have hp0 : H1 p = some (.lst (.str (line0 z) :: (lanes z).tail.map V.str)) := by rw [lanes_ne z] at hp; exact hp
    refine n_ixL (SqL.of hp0) (atI_nat (j := 0) (by rfl)) ?_
    walk_at "el"
    have hl0 := line0_len z
    refine ⟨line0 z, rfl, by omega, fun H2 q s2 nq hq => ?_⟩
    walk_at "el"
    refine .inl ?_
    walk_at "el"
    refine ⟨q, rfl, ⟨_, SqL.of hq⟩, fun D hD => ?_⟩
    have e0 := nw_of hD (.lst [])
    refine lc_of (walk_list (xs := (wordsF (line0 z)).map V.str)) (fun i H3 => Same H2 H3 ∧ H3 D = some (.lst ((((wordsF (line0 z)).take i).map fun y => kindB (.str y)).map V.bl))) ⟨e0, upd_same⟩ (fun i H3 hi h => SqL.of (h.1 _ _ hq)) ?_ ?_
    · rintro i y H3 H4 hi ⟨s3, d3⟩ ⟨rfl, hy⟩
      obtain ⟨wd, hw, rfl⟩ : ∃ w', (wordsF (line0 z))[i]? = some w' ∧ V.str w' = y := by simpa using hy
      have hi' : i < (wordsF (line0 z)).length := by simpa using hi
      have hwl := words_len (line0 z)
      walk_at "el"
      refine ⟨rfl, ?_⟩
      walk_at "el"
      refine ⟨.str wd, rfl, .str _, fun H5 s5 => ?_⟩
      refine ⟨_, s5 _ _ d3, ?_, L2.Same.mu (s3.trans s5) hD, ?_⟩
      · have : sizeLine = 16777216 := rfl
        rw [List.length_map, List.length_map, List.length_take]; omega
      · rw [upd_same, take_next hw, List.map_append, List.map_append]; rfl
    · rintro H3 ⟨s3, d3⟩
      rw [List.length_map, List.take_length] at d3
      walk_at "el"
      refine ⟨D, _, rfl, SqL.of d3, _, rfl, ?_⟩
      have e : (List.map (fun y => kindB (.str y)) (wordsF (line0 z))).all id = (wordsF (line0 z)).all fun y => kindB (.str y) := by rw [List.all_map]; rfl
      rw [e]
      have s13 := s2.trans s3
      cases hb : (wordsF (line0 z)).all fun y => kindB (.str y)
      · have hk : kindsO z = .inr 1 := by unfold kindsO; rw [hb]; rfl
        rw [hk] at k
        walk_at "el"
        refine a_rz ?_
        walk_at "el"
        exact n_err1 fun d hd => k H3 d (s1.trans s13) hd
      · walk_at "el"
        have hlen : (V.str (line0 z) :: (lanes z).tail.map V.str).length = (lanes z).length := by
          conv => rhs; rw [lanes_ne z]
          simp
        refine ⟨p, _, rfl, SqL.of (s13 _ _ hp0), fun h => ?_, fun h => ?_⟩
        · have hk : kindsO z = .inr 2 := by unfold kindsO; rw [hb, if_pos rfl, if_pos (hlen ▸ h)]
          rw [hk] at k
          exact k.mono (s1.trans s13)
        · have hk : kindsO z = .inl (wordsF (line0 z)) := by unfold kindsO; rw [hb, if_pos rfl, if_neg (by omega)]
          rw [hk] at k
          walk_at "el"
          refine ⟨q, _, rfl, .inl ⟨SqL.of (s3 _ _ hq), fun l hl => ?_⟩⟩
          exact k _ l ((s1.trans s13).nw hl) (none_b (s1.trans s13) hl) upd_same
end
end EL

/- part K93B -/
namespace EL
open PySem PySem.Spec PyProof.Rows L2
open PySem.W (Frag)
open TX
local macro_rules | `(tactic| walk_at "el1") => `(tactic| with_reducible first
  | refine a_sasg ?_ | refine a_sdrop ?_ | refine a_saugS ?_ | refine a_spar ?_ | refine a_seq ?_ | refine a_asg ?_ | refine a_drop ?_ | refine a_ret ?_ | refine a_if ?_ | refine a_next ?_
  | refine a_op ?_ | refine a_cons ?_ | refine a_nil ?_ | refine a_cb ?_ | refine a_call ?_ | refine a_c ?_ | refine a_gn ?_ | refine a_nx ?_ | refine a_rt ?_ | refine a_un ?_
  | refine a_test ?_ | refine a_B ?_ | refine a_bl ?_ | refine a_and ?_ | refine a_or ?_ | refine a_not ?_ | refine a_andV ?_ | refine a_orV ?_ | refine a_notV ?_ | refine a_ifx ?_ | refine a_chain ?_
  | refine a_nT ?_ | refine a_nF ?_ | refine a_fld ?_ | refine a_getF ?_ | refine a_T ?_ | refine a_F ?_ | refine a_tup ?_ | refine a_lst ?_ | refine a_sub ?_ | refine a_augS ?_ | refine a_two ?_ | refine a_I0 ?_ | refine a_U ?_ | refine n_add ?_ | refine n_int ?_ | refine n_ib ?_ | refine a_ip ?_ | refine a_rng1 ?_ | refine a_rng2 ?_ | refine a_bm ?_ | refine a_abs ?_ | refine a_pairs ?_ | refine a_pairs0 ?_ | refine a_bk ?_ | refine a_prp ?_ | refine a_lc ?_ | refine a_yes ?_ | refine a_sl ?_ | refine a_nop ?_ | refine a_prt ?_ | refine a_ex1 ?_ | refine a_for ?_ | refine a_sfor ?_ | refine a_iE1 ?_ | refine a_iEs ?_ | refine a_iEz ?_ | refine a_iEnum ?_ | refine a_iTup ?_ | refine a_iList ?_ | refine a_gcons ?_ | refine a_gnil ?_ | refine a_revT ?_ | refine a_spar3 ?_ | refine a_par3 ?_ | refine a_three ?_)
local macro_rules | `(tactic| walk_at "el2") => `(tactic| first
  | (refine a_var (by rfl) ?_)
  | (refine n_ixL (SqL.of (by assumption)) (by rfl) ?_) | (refine n_ixT (SqT.of (by assumption)) (by rfl) ?_) | (refine n_eq (by rfl) ?_) | (refine n_ne (by rfl) ?_)
  | (refine n_isN ?_) | (refine n_notN ?_) | (refine n_isB ?_) | (refine n_notB ?_) | (refine n_isBI ?_) | (refine n_notBI ?_) | (refine n_len (.inl (SqL.of (by assumption))) ?_) | (refine n_len (.inr (SqT.of (by assumption))) ?_)
  | (refine a_getL (SqL.of (by assumption)) (by rfl) ?_)
  | (refine n_isInt (by assumption) ?_) | (refine n_isBool (by assumption) ?_) | (refine n_isStr (by assumption) ?_) | (refine n_isTup (by assumption) ?_) | (refine n_isLst (by assumption) ?_))
local macro_rules | `(tactic| walk_at "el") => `(tactic| repeat (first | walk_at "el1" | walk_at "el2"))

/-- what integer_of hands back -/
def iV (z : Str) : V := match intW z with | some n => .int n | none => .non
theorem iV_flat (z : Str) : flatV (iV z) = true := by unfold iV; cases intW z <;> rfl
theorem iV_none : ∀ ws : List Str, inV .non (ws.map iV) = !ws.all fun y => (intW y).isSome
  | [] => rfl
  | a :: r => by
    show (_ || inV .non (r.map iV)) = !(_ && _)
    rw [iV_none r]
    cases h : intW a with
    | none => simp [iV, h, eqV]
    | some n => simp [iV, h, eqV]
theorem iV_all : ∀ {ws : List Str}, (ws.all fun y => (intW y).isSome) = true → ws.map iV = (ws.filterMap intW).map V.int
  | [], _ => rfl
  | a :: r, h => by
    simp only [List.all_cons, Bool.and_eq_true] at h
    have := iV_all (ws := r) (by simpa using h.2)
    obtain ⟨n, hn⟩ := Option.isSome_iff_exists.mp h.1
    rw [List.map_cons, this, List.filterMap_cons, hn]
    show iV a :: _ = _
    unfold iV; rw [hn]; rfl
def spRt (K : Frag) (C : Addr) : Sp := fun vs H Q E => ∃ x, vs = [x] ∧ Th K H x ∧ ((∀ z, x ≠ .str z) → tooF H E C 1) ∧ ∀ z, x = .str z → z.length ≤ 20000 ∧ (match timesO z with
  | .inr n => tooF H E C n
  | .inl ns => ∀ H' p, Same H H' → H p = none → H' p = some (.tup (ns.map V.int)) → Q (.ref p) H')
section
variable {P : Program} {w : World} {K : Frag} {mg : Str → Option Value} {base : Heap} {f C aForms aParts : Addr} {fd : FuncData}
theorem ok_read_times (F : Fun K "read_times" "read_times" s_read_times f fd) (T : Tb mg) (c_integer_of : Cal P w K mg base CX0 1 "integer_of" ["word"] spIo) (c__lines_of : Cal P w K mg base (L2.CX P w) 3 "_lines_of" ["text"] (spLo K C)) (c__words_in : Cal P w K mg base CX0 1 "_words_in" ["line"] spWi)
    (c__check_only_line : Cal P w K mg base (L2.CX P w) 3 "_check_only_line" ["lines"] (spCl K C)) (c_NoText : ErrG P w K mg base "NoText" C ["self", "line"] (spErr1 C "line")) : FnOk P w K mg base (L2.CX P w) 4 f fd ["text"] (spRt K C) := by
  refine F.okX sc_read_times (fun vs H Q E h => ?_) (fun cdv A outer s H vs Q E hr h => ?_)
  · obtain ⟨_, rfl, _⟩ := h
    rfl
  · obtain ⟨x, rfl, th, k1, k2⟩ := h
    refine ⟨_, (pss_cons (ps_set (i := 1) sc_read_times.nd rfl (Or.inl rfl) (pe_cal c__lines_of (hr.mono (by decide)) (passE (takes_of rfl rfl rfl rfl)) (pa_cons (pv 0) pa_nil)))
  (pss_cons (ps_setLc (i := 2) (own := [("word", 3)]) rfl sc_read_times.nd rfl rfl (sw_true rfl rfl rfl (by decide +kernel)) (u_iter (pe_cal c__words_in (hr.mono (by decide)) pass0 (pa_cons (pe_ix ix_seq (pv 1) pe_int (fun _ _ => rfl)) pa_nil))) (blkOk_by (own := [("word", 3)]) (N := N_read_times) (sc := defScope s_read_times) (by decide +kernel)) (fun _ _ _ _ _ => (pg_name (i := 3) sc_read_times.nd rfl (Or.inl rfl))) (fun _ _ _ _ _ => pts_nil) (fun _ _ _ _ _ => (pe_cal c_integer_of (hr.mono (by decide)) pass0 (pa_cons (pv 3) pa_nil))))
  (pss_cons (ps_if (pt_cmpR u_in pe_non (pv 2) rfl)
    (pss_one (ps_rz c_NoText (hr.mono (by decide)) rfl (takes_of rfl rfl rfl rfl) (pa_cons pe_int pa_nil)))
    pss_nil)
  (pss_cons (ps_expr (pe_cal c__check_only_line (hr.mono (by decide)) (passE (takes_of rfl rfl rfl rfl)) (pa_cons (pv 1) pa_nil)))
  (pss_one (ps_ret (pe_callTy u_tuple rfl T.b.tuple_ (by decide +kernel) (pa_cons (pv 2) pa_nil)))))))), ?_⟩
    walk_at "el"
    refine ⟨x, rfl, th, k1, fun z hx => ?_⟩
    obtain ⟨hl, k⟩ := k2 z hx
    refine ⟨Nat.le_trans hl (by decide), fun H1 p s1 np hp => ?_⟩
    walk_at "el"
    have hp0 : H1 p = some (.lst (.str (line0 z) :: (lanes z).tail.map V.str)) := by rw [lanes_ne z] at hp; exact hp
    refine .inl ?_
    walk_at "el"
    refine n_ixL (SqL.of hp0) (atI_nat (j := 0) (by rfl)) ?_
    walk_at "el"
    have hl0 := line0_len z
    refine ⟨line0 z, rfl, by omega, fun H2 q s2 nq hq => ?_⟩
    refine ⟨q, rfl, ⟨_, SqL.of hq⟩, fun D hD => ?_⟩
    have e0 := nw_of hD (.lst [])
    have hwl := words_len (line0 z)
    refine lc_of (walk_list (xs := (wordsF (line0 z)).map V.str)) (fun i H3 => Same H2 H3 ∧ H3 D = some (.lst (((wordsF (line0 z)).take i).map iV))) ⟨e0, upd_same⟩ (fun i H3 hi h => SqL.of (h.1 _ _ hq)) ?_ ?_
    · rintro i y H3 H4 hi ⟨s3, d3⟩ ⟨rfl, hy⟩
      obtain ⟨wd, hw, rfl⟩ : ∃ w', (wordsF (line0 z))[i]? = some w' ∧ V.str w' = y := by simpa using hy
      have hi' : i < (wordsF (line0 z)).length := by simpa using hi
      walk_at "el"
      refine ⟨rfl, ?_⟩
      walk_at "el"
      have hw1 : wd.length ≤ (line0 z).length := by
        have := le_sum (List.mem_map_of_mem (f := fun s : Str => s.length) (List.mem_of_getElem? hw))
        omega
      refine ⟨wd, rfl, by omega, fun H5 s5 => ?_⟩
      refine ⟨_, s5 _ _ d3, ?_, L2.Same.mu (s3.trans s5) hD, ?_⟩
      · have : sizeLine = 16777216 := rfl
        rw [List.length_map, List.length_take]; omega
      · rw [upd_same, take_next hw, List.map_append]; rfl
    · rintro H3 ⟨s3, d3⟩
      rw [List.length_map, List.take_length] at d3
      walk_at "el"
      have s13 := s2.trans s3
      have hfl : ((wordsF (line0 z)).map iV).all flatV = true := by
        rw [List.all_map, List.all_eq_true]; exact fun y _ => iV_flat y
      refine n_inL d3 rfl hfl ?_
      rw [iV_none]
      cases hb : (wordsF (line0 z)).all fun y => (intW y).isSome
      · have hk : timesO z = .inr 1 := by unfold timesO; rw [hb]; rfl
        rw [hk] at k
        walk_at "el"
        refine a_rz ?_
        walk_at "el"
        exact n_err1 fun d hd => k H3 d (s1.trans s13) hd
      · walk_at "el"
        have hlen : (V.str (line0 z) :: (lanes z).tail.map V.str).length = (lanes z).length := by
          conv => rhs; rw [lanes_ne z]
          simp
        refine ⟨p, _, rfl, SqL.of (s13 _ _ hp0), fun h => ?_, fun h => ?_⟩
        · have hk : timesO z = .inr 2 := by unfold timesO; rw [hb, if_pos rfl, if_pos (hlen ▸ h)]
          rw [hk] at k
          exact k.mono (s1.trans s13)
        · have hk : timesO z = .inl ((wordsF (line0 z)).filterMap intW) := by unfold timesO; rw [hb, if_pos rfl, if_neg (by omega)]
          rw [hk] at k
          rw [iV_all hb] at d3
          walk_at "el"
          refine ⟨D, _, rfl, .inl ⟨SqL.of d3, fun l hl => ?_⟩⟩
          exact k _ l ((s1.trans s13).nw hl) (none_b (s1.trans s13) hl) upd_same
end
end EL

/- part K93C -/
namespace EL
open PySem PySem.Spec PyProof.Rows L2
open PySem.W (Frag)
open TX
abbrev s_integer : Stmt := top 23
abbrev N_integer : List Str := ["_law_word", "_law_digits", "_law_figures", "_law_sign"]
theorem sc_integer : FnScope N_integer ["_law_word", "_law_digits"] (defScope s_integer) := ⟨rfl, rfl, rfl, by decide +kernel, rfl, by decide +kernel, by decide +kernel⟩
local macro_rules | `(tactic| walk_at "el1") => `(tactic| with_reducible first
  | refine a_sasg ?_ | refine a_sdrop ?_ | refine a_saugS ?_ | refine a_spar ?_ | refine a_seq ?_ | refine a_asg ?_ | refine a_drop ?_ | refine a_ret ?_ | refine a_if ?_ | refine a_next ?_
  | refine a_op ?_ | refine a_cons ?_ | refine a_nil ?_ | refine a_cb ?_ | refine a_call ?_ | refine a_c ?_ | refine a_gn ?_ | refine a_nx ?_ | refine a_rt ?_ | refine a_un ?_
  | refine a_test ?_ | refine a_B ?_ | refine a_bl ?_ | refine a_and ?_ | refine a_or ?_ | refine a_not ?_ | refine a_andV ?_ | refine a_orV ?_ | refine a_notV ?_ | refine a_ifx ?_ | refine a_chain ?_
  | refine a_nT ?_ | refine a_nF ?_ | refine a_fld ?_ | refine a_getF ?_ | refine a_T ?_ | refine a_F ?_ | refine a_tup ?_ | refine a_lst ?_ | refine a_sub ?_ | refine a_augS ?_ | refine a_two ?_ | refine a_I0 ?_ | refine a_U ?_ | refine n_add ?_ | refine n_int ?_ | refine n_ib ?_ | refine a_ip ?_ | refine a_rng1 ?_ | refine a_rng2 ?_ | refine a_bm ?_ | refine a_abs ?_ | refine a_pairs ?_ | refine a_pairs0 ?_ | refine a_bk ?_ | refine a_prp ?_ | refine a_lc ?_ | refine a_yes ?_ | refine a_sl ?_ | refine a_nop ?_ | refine a_prt ?_ | refine a_ex1 ?_ | refine a_for ?_ | refine a_sfor ?_ | refine a_iE1 ?_ | refine a_iEs ?_ | refine a_iEz ?_ | refine a_iEnum ?_ | refine a_iTup ?_ | refine a_iList ?_ | refine a_gcons ?_ | refine a_gnil ?_ | refine a_revT ?_ | refine a_spar3 ?_ | refine a_par3 ?_ | refine a_three ?_)
local macro_rules | `(tactic| walk_at "el2") => `(tactic| first
  | (refine a_var (by rfl) ?_)
  | (refine n_ixL (SqL.of (by assumption)) (by rfl) ?_) | (refine n_ixT (SqT.of (by assumption)) (by rfl) ?_) | (refine n_eq (by rfl) ?_) | (refine n_ne (by rfl) ?_)
  | (refine n_isN ?_) | (refine n_notN ?_) | (refine n_isB ?_) | (refine n_notB ?_) | (refine n_isBI ?_) | (refine n_notBI ?_) | (refine n_len (.inl (SqL.of (by assumption))) ?_) | (refine n_len (.inr (SqT.of (by assumption))) ?_)
  | (refine a_getL (SqL.of (by assumption)) (by rfl) ?_)
  | (refine n_isInt (by assumption) ?_) | (refine n_isBool (by assumption) ?_) | (refine n_isStr (by assumption) ?_) | (refine n_isTup (by assumption) ?_) | (refine n_isLst (by assumption) ?_))
local macro_rules | `(tactic| walk_at "el") => `(tactic| repeat (first | walk_at "el1" | walk_at "el2"))

/-- all signs are code points -/
def okS (z : Str) : Prop := ∀ c ∈ z.cps.toList, c < 1114112
theorem okS_ok {z : Str} (h : okS z) : PyData.strOk z = true := by
  unfold PyData.strOk
  rw [Array.all_eq_true']
  intro x hx
  exact decide_eq_true (h x (by simpa using hx))
theorem shp_strs {zs : List Str} (h : ∀ z ∈ zs, okS z) : SeqAt.shaped (.list (zs.map PyData.str)) = true := by
  have a : PyData.canLayAll0 (zs.map PyData.str) = true := by
    induction zs with
    | nil => rfl
    | cons z r ih =>
      show (PyData.strOk z && PyData.canLayAll0 (r.map PyData.str)) = true
      rw [okS_ok (h z List.mem_cons_self), ih fun x hx => h x (List.mem_cons_of_mem _ hx)]; rfl
  have b : PyData.depthAll (zs.map PyData.str) ≤ 0 := by
    clear h a
    induction zs with
    | nil => exact Nat.le_refl _
    | cons z r ih =>
      show max 0 (PyData.depthAll (r.map PyData.str)) ≤ 0
      exact Nat.max_le.mpr ⟨Nat.le_refl _, ih⟩
  show (PyData.canLayAll0 (zs.map PyData.str) && decide (PyData.depthAll (zs.map PyData.str) + 1 ≤ 64)) = true
  rw [a, decide_eq_true (by omega)]; rfl
theorem dp_strs {K : Frag} {H : Hp} : ∀ zs : List Str, DpAll K H (zs.map V.str) (zs.map PyData.str)
  | [] => .nil
  | z :: r => .cons (.str z) (dp_strs r)
theorem eqv_noS (zs : List Str) : PyData.eqv (.list (zs.map PyData.str)) (.list []) = zs.isEmpty := by cases zs <;> rfl
theorem flat_mem {c : Nat} : ∀ {ws : List (List Nat)} {l : List Nat} {x : Nat}, l ∈ ws → x ∈ l → x ∈ flat c ws
  | [a], l, x, h, hx => by rcases List.mem_singleton.mp h with rfl; exact hx
  | a :: b :: r, l, x, h, hx => by
    show x ∈ a ++ c :: flat c (b :: r)
    rcases List.mem_cons.mp h with rfl | h
    · exact List.mem_append_left _ hx
    · exact List.mem_append_right _ (List.mem_cons_of_mem _ (flat_mem h hx))
theorem split_okS {z p : Str} {c : Nat} (h : okS z) (hp : p ∈ Txt.split z ⟨#[c]⟩) : okS p := fun x hx => by
  refine h x ?_
  have e := congrArg (fun s : Str => s.cps.toList) (StrLaws.join_split z ⟨#[c]⟩)
  rw [← e, flat_of]
  exact flat_mem (List.mem_map_of_mem (f := fun s : Str => s.cps.toList) hp) hx
theorem words_okS {l p : Str} (h : okS l) (hp : p ∈ wordsF l) : okS p := by
  unfold wordsF at hp
  split at hp
  · cases hp
  · exact split_okS h hp
theorem line0_okS {z : Str} (h : okS z) : okS (line0 z) := split_okS (c := 10) h (by
  show line0 z ∈ lanes z
  rw [lanes_ne z]; exact List.mem_cons_self)
def TxO (z : Str) : Prop := z.length ≤ 20000 ∧ okS z
theorem iV_no {z : Str} (h : digs z = false) : iV z = .non := by unfold iV intW; rw [h]; rfl
def spLi : Sp := fun vs H Q _ => ∃ z : Str, vs = [.str z, .int 40] ∧ TxO z ∧ ∀ H', Same H H' → Q (iV z) H'
theorem not_neg {z : Str} (h : ¬ negW z.cps.toList = true) : figS z = z := by
  refine str_ext ?_
  rw [figS_list]
  rcases figs_or z.cps.toList with ⟨n, _⟩ | ⟨_, e, _⟩
  · exact absurd n h
  · exact e
section
variable {P : Program} {w : World} {K : Frag} {mg : Str → Option Value} {base : Heap} {f C C_NoText aForms aParts : Addr} {fd : FuncData}
theorem ok_integer (F : Fun K "_law_integer" "_law_integer" s_integer f fd) (T : Tb mg) : FnOk P w K mg base CX0 1 f fd ["_law_word", "_law_digits"] spLi := by
  refine F.ok sc_integer (fun vs H Q E h => ?_) (fun cdv A outer s H vs Q E hr h => ?_)
  · obtain ⟨_, rfl, _⟩ := h
    rfl
  · obtain ⟨z, rfl, ⟨hz, hok⟩, k⟩ := h
    refine ⟨_, (Evl.pss_cut (ps_set (i := 2) sc_integer.nd rfl (Or.inl rfl) (pe_ifExp (pt_cmpR (u_eq hr.units) (pe_slice sl_str (pv 0) po_none (po_some pe_int)) pe_str (nomark _)) (pe_slice sl_str (pv 0) (po_some pe_int) po_none) (pv 0)))
  (pss_cons (ps_if (PW.pt (pw_or (pt_cmpR (u_eq hr.units) (pv 2) pe_str (nomark _)) (pw_or (pt_cmpR op_gt (pe_callB call_len_str rfl T.b.len_ boot_len (pa_cons (pv 2) pa_nil)) (pv 1) (nomark _)) (pw_or1 (pt_cmpR (u_ne hr.units) (pe_lc (own := [("_law_sign", 3)]) rfl sc_integer.nd (pi_str (pv 2)) (blkOk_by (own := [("_law_sign", 3)]) (N := N_integer) (sc := defScope s_integer) (by decide +kernel)) (fun _ _ _ _ _ => (pg_name (i := 3) sc_integer.nd rfl (Or.inl rfl))) (fun _ _ _ _ _ => (pts_one (pt_cmpR op_notIn_sign (pv 3) pe_str rfl))) (fun _ _ _ _ _ => (pv 3))) (pe_lst pa_nil) (nomark _))))))
    (pss_one (ps_ret pe_non))
    pss_nil)
  (pss_cons (ps_if (PW.pt (pw_and (pt_cmpR (u_eq hr.units) (pe_item_str (pv 2) pe_int (fun _ _ => rfl)) pe_str (nomark _)) (pw_and1 (pt_cmpR (u_ne hr.units) (pv 0) pe_str (nomark _)))))
    (pss_one (ps_ret pe_non))
    pss_nil)
  (pss_one (ps_ret (pe_callTy call_int_str rfl T.b.int_ (by decide +kernel) (pa_cons (pv 0) pa_nil))))))), ?_⟩
    have hs0 : sizeLine = 16777216 := rfl
    refine a_cut (fun σ' H' => H' = H ∧ σ' = [some (.str z), some (.int 40), some (.str (figS z)), none]) ?_ ?_
    · walk_at "el"
      refine ⟨z, rfl, by omega, ?_⟩
      walk_at "el"
      by_cases n : negW z.cps.toList = true
      · have e : decide (V.str (cutS z none (some 1)) = V.str "-") = true := decide_eq_true (congrArg V.str ((cut0 z).mpr n))
        rw [e]
        walk_at "el"
        refine ⟨z, rfl, by omega, ?_⟩
        rw [cut1 n]
        walk_at "el"
        exact ⟨rfl, rfl⟩
      · have e : decide (V.str (cutS z none (some 1)) = V.str "-") = false := decide_eq_false fun c => n ((cut0 z).mp (V.str.inj c))
        rw [e]
        walk_at "el"
        exact ⟨rfl, by rw [not_neg n]; rfl⟩
    · rintro σ' H' ⟨rfl, rfl⟩
      have hfl := figS_le z
      have hfl2 := figS_len z
      walk_at "el"
      refine ite2 (fun h0 => ?_) (fun h0 => ?_)
      · walk_at "el"
        have e : figS z = "" := V.str.inj (of_decide_eq_true h0)
        have e2 : digs z = false := by
          unfold digs
          rw [← figS_list, e]; rfl
        rw [← iV_no e2]
        exact k _ (Same.refl _)
      · walk_at "el"
        refine ⟨_, rfl, by omega, ?_⟩
        walk_at "el"
        refine ite2 (fun h1 => ?_) (fun h1 => ?_)
        · walk_at "el"
          have e2 : digs z = false := by
            unfold digs
            have : ¬ ((figs z.cps.toList).length ≤ 40) := by have := of_decide_eq_true h1; omega
            simp [this]
          rw [← iV_no e2]
          exact k _ (Same.refl _)
        · have hl40 : (figs z.cps.toList).length ≤ 40 := by have := of_decide_eq_false (Bool.not_eq_true _ |>.mp h1); omega
          walk_at "el"
          refine ⟨_, rfl, fun D hD => ?_⟩
          refine lc_of walk_str (fun i H2 => Same H' H2 ∧ H2 D = some (.lst (((((figs z.cps.toList).take i).filter fun c => !dig c).map fun c => (⟨#[c]⟩ : Str)).map V.str))) ⟨nw_of hD _, upd_same⟩ (fun _ _ _ _ => trivial) ?_ ?_
          · rintro i x H2 H3 hi ⟨s2, d2⟩ ⟨rfl, c, hc, rfl⟩
            rw [figS_list] at hc
            walk_at "el"
            refine ⟨rfl, ?_⟩
            walk_at "el"
            refine ⟨c, _, rfl, rfl, ?_⟩
            rw [in_digits]
            cases hd : dig c
            · walk_at "el"
              refine ⟨_, d2, ?_, L2.Same.mu s2 hD, ?_⟩
              · rw [List.length_map, List.length_map]
                have := List.length_filter_le (fun c => !dig c) ((figs z.cps.toList).take i)
                rw [List.length_take] at this
                omega
              · rw [upd_same, take_next hc, List.filter_append, List.filter_cons, hd]
                simp
            · walk_at "el"
              refine ⟨s2, ?_⟩
              rw [d2, take_next hc, List.filter_append, List.filter_cons, hd]
              simp
          · rintro H2 ⟨s2, d2⟩
            have hs : (figS z).cps.size = (figs z.cps.toList).length := figS_len z
            rw [hs, List.take_length] at d2
            walk_at "el"
            refine ⟨by show 0 ≤ sizeLine; decide, fun p hp => ?_⟩
            have e2 := nw_of hp (.lst [])
            have hbok : ∀ y ∈ ((figs z.cps.toList).filter fun c => !dig c).map fun c => (⟨#[c]⟩ : Str), okS y := by
              intro y hy
              obtain ⟨c, hc, rfl⟩ := List.mem_map.mp hy
              have hc2 := (List.mem_filter.mp hc).1
              intro x hx
              have : x = c := by simpa using hx
              subst this
              refine hok _ ?_
              rcases figs_or z.cps.toList with ⟨_, e⟩ | ⟨_, e, _⟩
              · rw [e]; exact List.mem_cons_of_mem _ hc2
              · rw [← e]; exact hc2
            refine n_neD (.lst (SqL.of (e2 _ _ d2)) (dp_strs _)) (.lst (SqL.of upd_same) .nil) (shp_strs hbok) rfl ?_
            rw [eqv_noS]
            have s3 : Same H' (upd H2 p (.lst [])) := s2.trans e2
            generalize upd H2 p (.lst []) = H3 at s3 ⊢
            have hdg : digs z = (((figs z.cps.toList).filter fun c => !dig c).map fun c => (⟨#[c]⟩ : Str)).isEmpty := by
              unfold digs
              have a : (figs z.cps.toList).isEmpty = false := by
                cases e : figs z.cps.toList
                · exact absurd (decide_eq_true (congrArg V.str (str_ext (by rw [figS_list, e]; rfl)))) h0
                · rfl
              rw [a, decide_eq_true hl40, Bool.eq_iff_iff]
              simp [List.filter_eq_nil_iff]
            rw [← hdg]
            cases hb : digs z
            · walk_at "el"
              rw [← iV_no hb]
              exact k _ s3
            · walk_at "el"
              obtain ⟨c, r, hcr⟩ : ∃ c r, figs z.cps.toList = c :: r := by
                cases e : figs z.cps.toList with
                | nil => exact absurd e (digs_all hb).2.1
                | cons c r => exact ⟨c, r, rfl⟩
              refine ⟨figS z, 0, c, rfl, rfl, by decide, by decide, by rw [figS_len, hcr]; simp, by show (figS z).cps[0]? = some c; simp [figS, hcr], ?_⟩
              have hw := intW_law hb
              rw [hcr] at hw
              have hc0 : decide (V.str (⟨#[c]⟩ : Str) = V.str "0") = decide (c = 48) := by
                rw [Bool.eq_iff_iff, decide_eq_true_iff, decide_eq_true_iff]
                constructor
                · intro h
                  have e := congrArg (fun s : Str => s.cps.toList) (V.str.inj h)
                  have e0 : ("0" : Str).cps.toList = [48] := by decide +kernel
                  rw [e0] at e
                  simpa using e
                · intro h
                  subst h
                  have e0 : (⟨#[48]⟩ : Str) = "0" := by decide +kernel
                  rw [e0]
              have hz0 : decide (V.str z = V.str "0") = decide (z = "0") := by
                rw [Bool.eq_iff_iff, decide_eq_true_iff, decide_eq_true_iff]
                exact ⟨fun h => V.str.inj h, fun h => congrArg V.str h⟩
              have kk := k H3 s3
              walk_at "el"
              rw [hc0]
              by_cases h48 : c = 48
              · rw [decide_eq_true h48]
                walk_at "el"
                rw [hz0]
                by_cases hzz : z = "0"
                · rw [decide_eq_true hzz]
                  walk_at "el"
                  refine ⟨z, valW z, rfl, digs_int hb, Nat.le_trans (digs_len hb) (by decide), ?_⟩
                  rw [if_neg (by intro h; exact h.2 hzz)] at hw
                  have : iV z = .int (valW z) := by unfold iV; rw [hw]
                  rw [this] at kk
                  walk_at "el"
                  exact kk
                · rw [decide_eq_false hzz]
                  walk_at "el"
                  rw [if_pos ⟨by rw [h48]; rfl, hzz⟩] at hw
                  have : iV z = .non := by unfold iV; rw [hw]
                  rw [this] at kk
                  exact kk
              · rw [decide_eq_false h48]
                walk_at "el"
                refine ⟨z, valW z, rfl, digs_int hb, Nat.le_trans (digs_len hb) (by decide), ?_⟩
                rw [if_neg (by intro h; exact h48 (by simpa using h.1))] at hw
                have : iV z = .int (valW z) := by unfold iV; rw [hw]
                rw [this] at kk
                walk_at "el"
                exact kk

/-! ### what reading comes to, as data -/
def noT (n : Int) : PyData := .tuple [.str "NoText", .int n]
def outK (o : List Str ⊕ Int) : PyData := match o with | .inr n => noT n | .inl ws => .tuple [.str "told", .tuple (ws.map PyData.str)]
def outT (o : List Int ⊕ Int) : PyData := match o with | .inr n => noT n | .inl ns => .tuple [.str "told", .tuple (ns.map PyData.int)]
def oD (r : Int) (x : V) : PyData := match x with | .str z => if r = 0 then outK (kindsO z) else outT (timesO z) | _ => noT 1
def spOut (K : Frag) : Sp := fun vs H Q _ => ∃ (r : Int) (x : V), vs = [.int r, x] ∧ (r = 0 ∨ r = 1) ∧ Th K H x ∧ (∀ z, x = .str z → TxO z) ∧ ∀ H' v, Same H H' → Tk H' v (oD r x) → Q v H'
end
end EL

/- part K93D -/
namespace EL
open PySem PySem.Spec PyProof.Rows L2
open PySem.W (Frag)
open TX
abbrev s_due : Stmt := top 27
abbrev N_due : List Str := ["_law_road", "_law_text", "_law_lanes", "_law_words", "_law_found", "_law_word", "_law_x"]
theorem sc_due : FnScope N_due ["_law_road", "_law_text"] (defScope s_due) := ⟨rfl, rfl, rfl, by decide +kernel, rfl, by decide +kernel, by decide +kernel⟩
abbrev s_told : Stmt := top 28
abbrev N_told : List Str := ["_law_road", "_law_text", "e"]
theorem sc_told : FnScope N_told ["_law_road", "_law_text"] (defScope s_told) := ⟨rfl, rfl, rfl, by decide +kernel, rfl, by decide +kernel, by decide +kernel⟩
local macro_rules | `(tactic| walk_at "el1") => `(tactic| with_reducible first
  | refine a_sasg ?_ | refine a_sdrop ?_ | refine a_saugS ?_ | refine a_spar ?_ | refine a_seq ?_ | refine a_asg ?_ | refine a_drop ?_ | refine a_ret ?_ | refine a_if ?_ | refine a_next ?_
  | refine a_op ?_ | refine a_cons ?_ | refine a_nil ?_ | refine a_cb ?_ | refine a_call ?_ | refine a_c ?_ | refine a_gn ?_ | refine a_nx ?_ | refine a_rt ?_ | refine a_un ?_
  | refine a_test ?_ | refine a_B ?_ | refine a_bl ?_ | refine a_and ?_ | refine a_or ?_ | refine a_not ?_ | refine a_andV ?_ | refine a_orV ?_ | refine a_notV ?_ | refine a_ifx ?_ | refine a_chain ?_
  | refine a_nT ?_ | refine a_nF ?_ | refine a_fld ?_ | refine a_getF ?_ | refine a_T ?_ | refine a_F ?_ | refine a_tup ?_ | refine a_lst ?_ | refine a_sub ?_ | refine a_augS ?_ | refine a_two ?_ | refine a_I0 ?_ | refine a_U ?_ | refine n_add ?_ | refine n_int ?_ | refine n_ib ?_ | refine a_ip ?_ | refine a_rng1 ?_ | refine a_rng2 ?_ | refine a_bm ?_ | refine a_abs ?_ | refine a_pairs ?_ | refine a_pairs0 ?_ | refine a_bk ?_ | refine a_prp ?_ | refine a_lc ?_ | refine a_yes ?_ | refine a_sl ?_ | refine a_nop ?_ | refine a_prt ?_ | refine a_ex1 ?_ | refine a_for ?_ | refine a_sfor ?_ | refine a_iE1 ?_ | refine a_iEs ?_ | refine a_iEz ?_ | refine a_iEnum ?_ | refine a_iTup ?_ | refine a_iList ?_ | refine a_gcons ?_ | refine a_gnil ?_ | refine a_revT ?_ | refine a_spar3 ?_ | refine a_par3 ?_ | refine a_three ?_)
local macro_rules | `(tactic| walk_at "el2") => `(tactic| first
  | (refine a_var (by rfl) ?_)
  | (refine n_ixL (SqL.of (by assumption)) (by rfl) ?_) | (refine n_ixT (SqT.of (by assumption)) (by rfl) ?_) | (refine n_eq (by rfl) ?_) | (refine n_ne (by rfl) ?_)
  | (refine n_isN ?_) | (refine n_notN ?_) | (refine n_isB ?_) | (refine n_notB ?_) | (refine n_isBI ?_) | (refine n_notBI ?_) | (refine n_len (.inl (SqL.of (by assumption))) ?_) | (refine n_len (.inr (SqT.of (by assumption))) ?_)
  | (refine a_getL (SqL.of (by assumption)) (by rfl) ?_)
  | (refine n_isInt (by assumption) ?_) | (refine n_isBool (by assumption) ?_) | (refine n_isStr (by assumption) ?_) | (refine n_isTup (by assumption) ?_) | (refine n_isLst (by assumption) ?_))
local macro_rules | `(tactic| walk_at "el") => `(tactic| repeat (first | walk_at "el1" | walk_at "el2"))

theorem tk_strs {H : Hp} : ∀ zs : List Str, TkAll H (zs.map V.str) (zs.map PyData.str)
  | [] => .nil
  | z :: r => .cons (.str z) (tk_strs r)
theorem inV_strs : ∀ ws : List Str, inV .non (ws.map V.str) = false
  | [] => rfl
  | a :: r => by
    show (eqV V.non (V.str a) || inV .non (r.map V.str)) = false
    rw [inV_strs r]; rfl
theorem kind_in (i : Str) : kindB (.str i) = inV (.str i) [.str "early", .str "late"] := by
  show (decide _ || decide _) = (_ == _ || (_ == _ || false))
  rw [Bool.or_false]
  congr 1 <;> (rw [Bool.eq_iff_iff, decide_eq_true_iff, beq_iff_eq]; exact ⟨fun h => h.symm, fun h => h.symm⟩)
section
variable {P : Program} {w : World} {K : Frag} {mg : Str → Option Value} {base : Heap} {f C aForms aParts : Addr} {fd : FuncData}
theorem ok_told (F : Fun K "_law_told" "_law_told" s_told f fd) (T : Tb mg) (c_read_kinds : Cal P w K mg base (L2.CX P w) 4 "read_kinds" ["text"] (spRk K C)) (c_read_times : Cal P w K mg base (L2.CX P w) 4 "read_times" ["text"] (spRt K C))
    (g_NoText : mg "NoText" = some (.ref C)) (xf : XfC K C) (xn : PySem.W.findIn K (.ref C) "line" = some none) (xm : PySem.W.exmOne K (.ref C) (.ref C) = some true) :
    FnOk P w K mg base CX0 5 f fd ["_law_road", "_law_text"] (spOut K) := by
  refine F.ok sc_told (fun vs H Q E h => ?_) (fun cdv A outer s H vs Q E hr h => ?_)
  · obtain ⟨_, _, rfl, _⟩ := h
    rfl
  · obtain ⟨r, x, rfl, hr0, th, tx, k⟩ := h
    refine ⟨_, (pss_one (ps_try_as (i := 2) rfl rfl sc_told.nd rfl rfl ⟨rfl, by decide, .inl g_NoText⟩ takes0 (fun W pn xe tk _ => (pss_one (ps_ret (pe_tup (pa_cons pe_str (pa_cons (pe_ifExp (pt_cmpR (show OpR _ (compareOp .Eq) (rEqU K) from (u_eq hr.units)) (pv 0) pe_int (nomark _)) (pe_calX c_read_kinds (show Room 4 _ from hr.mono (by decide)) tk (pa_cons (pv 1) pa_nil)) (pe_calX c_read_times (show Room 4 _ from hr.mono (by decide)) tk (pa_cons (pv 1) pa_nil))) pa_nil))))))
    (fun a oe cls d pn hz hf => (pss_one (ps_ret (pe_tup (pa_cons pe_str (pa_cons (pe_xfR hz hf (pv 2)) pa_nil)))))))), ?_⟩
    walk_at "el"
    have kno : (∀ z, x ≠ .str z) → ∀ H' v, Same H H' → Tk H' v (noT 1) → Q v H' := fun hx H' v s t => k H' v s (by
      have e : oD r x = noT 1 := by cases x <;> first | rfl | exact absurd rfl (hx _)
      rw [e]; exact t)
    rcases hr0 with rfl | rfl
    · rw [decide_eq_true rfl]
      walk_at "el"
      refine ⟨x, rfl, th, fun hx => ?_, fun z hz => ⟨(tx z hz).1, ?_⟩⟩
      · have k0 := kno hx
        intro H1 d e1 hd
        have e2 := nw_of hd (.xd [("line", .int 1)])
        have g2 : upd H1 d (.xd [("line", .int 1)]) d = some (.xd [("line", .int 1)]) := upd_same
        generalize upd H1 d (.xd [("line", .int 1)]) = H2 at e2 g2 ⊢
        refine ⟨true, xm, fun _ a0 ha0 => ?_, fun z => nomatch z⟩
        walk_at "el"
        refine ⟨rfl, C, d, _, _, rfl, xf, xn, rfl, g2, rfl, ?_⟩
        walk_at "el"
        refine ⟨by show 2 ≤ sizeLine; decide, fun p hp => ?_⟩
        exact k0 _ _ ((e1.trans e2).nw hp) (.tup upd_same (.cons (.str _) (.cons (.int _) .nil)))
      · subst hz
        have ko : oD 0 (.str z) = outK (kindsO z) := rfl
        rw [ko] at k
        cases ho : kindsO z with
        | inr n =>
          rw [ho] at k
          intro H1 d e1 hd
          have e2 := nw_of hd (.xd [("line", .int n)])
          have g2 : upd H1 d (.xd [("line", .int n)]) d = some (.xd [("line", .int n)]) := upd_same
          generalize upd H1 d (.xd [("line", .int n)]) = H2 at e2 g2 ⊢
          refine ⟨true, xm, fun _ a0 ha0 => ?_, fun z => nomatch z⟩
          walk_at "el"
          refine ⟨rfl, C, d, _, _, rfl, xf, xn, rfl, g2, rfl, ?_⟩
          walk_at "el"
          refine ⟨by show 2 ≤ sizeLine; decide, fun p hp => ?_⟩
          exact k _ _ ((e1.trans e2).nw hp) (.tup upd_same (.cons (.str _) (.cons (.int _) .nil)))
        | inl ws =>
          rw [ho] at k
          intro H1 p e1 np hp
          walk_at "el"
          refine ⟨by show 2 ≤ sizeLine; decide, fun q hq => ?_⟩
          have e2 := nw_of hq (.tup [.str "told", .ref p])
          exact k _ _ (e1.trans e2) (.tup upd_same (.cons (.str _) (.cons (.tup (e2 _ _ hp) (tk_strs ws)) .nil)))
    · rw [show decide (V.int 1 = V.int 0) = false from decide_eq_false fun h => by cases h]
      walk_at "el"
      refine ⟨x, rfl, th, fun hx => ?_, fun z hz => ⟨(tx z hz).1, ?_⟩⟩
      · have k0 := kno hx
        intro H1 d e1 hd
        have e2 := nw_of hd (.xd [("line", .int 1)])
        have g2 : upd H1 d (.xd [("line", .int 1)]) d = some (.xd [("line", .int 1)]) := upd_same
        generalize upd H1 d (.xd [("line", .int 1)]) = H2 at e2 g2 ⊢
        refine ⟨true, xm, fun _ a0 ha0 => ?_, fun z => nomatch z⟩
        walk_at "el"
        refine ⟨rfl, C, d, _, _, rfl, xf, xn, rfl, g2, rfl, ?_⟩
        walk_at "el"
        refine ⟨by show 2 ≤ sizeLine; decide, fun p hp => ?_⟩
        exact k0 _ _ ((e1.trans e2).nw hp) (.tup upd_same (.cons (.str _) (.cons (.int _) .nil)))
      · subst hz
        have ko : oD 1 (.str z) = outT (timesO z) := rfl
        rw [ko] at k
        cases ho : timesO z with
        | inr n =>
          rw [ho] at k
          intro H1 d e1 hd
          have e2 := nw_of hd (.xd [("line", .int n)])
          have g2 : upd H1 d (.xd [("line", .int n)]) d = some (.xd [("line", .int n)]) := upd_same
          generalize upd H1 d (.xd [("line", .int n)]) = H2 at e2 g2 ⊢
          refine ⟨true, xm, fun _ a0 ha0 => ?_, fun z => nomatch z⟩
          walk_at "el"
          refine ⟨rfl, C, d, _, _, rfl, xf, xn, rfl, g2, rfl, ?_⟩
          walk_at "el"
          refine ⟨by show 2 ≤ sizeLine; decide, fun p hp => ?_⟩
          exact k _ _ ((e1.trans e2).nw hp) (.tup upd_same (.cons (.str _) (.cons (.int _) .nil)))
        | inl ws =>
          rw [ho] at k
          intro H1 p e1 np hp
          walk_at "el"
          refine ⟨by show 2 ≤ sizeLine; decide, fun q hq => ?_⟩
          have e2 := nw_of hq (.tup [.str "told", .ref p])
          exact k _ _ (e1.trans e2) (.tup upd_same (.cons (.str _) (.cons (.tup (e2 _ _ hp) (tk_ints ws)) .nil)))
theorem ok_due (F : Fun K "_law_due" "_law_due" s_due f fd) (T : Tb mg) (c_integer : Cal P w K mg base CX0 1 "_law_integer" ["_law_word", "_law_digits"] spLi) : FnOk P w K mg base CX0 2 f fd ["_law_road", "_law_text"] (spOut K) := by
  refine F.ok sc_due (fun vs H Q E h => ?_) (fun cdv A outer s H vs Q E hr h => ?_)
  · obtain ⟨_, _, rfl, _⟩ := h
    rfl
  · obtain ⟨r, x, rfl, hr0, th, tx, k⟩ := h
    refine ⟨_, (pss_cons (ps_if (pt_not (pt_val (pe_callB u_isi rfl T.b.isinstance_ boot_isinstance (pa_cons (pv 1) (pa_cons (pe_bltn (v := V.ty "str") rfl T.b.str_ (by decide +kernel) rfl) pa_nil)))))
    (pss_one (ps_ret (pe_tup (pa_cons pe_str (pa_cons pe_int pa_nil)))))
    pss_nil)
  (pss_cons (ps_set (i := 2) sc_due.nd rfl (Or.inl rfl) (pe_split (pv 1) pe_str))
  (Evl.pss_cut (ps_set (i := 3) sc_due.nd rfl (Or.inl rfl) (pe_ifExp (pt_cmpR (u_eq hr.units) (pe_ix ix_seq (pv 2) pe_int (fun _ _ => rfl)) pe_str (nomark _)) (pe_lst pa_nil) (pe_split (pe_ix ix_seq (pv 2) pe_int (fun _ _ => rfl)) pe_str)))
  (Evl.pss_cut (ps_set (i := 4) sc_due.nd rfl (Or.inl rfl) (pe_ifExp (pt_cmpR (u_eq hr.units) (pv 0) pe_int (nomark _)) (pv 3) (pe_lc (own := [("_law_word", 5)]) rfl sc_due.nd (u_iter (pv 3)) (blkOk_by (own := [("_law_word", 5)]) (N := N_due) (sc := defScope s_due) (by decide +kernel)) (fun _ _ _ _ _ => (pg_name (i := 5) sc_due.nd rfl (Or.inl rfl))) (fun _ _ _ _ _ => pts_nil) (fun _ _ _ _ _ => (pe_cal c_integer (hr.mono (by decide)) pass0 (pa_cons (pv 5) (pa_cons pe_int pa_nil)))))))
  (pss_cons (ps_if (PW.pt (pw_or (pt_cmpR u_in pe_non (pv 4) rfl) (pw_or1 (PW.pt (pw_and (pt_cmpR (u_eq hr.units) (pv 0) pe_int (nomark _)) (pw_and1 (pt_cmpR (u_ne hr.units) (pe_lc (own := [("_law_x", 6)]) rfl sc_due.nd (u_iter (pv 3)) (blkOk_by (own := [("_law_x", 6)]) (N := N_due) (sc := defScope s_due) (by decide +kernel)) (fun _ _ _ _ _ => (pg_name (i := 6) sc_due.nd rfl (Or.inl rfl))) (fun _ _ _ _ _ => (pts_one (pt_cmpR (show OpR _ (compareOp .NotIn) (rIn K true) from u_notin) (pv 6) (pe_tup (pa_cons pe_str (pa_cons pe_str pa_nil))) rfl))) (fun _ _ _ _ _ => (pv 6))) (pe_lst pa_nil) (nomark _))))))))
    (pss_one (ps_ret (pe_tup (pa_cons pe_str (pa_cons pe_int pa_nil)))))
    pss_nil)
  (pss_one (ps_ret (pe_ifExp (pt_cmpR op_gt (pe_callB u_len rfl T.b.len_ boot_len (pa_cons (pv 2) pa_nil)) pe_int (nomark _)) (pe_tup (pa_cons pe_str (pa_cons pe_int pa_nil))) (pe_tup (pa_cons pe_str (pa_cons (pe_callTy u_tuple rfl T.b.tuple_ (by decide +kernel) (pa_cons (pv 4) pa_nil)) pa_nil))))))))))), ?_⟩
    obtain ⟨t, kt⟩ := th.kit
    walk_at "el"
    have hs0 : sizeLine = 16777216 := rfl
    by_cases hs : ∃ z, x = .str z
    case neg =>
      rw [show isS x = false by cases x <;> first | rfl | exact absurd ⟨_, rfl⟩ hs]
      walk_at "el"
      refine ⟨by show 2 ≤ sizeLine; decide, fun p hp => ?_⟩
      have e : oD r x = noT 1 := by cases x <;> first | rfl | exact absurd ⟨_, rfl⟩ hs
      rw [e] at k
      exact k _ _ (nw_of hp _) (.tup upd_same (.cons (.str _) (.cons (.int _) .nil)))
    case pos =>
      obtain ⟨z, rfl⟩ := hs
      obtain ⟨hz, hok⟩ := tx z rfl
      rw [show isS (V.str z) = true from rfl]
      walk_at "el"
      refine ⟨⟨_, rfl⟩, ?_⟩
      walk_at "el"
      refine ⟨z, nl, rfl, by rw [nl_eq], rfl, by omega, fun p hp => ?_⟩
      have e1 := nw_of hp (.lst ((lanes z).map V.str))
      have hp1 : upd H p (.lst ((lanes z).map V.str)) p = some (.lst ((lanes z).map V.str)) := upd_same
      change (fun H1 => _) (upd H p (.lst ((lanes z).map V.str)))
      generalize upd H p (.lst ((lanes z).map V.str)) = H1 at e1 hp1 ⊢
      have hp0 : H1 p = some (.lst (.str (line0 z) :: (lanes z).tail.map V.str)) := by rw [lanes_ne z] at hp1; exact hp1
      have hl0 := line0_len z
      have hwl := words_len (line0 z)
      walk_at "el"
      refine a_cut (fun σ' H' => Same H1 H' ∧ ∃ q, H' q = some (.lst ((wordsF (line0 z)).map V.str)) ∧ σ' = [some (.int r), some (.str z), some (.ref p), some (.ref q), none, none, none]) ?_ ?_
      · walk_at "el"
        refine n_ixL (SqL.of hp0) (atI_nat (j := 0) (by rfl)) ?_
        walk_at "el"
        refine ite2 (fun h0 => ?_) (fun h0 => ?_)
        · have e : wordsF (line0 z) = [] := by unfold wordsF; rw [if_pos (V.str.inj (of_decide_eq_true h0))]
          walk_at "el"
          refine ⟨by show 0 ≤ sizeLine; decide, fun q hq => ?_⟩
          exact ⟨nw_of hq _, q, by rw [e]; exact upd_same, rfl⟩
        · have e : wordsF (line0 z) = Txt.split (line0 z) sp1 := by unfold wordsF; rw [if_neg fun c => h0 (decide_eq_true (congrArg V.str c))]
          unfold tM1
          walk_at "el"
          refine n_ixL (SqL.of hp0) (atI_nat (j := 0) (by rfl)) ?_
          refine ⟨⟨_, rfl⟩, ?_⟩
          walk_at "el"
          refine ⟨line0 z, sp1, rfl, by rw [sp_eq], rfl, by omega, fun q hq => ?_⟩
          exact ⟨nw_of hq _, q, by rw [e]; exact upd_same, rfl⟩
      · rintro σ' H2 ⟨s2, q, hq, rfl⟩
        refine a_cut (fun σ' H' => Same H2 H' ∧ ∃ g, H' g = some (.lst (if r = 0 then (wordsF (line0 z)).map V.str else (wordsF (line0 z)).map iV)) ∧ σ' = [some (.int r), some (.str z), some (.ref p), some (.ref q), some (.ref g), none, none]) ?_ ?_
        · walk_at "el"
          rcases hr0 with rfl | rfl
          · rw [decide_eq_true rfl]
            walk_at "el"
            exact ⟨Same.refl _, q, by rw [if_pos rfl]; exact hq, rfl⟩
          · rw [show decide (V.int 1 = V.int 0) = false from decide_eq_false fun h => by cases h]
            walk_at "el"
            refine .inl ?_
            walk_at "el"
            refine ⟨q, rfl, ⟨_, SqL.of hq⟩, fun D hD => ?_⟩
            have e0 := nw_of hD (.lst [])
            refine lc_of (walk_list (xs := (wordsF (line0 z)).map V.str)) (fun i H3 => Same H2 H3 ∧ H3 D = some (.lst (((wordsF (line0 z)).take i).map iV))) ⟨e0, upd_same⟩ (fun i H3 hi h => SqL.of (h.1 _ _ hq)) ?_ ?_
            · rintro i y H3 H4 hi ⟨s3, d3⟩ ⟨rfl, hy⟩
              obtain ⟨wd, hw, rfl⟩ : ∃ w', (wordsF (line0 z))[i]? = some w' ∧ V.str w' = y := by simpa using hy
              have hi' : i < (wordsF (line0 z)).length := by simpa using hi
              walk_at "el"
              refine ⟨rfl, ?_⟩
              walk_at "el"
              have hm := List.mem_of_getElem? hw
              have hw1 : wd.length ≤ (line0 z).length := by
                have := le_sum (List.mem_map_of_mem (f := fun s : Str => s.length) hm)
                omega
              refine ⟨wd, rfl, ⟨by omega, words_okS (line0_okS hok) hm⟩, fun H5 s5 => ?_⟩
              refine ⟨_, s5 _ _ d3, ?_, L2.Same.mu (s3.trans s5) hD, ?_⟩
              · rw [List.length_map, List.length_take]; omega
              · rw [upd_same, take_next hw, List.map_append]; rfl
            · rintro H3 ⟨s3, d3⟩
              rw [List.length_map, List.take_length] at d3
              walk_at "el"
              exact ⟨s3, D, by rw [if_neg (by decide)]; exact d3, rfl⟩
        · rintro σ' H3 ⟨s3, g, hg, rfl⟩
          have hlen : (V.str (line0 z) :: (lanes z).tail.map V.str).length = (lanes z).length := by
            conv => rhs; rw [lanes_ne z]
            simp
          have s13 : Same H1 H3 := s2.trans s3
          rcases hr0 with rfl | rfl
          · rw [if_pos rfl] at hg
            have ko : oD 0 (.str z) = outK (kindsO z) := rfl
            rw [ko] at k
            walk_at "el"
            refine n_inL hg rfl (by rw [List.all_map, List.all_eq_true]; exact fun y _ => rfl) ?_
            rw [inV_strs]
            walk_at "el"
            rw [decide_eq_true rfl]
            walk_at "el"
            refine .inl ?_
            walk_at "el"
            refine ⟨q, rfl, ⟨_, SqL.of (s3 _ _ hq)⟩, fun D hD => ?_⟩
            have e0 := nw_of hD (.lst [])
            refine lc_of (walk_list (xs := (wordsF (line0 z)).map V.str)) (fun i H4 => Same H3 H4 ∧ H4 D = some (.lst ((((wordsF (line0 z)).take i).filter fun y => !kindB (.str y)).map V.str))) ⟨e0, upd_same⟩ (fun i H4 hi h => SqL.of (h.1 _ _ (s3 _ _ hq))) ?_ ?_
            · rintro i y H4 H5 hi ⟨s4, d4⟩ ⟨rfl, hy⟩
              obtain ⟨wd, hw, rfl⟩ : ∃ w', (wordsF (line0 z))[i]? = some w' ∧ V.str w' = y := by simpa using hy
              have hi' : i < (wordsF (line0 z)).length := by simpa using hi
              walk_at "el"
              refine ⟨rfl, ?_⟩
              walk_at "el"
              refine ⟨by decide, fun pt hpt => ?_⟩
              have e5 := nw_of hpt (.tup [.str "early", .str "late"])
              refine ⟨pt, _, rfl, .inr (SqT.of upd_same), rfl, rfl, ?_⟩
              rw [← kind_in]
              have d5 := e5 _ _ d4
              have s5 := s4.trans e5
              generalize upd H5 pt (.tup [.str "early", .str "late"]) = H6 at d5 s5 ⊢
              cases hb : kindB (.str wd)
              · walk_at "el"
                refine ⟨V.str wd, rfl, _, d5, ?_, L2.Same.mu s5 hD, ?_⟩
                · rw [List.length_map]
                  have := List.length_filter_le (fun y => !kindB (.str y)) ((wordsF (line0 z)).take i)
                  rw [List.length_take] at this
                  omega
                · rw [upd_same, take_next hw, List.filter_append, List.filter_cons, hb]
                  simp
              · walk_at "el"
                refine ⟨s5, ?_⟩
                rw [d5, take_next hw, List.filter_append, List.filter_cons, hb]
                simp
            · rintro H4 ⟨s4, d4⟩
              rw [List.length_map, List.take_length] at d4
              walk_at "el"
              refine ⟨by show 0 ≤ sizeLine; decide, fun pl hpl => ?_⟩
              have e5 := nw_of hpl (.lst [])
              refine n_neD (.lst (SqL.of (e5 _ _ d4)) (dp_strs _)) (.lst (SqL.of upd_same) .nil) (shp_strs fun y hy => words_okS (line0_okS hok) (List.mem_filter.mp hy).1) rfl ?_
              rw [eqv_noS]
              have s5 : Same H3 (upd H4 pl (.lst [])) := s4.trans e5
              generalize upd H4 pl (.lst []) = H5 at s5 ⊢
              have hall : ((wordsF (line0 z)).filter fun y => !kindB (.str y)).isEmpty = (wordsF (line0 z)).all fun y => kindB (.str y) := by
                rw [Bool.eq_iff_iff]
                simp [List.filter_eq_nil_iff]
              rw [hall]
              cases hb : (wordsF (line0 z)).all fun y => kindB (.str y)
              · have hk : kindsO z = .inr 1 := by unfold kindsO; rw [hb]; rfl
                rw [hk] at k
                walk_at "el"
                refine ⟨by show 2 ≤ sizeLine; decide, fun pr hpr => ?_⟩
                exact k _ _ (((e1.trans s13).trans s5).nw hpr) (.tup upd_same (.cons (.str _) (.cons (.int _) .nil)))
              · walk_at "el"
                refine n_len (.inl (SqL.of (s5 _ _ (s13 _ _ hp0)))) ?_
                walk_at "el"
                refine ite2 (fun h9 => ?_) (fun h9 => ?_)
                · have hk : kindsO z = .inr 2 := by
                    unfold kindsO; rw [hb, if_pos rfl, if_pos (by have := of_decide_eq_true h9; omega)]
                  rw [hk] at k
                  walk_at "el"
                  refine ⟨by show 2 ≤ sizeLine; decide, fun pr hpr => ?_⟩
                  exact k _ _ (((e1.trans s13).trans s5).nw hpr) (.tup upd_same (.cons (.str _) (.cons (.int _) .nil)))
                · have hk : kindsO z = .inl (wordsF (line0 z)) := by
                    unfold kindsO; rw [hb, if_pos rfl, if_neg (by have := of_decide_eq_false (Bool.not_eq_true _ |>.mp h9); omega)]
                  rw [hk] at k
                  walk_at "el"
                  refine ⟨g, _, rfl, .inl ⟨SqL.of (s5 _ _ hg), fun l hl => ?_⟩⟩
                  have e6 := nw_of hl (.tup ((wordsF (line0 z)).map V.str))
                  walk_at "el"
                  refine ⟨by show 2 ≤ sizeLine; decide, fun pr hpr => ?_⟩
                  have e7 := nw_of hpr (.tup [.str "told", .ref l])
                  exact k _ _ ((((e1.trans s13).trans s5).trans e6).trans e7) (.tup upd_same (.cons (.str _) (.cons (.tup (e7 _ _ upd_same) (tk_strs _)) .nil)))
          · rw [if_neg (by decide)] at hg
            have ko : oD 1 (.str z) = outT (timesO z) := rfl
            rw [ko] at k
            walk_at "el"
            refine n_inL hg rfl (by rw [List.all_map, List.all_eq_true]; exact fun y _ => iV_flat y) ?_
            rw [iV_none]
            cases hb : (wordsF (line0 z)).all fun y => (intW y).isSome
            · have hk : timesO z = .inr 1 := by unfold timesO; rw [hb]; rfl
              rw [hk] at k
              walk_at "el"
              refine ⟨by show 2 ≤ sizeLine; decide, fun pr hpr => ?_⟩
              exact k _ _ ((e1.trans s13).nw hpr) (.tup upd_same (.cons (.str _) (.cons (.int _) .nil)))
            · walk_at "el"
              refine n_len (.inl (SqL.of (s13 _ _ hp0))) ?_
              walk_at "el"
              refine ite2 (fun h9 => ?_) (fun h9 => ?_)
              · have hk : timesO z = .inr 2 := by
                  unfold timesO; rw [hb, if_pos rfl, if_pos (by have := of_decide_eq_true h9; omega)]
                rw [hk] at k
                walk_at "el"
                refine ⟨by show 2 ≤ sizeLine; decide, fun pr hpr => ?_⟩
                exact k _ _ ((e1.trans s13).nw hpr) (.tup upd_same (.cons (.str _) (.cons (.int _) .nil)))
              · have hk : timesO z = .inl ((wordsF (line0 z)).filterMap intW) := by
                  unfold timesO; rw [hb, if_pos rfl, if_neg (by have := of_decide_eq_false (Bool.not_eq_true _ |>.mp h9); omega)]
                rw [hk] at k
                rw [iV_all hb] at hg
                walk_at "el"
                refine ⟨g, _, rfl, .inl ⟨SqL.of hg, fun l hl => ?_⟩⟩
                have e6 := nw_of hl (.tup (((wordsF (line0 z)).filterMap intW).map V.int))
                walk_at "el"
                refine ⟨by show 2 ≤ sizeLine; decide, fun pr hpr => ?_⟩
                have e7 := nw_of hpr (.tup [.str "told", .ref l])
                exact k _ _ (((e1.trans s13).trans e6).trans e7) (.tup upd_same (.cons (.str _) (.cons (.tup (e7 _ _ upd_same) (tk_ints _)) .nil)))
end
end EL

/- part K93E -/
namespace EL
open PySem PySem.Spec PyProof.Rows L2
open PySem.W (Frag)
open TX
abbrev s_bent : Stmt := top 29
abbrev N_bent : List Str := ["_law_bag_here", "_law_text", "_law_mode", "_law_at", "_law_some", "_law_odd"]
theorem sc_bent : FnScope N_bent ["_law_bag_here", "_law_text"] (defScope s_bent) := ⟨rfl, rfl, rfl, by decide +kernel, rfl, by decide +kernel, by decide +kernel⟩
local macro_rules | `(tactic| walk_at "el1") => `(tactic| with_reducible first
  | refine a_sasg ?_ | refine a_sdrop ?_ | refine a_saugS ?_ | refine a_spar ?_ | refine a_seq ?_ | refine a_asg ?_ | refine a_drop ?_ | refine a_ret ?_ | refine a_if ?_ | refine a_next ?_
  | refine a_op ?_ | refine a_cons ?_ | refine a_nil ?_ | refine a_cb ?_ | refine a_call ?_ | refine a_c ?_ | refine a_gn ?_ | refine a_nx ?_ | refine a_rt ?_ | refine a_un ?_
  | refine a_test ?_ | refine a_B ?_ | refine a_bl ?_ | refine a_and ?_ | refine a_or ?_ | refine a_not ?_ | refine a_andV ?_ | refine a_orV ?_ | refine a_notV ?_ | refine a_ifx ?_ | refine a_chain ?_
  | refine a_nT ?_ | refine a_nF ?_ | refine a_fld ?_ | refine a_getF ?_ | refine a_T ?_ | refine a_F ?_ | refine a_tup ?_ | refine a_lst ?_ | refine a_sub ?_ | refine a_augS ?_ | refine a_two ?_ | refine a_I0 ?_ | refine a_U ?_ | refine n_add ?_ | refine n_int ?_ | refine n_ib ?_ | refine a_ip ?_ | refine a_rng1 ?_ | refine a_rng2 ?_ | refine a_bm ?_ | refine a_abs ?_ | refine a_pairs ?_ | refine a_pairs0 ?_ | refine a_bk ?_ | refine a_prp ?_ | refine a_lc ?_ | refine a_yes ?_ | refine a_sl ?_ | refine a_nop ?_ | refine a_prt ?_ | refine a_ex1 ?_ | refine a_for ?_ | refine a_sfor ?_ | refine a_iE1 ?_ | refine a_iEs ?_ | refine a_iEz ?_ | refine a_iEnum ?_ | refine a_iTup ?_ | refine a_iList ?_ | refine a_gcons ?_ | refine a_gnil ?_ | refine a_revT ?_ | refine a_spar3 ?_ | refine a_par3 ?_ | refine a_three ?_)
local macro_rules | `(tactic| walk_at "el2") => `(tactic| first
  | (refine a_var (by rfl) ?_)
  | (refine n_ixL (SqL.of (by assumption)) (by rfl) ?_) | (refine n_ixT (SqT.of (by assumption)) (by rfl) ?_) | (refine n_eq (by rfl) ?_) | (refine n_ne (by rfl) ?_)
  | (refine n_isN ?_) | (refine n_notN ?_) | (refine n_isB ?_) | (refine n_notB ?_) | (refine n_isBI ?_) | (refine n_notBI ?_) | (refine n_len (.inl (SqL.of (by assumption))) ?_) | (refine n_len (.inr (SqT.of (by assumption))) ?_)
  | (refine a_getL (SqL.of (by assumption)) (by rfl) ?_)
  | (refine n_isInt (by assumption) ?_) | (refine n_isBool (by assumption) ?_) | (refine n_isStr (by assumption) ?_) | (refine n_isTup (by assumption) ?_) | (refine n_isLst (by assumption) ?_))
local macro_rules | `(tactic| walk_at "el") => `(tactic| repeat (first | walk_at "el1" | walk_at "el2"))

theorem okS_app {a b : Str} (h : okS a) (k : okS b) : okS (a ++ b) := fun c hc => (app_mem hc).elim (h c) (k c)
theorem okS_cut {z : Str} {lo hi : Option Int} (h : okS z) : okS (cutS z lo hi) := fun c hc => h c (cutS_mem hc)
theorem len_app (a b : Str) : (a ++ b).length = a.length + b.length := Str.length_append a b
def litOk (z : Str) : Bool := decide (z.length ≤ 100) && z.cps.toList.all fun c => decide (c < 1114112)
theorem lit_ok {z : Str} (h : litOk z = true) : z.length ≤ 100 ∧ okS z := by
  unfold litOk at h
  simp only [Bool.and_eq_true, decide_eq_true_eq, List.all_eq_true] at h
  exact ⟨h.1, h.2⟩
/-- a text of the law's own -/
def Sx (v : V) : Prop := ∃ y : Str, v = .str y ∧ y.length ≤ 6000 ∧ okS y
theorem sx_lit {y : Str} (h : litOk y = true := by decide +kernel) : Sx (.str y) := ⟨y, rfl, by have := (lit_ok h).1; omega, (lit_ok h).2⟩
def spBent : Sp := fun vs H Q _ => ∃ (b c : Addr) (z : Str), vs = [.ref b, .str z] ∧ Bag H b c ∧ z.length ≤ 1000 ∧ okS z ∧ ∀ y H', TxO y → Bag H' b c → Kp b H H' → Q (.str y) H'
section
variable {P : Program} {w : World} {K : Frag} {mg : Str → Option Value} {base : Heap} {f C aForms aParts : Addr} {fd : FuncData}
theorem ok_bent (F : Fun K "_law_bent" "_law_bent" s_bent f fd) (T : Tb mg) (c_take : Cal P w K mg base CX0 1 "_law_take" ["_law_bag_here", "_law_many"] spTake) (c_one : Cal P w K mg base CX0 2 "_law_one" ["_law_bag_here", "_law_menu"] (spOne K)) : FnOk P w K mg base CX0 3 f fd ["_law_bag_here", "_law_text"] spBent := by
  refine F.ok sc_bent (fun vs H Q E h => ?_) (fun cdv A outer s H vs Q E hr h => ?_)
  · obtain ⟨_, _, _, rfl, _⟩ := h
    rfl
  · obtain ⟨b, c, z, rfl, hb, hz, hok, k⟩ := h
    refine ⟨_, (pss_cons (ps_par (i := 2) (j := 3) rfl sc_bent.nd rfl rfl (by decide) rfl rfl (pa_cons (pe_cal c_take (hr.mono (by decide)) pass0 (pa_cons (pv 0) (pa_cons pe_int pa_nil))) (pa_cons (pe_cal c_take (hr.mono (by decide)) pass0 (pa_cons (pv 0) (pa_cons (pe_op u_add (pe_callB call_len_str rfl T.b.len_ boot_len (pa_cons (pv 1) pa_nil)) pe_int) pa_nil))) pa_nil)) (by with_unfolding_all rfl))
  (pss_cons (ps_if (pt_cmpR (u_eq hr.units) (pv 2) pe_int (nomark _))
    (pss_one (ps_ret (pe_op op_add_str (pe_slice sl_str (pv 1) po_none (po_some (pv 3))) (pe_slice sl_str (pv 1) (po_some (pe_op u_add (pv 3) pe_int)) po_none))))
    pss_nil)
  (pss_cons (ps_if (pt_cmpR (u_eq hr.units) (pv 2) pe_int (nomark _))
    (pss_cons (ps_set (i := 4) sc_bent.nd rfl (Or.inl rfl) (pe_lst (pa_cons pe_str (pa_cons pe_str (pa_cons pe_str (pa_cons pe_str (pa_cons (pe_op op_mulS pe_str pe_int) (pa_cons pe_str (pa_cons pe_str (pa_cons pe_str (pa_cons pe_str (pa_cons pe_str pa_nil))))))))))))
  (pss_one (ps_ret (pe_op op_add_str (pe_op op_add_str (pe_slice sl_str (pv 1) po_none (po_some (pv 3))) (pe_cal c_one (hr.mono (by decide)) pass0 (pa_cons (pv 0) (pa_cons (pv 4) pa_nil)))) (pe_slice sl_str (pv 1) (po_some (pv 3)) po_none)))))
    pss_nil)
  (pss_cons (ps_if (pt_cmpR (u_eq hr.units) (pv 2) pe_int (nomark _))
    (pss_cons (ps_set (i := 5) sc_bent.nd rfl (Or.inl rfl) (pe_lst (pa_cons pe_str (pa_cons pe_str (pa_cons pe_str (pa_cons pe_str (pa_cons pe_str (pa_cons (pe_op op_mulS pe_str pe_int) (pa_cons (pe_op op_add_str pe_str (pe_op op_mulS pe_str pe_int)) (pa_cons pe_str (pa_cons pe_str (pa_cons (pe_op op_add_str (pe_op op_add_str (pv 1) pe_str) (pv 1)) pa_nil))))))))))))
  (pss_cons (ps_set (i := 5) sc_bent.nd rfl (Or.inl rfl) (pe_op u_add (pv 5) (pe_lst (pa_cons (pe_op op_mulS pe_str pe_int) (pa_cons (pe_op op_add_str pe_str (pe_op op_mulS pe_str pe_int)) (pa_cons (pe_op op_add_str pe_str (pe_op op_mulS pe_str pe_int)) pa_nil))))))
  (pss_one (ps_ret (pe_cal c_one (hr.mono (by decide)) pass0 (pa_cons (pv 0) (pa_cons (pe_op u_add (pv 5) (pe_lst (pa_cons (pe_op op_add_str (pv 1) pe_str) (pa_cons (pe_op op_add_str pe_str (pv 1)) pa_nil)))) pa_nil)))))))
    pss_nil)
  (pss_one (ps_ret (pv 1))))))), ?_⟩
    have hs0 : sizeLine = 16777216 := rfl
    walk_at "el"
    refine ⟨b, c, 4, rfl, hb, by decide, by decide, fun md H1 m0 m1 hb1 k1 => ?_⟩
    walk_at "el"
    refine ⟨_, rfl, by omega, ?_⟩
    walk_at "el"
    refine ⟨b, c, _, rfl, hb1, by omega, by omega, fun at_ H2 a0 a1 hb2 k2 => ?_⟩
    have k12 := k1.trans k2
    walk_at "el"
    refine ite2 (fun h0 => ?_) (fun h0 => ?_)
    · walk_at "el"
      refine ⟨z, rfl, by omega, ?_⟩
      walk_at "el"
      refine ⟨z, rfl, by omega, ?_⟩
      walk_at "el"
      have c1 := cutS_length z none (some at_)
      have c2 := cutS_length z (some (at_ + 1)) none
      refine ⟨_, _, rfl, rfl, by omega, ?_⟩
      exact k _ _ ⟨by rw [len_app]; omega, okS_app (okS_cut hok) (okS_cut hok)⟩ hb2 k12
    · walk_at "el"
      refine ite2 (fun h1 => ?_) (fun h1 => ?_)
      · walk_at "el"
        refine ⟨"9", 40, rfl, rfl, by decide, by decide, by decide +kernel, by decide +kernel, fun u l9 m9 => ?_⟩
        walk_at "el"
        refine ⟨by show 10 ≤ sizeLine; decide, fun p hp => ?_⟩
        have e1 := nw_of hp
        walk_at "el"
        refine ⟨z, rfl, by omega, ?_⟩
        walk_at "el"
        have c1 := cutS_length z none (some at_)
        have c2 := cutS_length z (some at_) none
        refine ⟨b, c, p, _, rfl, hb2.same (fun a u h => e1 _ _ _ h), Bag.ne hb2 hp, .inl upd_same, by show 0 < 10; decide, by show 10 ≤ 1000000000; decide, fun x H4 hx hb4 k4 => ?_⟩
        have hu : Sx (.str u) := ⟨u, rfl, by rw [l9]; decide +kernel, fun y hy => by
          have := m9 y hy
          have e9 : ("9" : Str).cps.toList = [57] := by decide +kernel
          rw [e9] at this
          have : y = 57 := by simpa using this
          omega⟩
        have hx2 : Sx x := by
          revert x
          exact all_cons sx_lit (all_cons sx_lit (all_cons sx_lit (all_cons sx_lit (all_cons hu (all_cons sx_lit (all_cons sx_lit (all_cons sx_lit (all_cons sx_lit (all_cons sx_lit all_nil)))))))))
        obtain ⟨y, rfl, hy, oy⟩ := hx2
        refine ⟨_, _, rfl, rfl, by omega, ?_⟩
        walk_at "el"
        refine ⟨z, rfl, by omega, ?_⟩
        walk_at "el"
        refine ⟨_, _, rfl, rfl, by rw [len_app]; omega, ?_⟩
        exact k _ _ ⟨by rw [len_app, len_app]; omega, okS_app (okS_app (okS_cut hok) oy) (okS_cut hok)⟩ hb4 (k12.trans (Kp.into k4 (fun a u h => e1 _ _ _ h)))
      · walk_at "el"
        refine ite2 (fun h2 => ?_) (fun h2 => ?_)
        · walk_at "el"
          refine ⟨"1", 41, rfl, rfl, by decide, by decide, by decide +kernel, by decide +kernel, fun u1 l1 n1 => ?_⟩
          walk_at "el"
          refine ⟨"1", 41, rfl, rfl, by decide, by decide, by decide +kernel, by decide +kernel, fun u2 l2 n2 => ?_⟩
          walk_at "el"
          have lm : ("-" : Str).length = 1 := by decide +kernel
          have l1' : ("1" : Str).length = 1 := by decide +kernel
          have l9' : ("9" : Str).length = 1 := by decide +kernel
          have ln : ("\n" : Str).length = 1 := by decide +kernel
          have l7 : ("7 " : Str).length = 2 := by decide +kernel
          rw [l1'] at l1 l2
          have l2' : u2.length = 41 := by rw [l2]; decide
          refine ⟨"-", u2, rfl, rfl, by omega, ?_⟩
          walk_at "el"
          refine ⟨z, "\n", rfl, rfl, by omega, ?_⟩
          walk_at "el"
          refine ⟨_, z, rfl, rfl, by rw [len_app]; omega, ?_⟩
          walk_at "el"
          refine ⟨by show 10 ≤ sizeLine; decide, fun p1 hp1 => ?_⟩
          have e1 := nw_of hp1
          walk_at "el"
          refine ⟨"9", 5000, rfl, rfl, by decide, by decide, by decide +kernel, by decide +kernel, fun u3 l3 n3 => ?_⟩
          walk_at "el"
          refine ⟨"9", 5000, rfl, rfl, by decide, by decide, by decide +kernel, by decide +kernel, fun u4 l4 n4 => ?_⟩
          walk_at "el"
          rw [l9'] at l3 l4
          have l3' : u3.length = 5000 := by rw [l3]; decide
          have l4' : u4.length = 5000 := by rw [l4]; decide
          refine ⟨"-", u4, rfl, rfl, by omega, ?_⟩
          walk_at "el"
          refine ⟨"9", 5000, rfl, rfl, by decide, by decide, by decide +kernel, by decide +kernel, fun u5 l5 n5 => ?_⟩
          walk_at "el"
          rw [l9'] at l5
          have l5' : u5.length = 5000 := by rw [l5]; decide
          refine ⟨"7 ", u5, rfl, rfl, by omega, ?_⟩
          walk_at "el"
          refine ⟨by show 3 ≤ sizeLine; decide, fun p2 hp2 => ?_⟩
          have e2 := nw_of hp2
          walk_at "el"
          refine n_cat (xs := _) (e2 _ _ _ upd_same) upd_same (by show 10 + 3 ≤ sizeLine; decide) fun p3 hp3 => ?_
          have e3 := nw_of hp3
          walk_at "el"
          refine ⟨z, "\n", rfl, rfl, by omega, ?_⟩
          walk_at "el"
          refine ⟨"\n", z, rfl, rfl, by omega, ?_⟩
          walk_at "el"
          refine ⟨by show 2 ≤ sizeLine; decide, fun p4 hp4 => ?_⟩
          have e4 := nw_of hp4
          walk_at "el"
          refine n_cat (xs := _) (e4 _ _ _ upd_same) upd_same (by show (10 + 3) + 2 ≤ sizeLine; decide) fun p5 hp5 => ?_
          have e5 := nw_of hp5
          walk_at "el"
          refine ⟨b, c, p5, _, rfl, hb2.same (fun a u h => e5 _ _ _ (e4 _ _ _ (e3 _ _ _ (e2 _ _ _ (e1 _ _ _ h))))), Bag.ne (hb2.same (fun a u h => e4 _ _ _ (e3 _ _ _ (e2 _ _ _ (e1 _ _ _ h))))) hp5, .inl upd_same, by show 0 < (10 + 3) + 2; decide, by show (10 + 3) + 2 ≤ 1000000000; decide, fun x H4 hx hb4 k4 => ?_⟩
          have kk := k12.trans (Kp.into k4 (fun a u h => e5 _ _ _ (e4 _ _ _ (e3 _ _ _ (e2 _ _ _ (e1 _ _ _ h))))))
          have o1 : okS u1 := fun y hy => (lit_ok (z := "1") (by decide +kernel)).2 y (n1 y hy)
          have o2 : okS u2 := fun y hy => (lit_ok (z := "1") (by decide +kernel)).2 y (n2 y hy)
          have o3 : okS u3 := fun y hy => (lit_ok (z := "9") (by decide +kernel)).2 y (n3 y hy)
          have o4 : okS u4 := fun y hy => (lit_ok (z := "9") (by decide +kernel)).2 y (n4 y hy)
          have o5 : okS u5 := fun y hy => (lit_ok (z := "9") (by decide +kernel)).2 y (n5 y hy)
          have om : okS "-" := (lit_ok (by decide +kernel)).2
          have on : okS "\n" := (lit_ok (by decide +kernel)).2
          have o7 : okS "7 " := (lit_ok (by decide +kernel)).2
          have l1'' : u1.length = 41 := by rw [l1]; decide
          have hx2 : Sx x := by
            clear kk k4 hb4
            revert x
            refine all_app (all_app ?_ ?_) ?_
            · exact all_cons sx_lit (all_cons sx_lit (all_cons sx_lit (all_cons sx_lit (all_cons sx_lit (all_cons ⟨u1, rfl, by omega, o1⟩ (all_cons ⟨_, rfl, by rw [len_app]; omega, okS_app om o2⟩ (all_cons sx_lit (all_cons sx_lit (all_cons ⟨_, rfl, by rw [len_app, len_app]; omega, okS_app (okS_app hok on) hok⟩ all_nil)))))))))
            · exact all_cons ⟨u3, rfl, by omega, o3⟩ (all_cons ⟨_, rfl, by rw [len_app]; omega, okS_app om o4⟩ (all_cons ⟨_, rfl, by rw [len_app]; omega, okS_app o7 o5⟩ all_nil))
            · exact all_cons ⟨_, rfl, by rw [len_app]; omega, okS_app hok on⟩ (all_cons ⟨_, rfl, by rw [len_app]; omega, okS_app on hok⟩ all_nil)
          obtain ⟨y, rfl, hy, oy⟩ := hx2
          exact k _ _ ⟨by omega, oy⟩ hb4 kk
        · walk_at "el"
          exact k _ _ ⟨by omega, hok⟩ hb2 k12
end
end EL

/- part K93F -/
namespace EL
open PySem PySem.Spec PyProof.Rows L2
open PySem.W (Frag)
open TX
local macro_rules | `(tactic| walk_at "el1") => `(tactic| with_reducible first
  | refine a_sasg ?_ | refine a_sdrop ?_ | refine a_saugS ?_ | refine a_spar ?_ | refine a_seq ?_ | refine a_asg ?_ | refine a_drop ?_ | refine a_ret ?_ | refine a_if ?_ | refine a_next ?_
  | refine a_op ?_ | refine a_cons ?_ | refine a_nil ?_ | refine a_cb ?_ | refine a_call ?_ | refine a_c ?_ | refine a_gn ?_ | refine a_nx ?_ | refine a_rt ?_ | refine a_un ?_
  | refine a_test ?_ | refine a_B ?_ | refine a_bl ?_ | refine a_and ?_ | refine a_or ?_ | refine a_not ?_ | refine a_andV ?_ | refine a_orV ?_ | refine a_notV ?_ | refine a_ifx ?_ | refine a_chain ?_
  | refine a_nT ?_ | refine a_nF ?_ | refine a_fld ?_ | refine a_getF ?_ | refine a_T ?_ | refine a_F ?_ | refine a_tup ?_ | refine a_lst ?_ | refine a_sub ?_ | refine a_augS ?_ | refine a_two ?_ | refine a_I0 ?_ | refine a_U ?_ | refine n_add ?_ | refine n_int ?_ | refine n_ib ?_ | refine a_ip ?_ | refine a_rng1 ?_ | refine a_rng2 ?_ | refine a_bm ?_ | refine a_abs ?_ | refine a_pairs ?_ | refine a_pairs0 ?_ | refine a_bk ?_ | refine a_prp ?_ | refine a_lc ?_ | refine a_yes ?_ | refine a_sl ?_ | refine a_nop ?_ | refine a_prt ?_ | refine a_ex1 ?_ | refine a_for ?_ | refine a_sfor ?_ | refine a_iE1 ?_ | refine a_iEs ?_ | refine a_iEz ?_ | refine a_iEnum ?_ | refine a_iTup ?_ | refine a_iList ?_ | refine a_gcons ?_ | refine a_gnil ?_ | refine a_revT ?_ | refine a_spar3 ?_ | refine a_par3 ?_ | refine a_three ?_)
local macro_rules | `(tactic| walk_at "el2") => `(tactic| first
  | (refine a_var (by rfl) ?_)
  | (refine n_ixL (SqL.of (by assumption)) (by rfl) ?_) | (refine n_ixT (SqT.of (by assumption)) (by rfl) ?_) | (refine n_eq (by rfl) ?_) | (refine n_ne (by rfl) ?_)
  | (refine n_isN ?_) | (refine n_notN ?_) | (refine n_isB ?_) | (refine n_notB ?_) | (refine n_isBI ?_) | (refine n_notBI ?_) | (refine n_len (.inl (SqL.of (by assumption))) ?_) | (refine n_len (.inr (SqT.of (by assumption))) ?_)
  | (refine a_getL (SqL.of (by assumption)) (by rfl) ?_)
  | (refine n_isInt (by assumption) ?_) | (refine n_isBool (by assumption) ?_) | (refine n_isStr (by assumption) ?_) | (refine n_isTup (by assumption) ?_) | (refine n_isLst (by assumption) ?_))
local macro_rules | `(tactic| walk_at "el") => `(tactic| repeat (first | walk_at "el1" | walk_at "el2"))

section
variable {P : Program} {w : World} {K : Frag} {mg : Str → Option Value} {base : Heap} {f : Addr} {fd : FuncData}
theorem ok_kind93 (F : Fun K "is_kind" "is_kind" s_is_kind f fd) (T : Tb mg) : FnOk P w K mg base CX0 1 f fd ["thing"] (spB kindB K) := by
  refine F.ok sc_is_kind (fun vs H Q E h => ?_) (fun cdv A outer s H vs Q E hr h => ?_)
  · obtain ⟨x, rfl, _⟩ := h
    rfl
  · obtain ⟨x, rfl, hx, k⟩ := h
    refine ⟨_, (pss_one (ps_ret (pe_and (pe_callB u_isi rfl T.b.isinstance_ boot_isinstance (pa_cons (pv 0) (pa_cons (pe_bltn (v := V.ty "str") rfl T.b.str_ (by decide +kernel) rfl) pa_nil))) (pe_one (pe_cmpR u_in (pv 0) (pe_tup (pa_cons pe_str (pa_cons pe_str pa_nil))) rfl))))), ?_⟩
    obtain ⟨t, kt⟩ := hx.kit
    walk_at "el"
    refine ite2 (fun h0 => ?_) (fun h0 => ?_)
    · obtain ⟨i, rfl⟩ : ∃ i, x = .str i := by cases x <;> first | exact ⟨_, rfl⟩ | cases h0
      walk_at "el"
      refine ⟨by decide, fun p hp => n_inT upd_same rfl rfl ?_⟩
      walk_at "el"
      rw [kind_in] at k
      exact k _ (L2.Same.nw (Same.refl _) hp)
    · walk_at "el"
      have e : kindB x = false := by cases x <;> first | rfl | exact absurd rfl h0
      rw [e] at k
      exact k _ (Same.refl _)
end
theorem txt_join (s : Str) (ws : List Str) : Txt.join s ws = s.join ws := StrLaws.glued_eq_join s ws
theorem join_list (ws : List Str) : (Txt.join sp1 ws).cps.toList = flat 32 (ws.map (·.cps.toList)) := by rw [txt_join]; exact flat_of 32 ws
theorem mem_flat {c x : Nat} : ∀ {ws : List (List Nat)}, x ∈ flat c ws → x = c ∨ ∃ l ∈ ws, x ∈ l
  | [], h => by cases h
  | [a], h => .inr ⟨a, List.mem_singleton.mpr rfl, h⟩
  | a :: b :: r, h => by
    simp only [flat] at h
    rcases List.mem_append.mp h with h | h
    · exact .inr ⟨a, List.mem_cons_self, h⟩
    · rcases List.mem_cons.mp h with h | h
      · exact .inl h
      · rcases mem_flat h with h | ⟨l, m, h⟩
        · exact .inl h
        · exact .inr ⟨l, List.mem_cons_of_mem _ m, h⟩
theorem join_okS {ws : List Str} (h : ∀ y ∈ ws, okS y) : okS (Txt.join sp1 ws) := fun c hc => by
  rw [join_list] at hc
  rcases mem_flat hc with rfl | ⟨l, m, hl⟩
  · decide
  · obtain ⟨y, hy, rfl⟩ := List.mem_map.mp m
    exact h y hy c hl
theorem join_len {ws : List Str} : (Txt.join sp1 ws).length ≤ (ws.map (·.length)).sum + ws.length := by
  have := flat_len' 32 (ws.map (·.cps.toList))
  rw [← join_list, TX.len_list, List.map_map, List.length_map] at this
  have e : List.map (List.length ∘ fun x : Str => x.cps.toList) ws = ws.map (·.length) := List.map_congr_left fun s _ => TX.len_list s
  rw [e] at this
  exact this
/-- what stands for no words -/
def nnS (t : Str) : Str := if t = "" then "none" else t
theorem nn_join {ws : List Str} (h : ∀ y ∈ ws, y ≠ "") : nnS (Txt.join sp1 ws) = if ws = [] then ("none" : Str) else Txt.join sp1 ws := by
  cases ws with
  | nil =>
    have e : Txt.join sp1 [] = "" := by rw [txt_join]; rfl
    rw [e]; rfl
  | cons a r =>
    rw [if_neg (by simp)]
    unfold nnS
    rw [if_neg]
    intro e
    have e2 := congrArg (fun s : Str => s.cps.toList) e
    rw [join_list] at e2
    have ea : a.cps.toList ≠ [] := fun c => h a List.mem_cons_self (str_ext (by rw [c]; rfl))
    have e0 : ("" : Str).cps.toList = [] := rfl
    rw [e0] at e2
    cases r with
    | nil => exact ea e2
    | cons b s => simp [flat] at e2
theorem kind_free {y : Str} (h : y = "early" ∨ y = "late") : okS y ∧ y ≠ "" ∧ y.length ≤ 5 ∧ 10 ∉ y.cps.toList ∧ 32 ∉ y.cps.toList := by
  rcases h with rfl | rfl
  · exact ⟨(lit_ok (by decide +kernel)).2, by decide +kernel, by decide +kernel, by decide +kernel, by decide +kernel⟩
  · exact ⟨(lit_ok (by decide +kernel)).2, by decide +kernel, by decide +kernel, by decide +kernel, by decide +kernel⟩
theorem show_okS (n : Int) : okS (showI n) := fun c hc => by
  rw [showI_list] at hc
  have k : ∀ d ∈ (Nat.toDigits 10 n.natAbs).map Char.toNat, d < 1114112 := fun d hd => by
    have := toD_all n.natAbs d hd; omega
  split at hc
  · rcases List.mem_cons.mp hc with rfl | hc
    · decide
    · exact k c hc
  · exact k c hc
theorem show_ne (n : Int) : showI n ≠ "" := fun e => by
  have e2 := congrArg (fun s : Str => s.cps.toList) e
  have e0 : ("" : Str).cps.toList = [] := rfl
  rw [e0, showI_list] at e2
  split at e2
  · cases e2
  · exact toD_ne _ e2
/-- a line of words is read as these words -/
theorem read_words {ws : List Str} (h2 : 2 ≤ ws.length) (hf : ∀ y ∈ ws, 10 ∉ y.cps.toList ∧ 32 ∉ y.cps.toList) : (lanes (Txt.join sp1 ws)).length = 1 ∧ wordsF (line0 (Txt.join sp1 ws)) = ws := by
  have hn : 10 ∉ (Txt.join sp1 ws).cps.toList := fun h => by
    rw [join_list] at h
    rcases mem_flat h with h | ⟨l, m, hl⟩
    · cases h
    · obtain ⟨y, hy, rfl⟩ := List.mem_map.mp m
      exact (hf y hy).1 hl
  have hl : lanes (Txt.join sp1 ws) = [Txt.join sp1 ws] := by
    have := split_join (c := 10) (ws := [Txt.join sp1 ws]) (by simp) (by simpa using hn)
    exact this
  have h0 : line0 (Txt.join sp1 ws) = Txt.join sp1 ws := by unfold line0; rw [hl]; rfl
  refine ⟨by rw [hl]; rfl, ?_⟩
  rw [h0]
  unfold wordsF
  rw [if_neg]
  · rw [txt_join]
    exact split_join (c := 32) (by intro e; rw [e] at h2; simp at h2) fun y hy => (hf y hy).2
  · intro e
    have e2 := congrArg (fun s : Str => s.cps.toList) e
    rw [join_list] at e2
    have e0 : ("none" : Str).cps.toList = [110, 111, 110, 101] := by decide +kernel
    match ws, h2 with
    | a :: b :: r, _ =>
      have : 32 ∈ ("none" : Str).cps.toList := by
        rw [← e2]
        simp [flat]
      rw [e0] at this
      simp at this
theorem kinds_join {ws : List Str} (h2 : 2 ≤ ws.length) (hk : ∀ y ∈ ws, y = "early" ∨ y = "late") : kindsO (Txt.join sp1 ws) = .inl ws := by
  obtain ⟨a, b⟩ := read_words h2 fun y hy => (kind_free (hk y hy)).2.2.2
  unfold kindsO
  rw [b, a, if_neg (by decide : ¬ 1 < 1), if_pos]
  rw [List.all_eq_true]
  intro y hy
  rcases hk y hy with rfl | rfl <;> decide +kernel
theorem times_join {ns : List Int} (h2 : 2 ≤ ns.length) (hn : ∀ n ∈ ns, n.natAbs < 10 ^ 40) : timesO (Txt.join sp1 (ns.map showI)) = .inl ns := by
  obtain ⟨a, b⟩ := read_words (ws := ns.map showI) (by simpa using h2) fun y hy => by
    obtain ⟨n, _, rfl⟩ := List.mem_map.mp hy
    exact ⟨showI_free (by decide) (by decide), showI_free (by decide) (by decide)⟩
  unfold timesO
  rw [b, a, if_neg (by decide : ¬ 1 < 1), if_pos]
  · congr 1
    clear a b h2
    induction ns with
    | nil => rfl
    | cons n r ih =>
      rw [List.map_cons, List.filterMap_cons, intW_show (hn n List.mem_cons_self)]
      show n :: _ = n :: r
      rw [ih fun x hx => hn x (List.mem_cons_of_mem _ hx)]
  · rw [List.all_map, List.all_eq_true]
    intro n h
    show (intW (showI n)).isSome = true
    rw [intW_show (hn n h)]; rfl
theorem intW_lt {z : Str} {n : Int} (h : intW z = some n) : n.natAbs < 10 ^ 40 := by
  unfold intW at h
  split at h
  · rename_i hd
    split at h
    · cases h
      obtain ⟨h1, h2, h3⟩ := digs_all hd
      have hv := val_lt (a := 0) h1
      have hp : 10 ^ (figs z.cps.toList).length ≤ 10 ^ 40 := Nat.pow_le_pow_right (by decide) h3
      have e : (valW z).natAbs = NumText.digitsVal (figs z.cps.toList) := by unfold valW; split <;> simp
      rw [e]; unfold NumText.digitsVal; omega
    · cases h
  · cases h
theorem sz_kind {y : Str} (h : kindB (.str y) = true) : Sz 5 0 (.str y) := by
  have : y = "early" ∨ y = "late" := by simpa [kindB] using h
  rcases this with rfl | rfl
  · exact (sz_str (by decide +kernel)).le (by decide +kernel) (Nat.le_refl _)
  · exact (sz_str (by decide +kernel)).le (by decide +kernel) (Nat.le_refl _)
theorem sz_noT (n : Int) (h : n.natAbs < 10 ^ 40) : Fine (noT n) :=
  (sz_tup (n := 6) (k := 0) (ds := [_, _]) (all_cons ((sz_str (by decide +kernel)).le (by decide +kernel) (Nat.le_refl _)) (all_cons ((sz_int h).le (by decide) (Nat.le_refl _)) all_nil))).fine (by show 2 * 7 ≤ 300000; decide) (by decide)
theorem told_fine {ds : List PyData} (hl : ds.length ≤ 20001) (h : ∀ d ∈ ds, Sz 5 0 d) : Fine (.tuple [.str "told", .tuple ds]) := by
  have a := (sz_tup h).le (n' := 120006) (k' := 1) (by omega) (Nat.le_refl _)
  exact (sz_tup (n := 120006) (k := 1) (ds := [_, _]) (all_cons ((sz_str (by decide +kernel)).le (Nat.le_trans (by decide +kernel : (("told" : Str)).cps.size ≤ 4) (by decide)) (by decide)) (all_cons a all_nil))).fine (by show 2 * 120007 ≤ 300000; decide) (by decide)
theorem oD_fine {r : Int} {x : V} (tx : ∀ z, x = .str z → TxO z) : Fine (oD r x) := by
  by_cases hs : ∃ z, x = .str z
  · obtain ⟨z, rfl⟩ := hs
    have hz := (tx z rfl).1
    have h1 := words_len (line0 z)
    have h2 := line0_len z
    show Fine (if r = 0 then outK (kindsO z) else outT (timesO z))
    split
    · unfold kindsO
      split
      · split
        · exact sz_noT 2 (by decide +kernel)
        · rename_i ha _
          refine told_fine (by rw [List.length_map]; omega) fun d hd => ?_
          obtain ⟨y, hy, rfl⟩ := List.mem_map.mp hd
          exact sz_kind (List.all_eq_true.mp ha y hy)
      · exact sz_noT 1 (by decide +kernel)
    · unfold timesO
      split
      · split
        · exact sz_noT 2 (by decide +kernel)
        · refine told_fine (by rw [List.length_map]; have := List.length_filterMap_le intW (wordsF (line0 z)); omega) fun d hd => ?_
          obtain ⟨n, hn, rfl⟩ := List.mem_map.mp hd
          obtain ⟨y, _, hy⟩ := List.mem_filterMap.mp hn
          exact (sz_int (intW_lt hy)).le (by decide) (Nat.le_refl _)
      · exact sz_noT 1 (by decide +kernel)
  · have e : oD r x = noT 1 := by cases x <;> first | rfl | exact absurd ⟨_, rfl⟩ hs
    rw [e]
    exact sz_noT 1 (by decide +kernel)
end EL

/- part K93L -/
namespace EL
open PySem PySem.Spec PyProof.Rows L2
open PySem.W (Frag)
open TX
abbrev s_law : Stmt := top 30
abbrev N_law : List Str := ["_law_script", "_law_bag_here", "_law_trip", "_law_kinds", "_law_k", "_law_menu", "_law_times", "_law_texts", "_law_x", "_law_text", "_law_road", "_law_thing", "_law_many", "_law_some"]
theorem sc_law : FnScope N_law ["_law_script"] (defScope s_law) := ⟨rfl, rfl, rfl, by decide +kernel, rfl, by decide +kernel, by decide +kernel⟩
local macro_rules | `(tactic| walk_at "el1") => `(tactic| with_reducible first
  | refine a_sasg ?_ | refine a_sdrop ?_ | refine a_saugS ?_ | refine a_spar ?_ | refine a_seq ?_ | refine a_asg ?_ | refine a_drop ?_ | refine a_ret ?_ | refine a_if ?_ | refine a_next ?_
  | refine a_op ?_ | refine a_cons ?_ | refine a_nil ?_ | refine a_cb ?_ | refine a_call ?_ | refine a_c ?_ | refine a_gn ?_ | refine a_nx ?_ | refine a_rt ?_ | refine a_un ?_
  | refine a_test ?_ | refine a_B ?_ | refine a_bl ?_ | refine a_and ?_ | refine a_or ?_ | refine a_not ?_ | refine a_andV ?_ | refine a_orV ?_ | refine a_notV ?_ | refine a_ifx ?_ | refine a_chain ?_
  | refine a_nT ?_ | refine a_nF ?_ | refine a_fld ?_ | refine a_getF ?_ | refine a_T ?_ | refine a_F ?_ | refine a_tup ?_ | refine a_lst ?_ | refine a_sub ?_ | refine a_augS ?_ | refine a_two ?_ | refine a_I0 ?_ | refine a_U ?_ | refine n_add ?_ | refine n_int ?_ | refine n_ib ?_ | refine a_ip ?_ | refine a_rng1 ?_ | refine a_rng2 ?_ | refine a_bm ?_ | refine a_abs ?_ | refine a_pairs ?_ | refine a_pairs0 ?_ | refine a_bk ?_ | refine a_prp ?_ | refine a_lc ?_ | refine a_yes ?_ | refine a_sl ?_ | refine a_nop ?_ | refine a_prt ?_ | refine a_ex1 ?_ | refine a_for ?_ | refine a_sfor ?_ | refine a_iE1 ?_ | refine a_iEs ?_ | refine a_iEz ?_ | refine a_iEnum ?_ | refine a_iTup ?_ | refine a_iList ?_ | refine a_gcons ?_ | refine a_gnil ?_ | refine a_revT ?_ | refine a_spar3 ?_ | refine a_par3 ?_ | refine a_three ?_)
local macro_rules | `(tactic| walk_at "el2") => `(tactic| first
  | (refine a_var (by rfl) ?_)
  | (refine n_ixL (SqL.of (by assumption)) (by rfl) ?_) | (refine n_ixT (SqT.of (by assumption)) (by rfl) ?_) | (refine n_eq (by rfl) ?_) | (refine n_ne (by rfl) ?_)
  | (refine n_isN ?_) | (refine n_notN ?_) | (refine n_isB ?_) | (refine n_notB ?_) | (refine n_isBI ?_) | (refine n_notBI ?_) | (refine n_len (.inl (SqL.of (by assumption))) ?_) | (refine n_len (.inr (SqT.of (by assumption))) ?_)
  | (refine a_getL (SqL.of (by assumption)) (by rfl) ?_)
  | (refine n_isInt (by assumption) ?_) | (refine n_isBool (by assumption) ?_) | (refine n_isStr (by assumption) ?_) | (refine n_isTup (by assumption) ?_) | (refine n_isLst (by assumption) ?_))
local macro_rules | `(tactic| walk_at "el") => `(tactic| repeat (first | walk_at "el1" | walk_at "el2"))

theorem passL {X : Cx} : Passes (L2.CX X.prog X.w) X E0 := fun _ _ _ _ _ _ _ h => by
  obtain ⟨_, _, _, _, _, _, _, _, _, _, _, _, z⟩ := h
  exact z.elim
theorem bag_mut {H : Hp} {b c q : Addr} {o : HO} (h : Bag H b c) (n1 : q ≠ b) (n2 : q ≠ c) : Bag (upd H q o) b c := by
  obtain ⟨i, j, k, cs, h1, h2, r⟩ := h
  exact ⟨i, j, k, cs, by rw [upd_ne n1.symm]; exact h1, by rw [upd_ne n2.symm]; exact h2, r⟩
theorem bag_nc {H : Hp} {b c q : Addr} (h : Bag H b c) (hq : H q = none) : q ≠ c := fun z => by
  obtain ⟨i, j, k, cs, h1, h2, r⟩ := h
  rw [z, h2] at hq; cases hq
/-- kinds and times as drawn, known apart from the bag -/
def KsAt (b p : Addr) (H : Hp) (ws : List Str) : Prop := p ≠ b ∧ H p = some (.tup (ws.map V.str)) ∧ (∀ y ∈ ws, y = "early" ∨ y = "late") ∧ ws.length ≤ 10
def IsAt (b p : Addr) (H : Hp) (ns : List Int) : Prop := p ≠ b ∧ H p = some (.tup (ns.map V.int)) ∧ (∀ n ∈ ns, n.natAbs < 10 ^ 40) ∧ ns.length ≤ 10
theorem KsAt.kp {b p : Addr} {H H' : Hp} {ws : List Str} (h : KsAt b p H ws) (k : Kp b H H') : KsAt b p H' ws := ⟨h.1, k _ _ h.1 h.2.1, h.2.2⟩
theorem IsAt.kp {b p : Addr} {H H' : Hp} {ws : List Int} (h : IsAt b p H ws) (k : Kp b H H') : IsAt b p H' ws := ⟨h.1, k _ _ h.1 h.2.1, h.2.2⟩
def tA (ws : List Str) : Str := if ws = [] then ("none" : Str) else Txt.join sp1 ws
def tB (ns : List Int) : Str := if ns = [] then ("none" : Str) else Txt.join sp1 (ns.map showI)
theorem no_dp {K : Frag} {H : Hp} {v : V} {n : Int} (t : Tk H v (noT n)) : Dp K H v (noT n) := by
  unfold noT at t ⊢
  cases t with
  | tup h al =>
    cases al with
    | cons x y =>
      cases x
      cases y with
      | cons u z =>
        cases u
        cases z
        exact .tup (SqT.of h) (.cons (.str _) (.cons (.int _) .nil))
theorem dp_intsL {K : Frag} {H : Hp} : ∀ js : List Int, DpAll K H (js.map V.int) (js.map PyData.int)
  | [] => .nil
  | j :: r => .cons (.int j) (dp_intsL r)
def manyK : List Str := (List.replicate 500 [("early" : Str), "late", "late"]).flatten
theorem manyV : (List.replicate (500 : Int).toNat [V.str "early", .str "late", .str "late"]).flatten = manyK.map V.str := by
  show (List.replicate 500 [V.str "early", .str "late", .str "late"]).flatten = _
  unfold manyK
  rw [List.map_flatten, List.map_replicate]; rfl
theorem many_len : manyK.length = 1500 := by simp [manyK]
theorem many_k : ∀ y ∈ manyK, y = "early" ∨ y = "late" := by
  intro y hy
  unfold manyK at hy
  obtain ⟨l, hl, hy⟩ := List.mem_flatten.mp hy
  rw [(List.mem_replicate.mp hl).2] at hy
  simp at hy; exact hy
def someN : List Int := (List.range 1500).map fun i : Nat => (-700 : Int) + (i : Int)
theorem someV : rgV (-700) 800 = someN.map V.int := by
  unfold rgV someN
  rw [List.map_map]; rfl
theorem some_len : someN.length = 1500 := by simp [someN]
theorem some_k : ∀ n ∈ someN, n.natAbs < 1000 := by
  intro n hn
  obtain ⟨i, hi, rfl⟩ := List.mem_map.mp hn
  have := List.mem_range.mp hi
  omega
theorem many_ex : ∃ ws : List Str, (List.replicate (500 : Int).toNat [V.str "early", .str "late", .str "late"]).flatten = ws.map V.str ∧ ws.length = 1500 ∧ ∀ y ∈ ws, y = "early" ∨ y = "late" := ⟨manyK, manyV, many_len, many_k⟩
theorem some_ex : ∃ ns : List Int, rgV (-700) 800 = ns.map V.int ∧ ns.length = 1500 ∧ ∀ n ∈ ns, n.natAbs < 1000 := ⟨someN, someV, some_len, some_k⟩
theorem show_short {n : Int} (h : n.natAbs < 1000) : (showI n).length ≤ 4 := by
  have := PyProof.Rows.digits10_le (k := 3) (by decide) h
  rw [← TX.len_list, showI_list]
  split
  · simp; omega
  · simp; omega
section
variable {P : Program} {w : World} {K : Frag} {mg : Str → Option Value} {base : Heap} {f C aForms aParts : Addr} {fd : FuncData}
theorem ok_law (F : Fun K "law" "law" s_law f fd) (T : Tb mg) (c_bag : Cal P w K mg base CX0 1 "_law_bag" ["_law_script"] (spBag K)) (c_take : Cal P w K mg base CX0 1 "_law_take" ["_law_bag_here", "_law_many"] spTake)
    (c_one : Cal P w K mg base CX0 2 "_law_one" ["_law_bag_here", "_law_menu"] (spOne K)) (c_kind : Cal P w K mg base CX0 2 "_law_kind" ["_law_bag_here"] spKnd)
    (c_show_kinds : Cal P w K mg base CX0 2 "show_kinds" ["kinds"] (spShK K)) (c_show_times : Cal P w K mg base CX0 2 "show_times" ["times"] (spShT K))
    (c_bent : Cal P w K mg base CX0 3 "_law_bent" ["_law_bag_here", "_law_text"] spBent) (c_told : Cal P w K mg base CX0 5 "_law_told" ["_law_road", "_law_text"] (spOut K)) (c_due : Cal P w K mg base CX0 2 "_law_due" ["_law_road", "_law_text"] (spOut K))
    (c_read_kinds : Cal P w K mg base (L2.CX P w) 4 "read_kinds" ["text"] (spRk K C)) (c_read_times : Cal P w K mg base (L2.CX P w) 4 "read_times" ["text"] (spRt K C)) :
    FnG P w K mg base CX0 6 f fd ["_law_script"] (spLaw K) := by
  refine fnG_of F sc_law (fun vs H Q E h => ?_) (fun cdv A outer s H vs Q E hr hq h => ?_)
  · obtain ⟨_, _, rfl, _⟩ := h
    rfl
  · obtain ⟨a, ns, rfl, ha, k⟩ := h
    refine ⟨_, PSs.nox (pss_cons (ps_set (i := 1) sc_law.nd rfl (Or.inr rfl) (pe_cal c_bag (hr.mono (by decide)) pass0 (pa_cons (pv 0) pa_nil)))
  (pss_cons (ps_for PassesOwn.never rfl (pi_range1 rfl T.b.range_ (pa_cons pe_int pa_nil)) (pg_name (i := 2) sc_law.nd rfl (Or.inl rfl))
    (Evl.pss_cut (ps_set (i := 3) sc_law.nd rfl (Or.inl rfl) (pe_callTy u_tuple rfl T.b.tuple_ (by decide +kernel) (pa_cons (pe_lc (own := [("_law_k", 4)]) rfl sc_law.nd (pi_range1 rfl T.b.range_ (pa_cons (pe_cal c_take (hr.mono (by decide)) pass0 (pa_cons (pv 1) (pa_cons pe_int pa_nil))) pa_nil)) (blkOk_by (own := [("_law_k", 4)]) (N := N_law) (sc := defScope s_law) (by decide +kernel)) (fun _ _ _ _ _ => (pg_name (i := 4) sc_law.nd rfl (Or.inl rfl))) (fun _ _ _ _ _ => pts_nil) (fun _ _ _ _ _ => (pe_cal c_kind (hr.mono (by decide)) pass0 (pa_cons (pv 1) pa_nil)))) pa_nil)))
  (Evl.pss_cut (ps_set (i := 5) sc_law.nd rfl (Or.inr rfl) (pe_lst (pa_cons pe_int (pa_cons pe_int (pa_cons (pe_un un_neg pe_int) (pa_cons (pe_op op_pow pe_int pe_int) (pa_cons (pe_op op_sub (pe_op op_pow pe_int pe_int) pe_int) (pa_cons (pe_op op_sub pe_int (pe_op op_pow pe_int pe_int)) (pa_cons (pe_un un_neg (pe_op op_pow pe_int pe_int)) (pa_cons (pe_cal c_take (hr.mono (by decide)) pass0 (pa_cons (pv 1) (pa_cons (pe_op op_pow pe_int pe_int) pa_nil))) pa_nil))))))))))
  (Evl.pss_cut (ps_set (i := 6) sc_law.nd rfl (Or.inl rfl) (pe_callTy u_tuple rfl T.b.tuple_ (by decide +kernel) (pa_cons (pe_lc (own := [("_law_k", 4)]) rfl sc_law.nd (pi_range1 rfl T.b.range_ (pa_cons (pe_cal c_take (hr.mono (by decide)) pass0 (pa_cons (pv 1) (pa_cons pe_int pa_nil))) pa_nil)) (blkOk_by (own := [("_law_k", 4)]) (N := N_law) (sc := defScope s_law) (by decide +kernel)) (fun _ _ _ _ _ => (pg_name (i := 4) sc_law.nd rfl (Or.inl rfl))) (fun _ _ _ _ _ => pts_nil) (fun _ _ _ _ _ => (pe_cal c_one (hr.mono (by decide)) pass0 (pa_cons (pv 1) (pa_cons (pv 5) pa_nil))))) pa_nil)))
  (Evl.pss_cut (ps_set (i := 7) sc_law.nd rfl (Or.inl rfl) (pe_lst (pa_cons (pe_join pe_str (pv 3)) (pa_cons (pe_join pe_str (pe_lc (own := [("_law_x", 8)]) rfl sc_law.nd (u_iter (pv 6)) (blkOk_by (own := [("_law_x", 8)]) (N := N_law) (sc := defScope s_law) (by decide +kernel)) (fun _ _ _ _ _ => (pg_name (i := 8) sc_law.nd rfl (Or.inl rfl))) (fun _ _ _ _ _ => pts_nil) (fun _ _ _ _ _ => (pe_callTy call_str_int rfl T.b.str_ (by decide +kernel) (pa_cons (pv 8) pa_nil))))) pa_nil))))
  (Evl.pss_cut (ps_setLc (i := 7) (own := [("_law_text", 9)]) rfl sc_law.nd rfl rfl (sw_true rfl rfl rfl (by decide +kernel)) (u_iter (pv 7)) (blkOk_by (own := [("_law_text", 9)]) (N := N_law) (sc := defScope s_law) (by decide +kernel)) (fun _ _ _ _ _ => (pg_name (i := 9) sc_law.nd rfl (Or.inl rfl))) (fun _ _ _ _ _ => pts_nil) (fun _ _ _ _ _ => (pe_ifExp (pt_cmpR (show OpR _ (compareOp .NotEq) (rNeU K) from (u_ne hr.units)) (pv 9) pe_str (nomark _)) (pv 9) pe_str)))
  (pss_cons (ps_if (pt_cmpR (u_ne hr.units) (pe_lst (pa_cons (pe_cal c_show_kinds (hr.mono (by decide)) pass0 (pa_cons (pv 3) pa_nil)) (pa_cons (pe_cal c_show_times (hr.mono (by decide)) pass0 (pa_cons (pv 6) pa_nil)) pa_nil))) (pv 7) (nomark _))
    (pss_one (ps_ret pe_bl))
    pss_nil)
  (pss_one (ps_for PassesOwn.never rfl (pi_tup (pe_tup (pa_cons pe_int (pa_cons pe_int pa_nil)))) (pg_name (i := 10) sc_law.nd rfl (Or.inl rfl))
    (pss_cons (ps_for PassesOwn.never rfl (u_iter (pe_lst (pa_cons (pe_ix ix_seq (pv 7) (pv 10) (fun _ _ => rfl)) (pa_cons (pe_ix ix_seq (pv 7) (pe_op op_sub pe_int (pv 10)) (fun _ _ => rfl)) (pa_cons (pe_cal c_bent (hr.mono (by decide)) pass0 (pa_cons (pv 1) (pa_cons (pe_ix ix_seq (pv 7) (pv 10) (fun _ _ => rfl)) pa_nil))) (pa_cons (pe_cal c_bent (hr.mono (by decide)) pass0 (pa_cons (pv 1) (pa_cons (pe_ix ix_seq (pv 7) (pv 10) (fun _ _ => rfl)) pa_nil))) pa_nil)))))) (pg_name (i := 11) sc_law.nd rfl (Or.inl rfl))
    (pss_one (ps_if (pt_cmpR (u_ne hr.units) (pe_callB (show CallR _ (.builtin "repr") rShowT from u_showT hq hr.units) rfl T.b.repr_ (by decide +kernel) (pa_cons (pe_cal c_told (hr.mono (by decide)) pass0 (pa_cons (pv 10) (pa_cons (pv 11) pa_nil))) pa_nil)) (pe_callB (show CallR _ (.builtin "repr") rShowT from u_showT hq hr.units) rfl T.b.repr_ (by decide +kernel) (pa_cons (pe_cal c_due (hr.mono (by decide)) pass0 (pa_cons (pv 10) (pa_cons (pv 11) pa_nil))) pa_nil)) (nomark _))
    (pss_one (ps_ret pe_bl))
    pss_nil)))
  (pss_one (ps_if (pt_cmpR (u_ne hr.units) (pe_cal c_told (hr.mono (by decide)) pass0 (pa_cons (pv 10) (pa_cons (pe_cal c_one (hr.mono (by decide)) pass0 (pa_cons (pv 1) (pa_cons (pe_lst (pa_cons pe_non (pa_cons pe_int (pa_cons pe_bl (pa_cons (pv 3) (pa_cons (pe_lst (pa_cons (pe_ix ix_seq (pv 7) pe_int (fun _ _ => rfl)) pa_nil)) (pa_cons pe_dnewK (pa_cons (pv 6) pa_nil)))))))) pa_nil))) pa_nil))) (pe_tup (pa_cons pe_str (pa_cons pe_int pa_nil))) (nomark _))
    (pss_one (ps_ret pe_bl))
    pss_nil))))))))))))
  (pss_cons (ps_par (i := 12) (j := 13) rfl sc_law.nd rfl rfl (by decide) rfl rfl (pa_cons (pe_op op_repT (pe_tup (pa_cons pe_str (pa_cons pe_str (pa_cons pe_str pa_nil)))) pe_int) (pa_cons (pe_tupRg rfl rfl T.b.tuple_ (prg_2 rfl T.b.range_ (pe_un un_neg pe_int) pe_int)) pa_nil)) (by with_unfolding_all rfl))
  (pss_one (ps_ret (pe_and (pe_cmpR (u_eq hr.units) (pe_cal c_read_kinds (hr.mono (by decide)) passL (pa_cons (pe_cal c_show_kinds (hr.mono (by decide)) pass0 (pa_cons (pv 12) pa_nil)) pa_nil)) (pv 12) (nomark _)) (pe_one (pe_cmpR (u_eq hr.units) (pe_cal c_read_times (hr.mono (by decide)) passL (pa_cons (pe_cal c_show_times (hr.mono (by decide)) pass0 (pa_cons (pv 13) pa_nil)) pa_nil)) (pv 13) (nomark _))))))))), ?_⟩
    walk_at "el"
    refine ⟨a, ns, rfl, ha, fun b c H1 hb0 hc0 hb1 s1 => ?_⟩
    walk_at "el"
    refine ⟨by decide, by decide, ?_⟩
    refine lp_range (fun i σ H2 => Bag H2 b c ∧ ∃ v2 v3 v5 v6 v7 v10 v11 v12 v13, σ = [some (.ref a), some (.ref b), v2, v3, none, v5, v6, v7, none, none, v10, v11, v12, v13]) ⟨hb1, _, _, _, _, _, _, _, _, _, rfl⟩ ?_ ?_
    · rintro i σ H2 hi ⟨hb2, v2, v3, v5, v6, v7, v10, v11, v12, v13, rfl⟩
      walk_at "el"
      refine a_cut (fun σ' H' => Bag H' b c ∧ ∃ pk ws, KsAt b pk H' ws ∧ σ' = [some (.ref a), some (.ref b), some (.int (0 + i)), some (.ref pk), none, v5, v6, v7, none, none, v10, v11, v12, v13]) ?_ ?_
      · walk_at "el"
        refine ⟨b, c, 10, rfl, hb2, by decide, by decide, fun r Hn r0 r1 hbn kn => ?_⟩
        walk_at "el"
        refine ⟨by omega, by omega, fun D hD => ?_⟩
        have e0 := nw_of hD (.lst [])
        have nD := Bag.ne hbn hD
        refine lc_of walk_range (fun j H3 => Bag H3 b c ∧ Kp b Hn H3 ∧ ∃ ws : List Str, H3 D = some (.lst (ws.map V.str)) ∧ ws.length = j ∧ ∀ y ∈ ws, y = "early" ∨ y = "late") ⟨hbn.same e0, same_kp e0, [], upd_same, rfl, fun _ h => nomatch h⟩ (fun _ _ _ _ => trivial) ?_ ?_
        · rintro j x H3 H4 hj ⟨hb3, k3, ws, d3, hl, hw⟩ hx
          obtain ⟨e5, rfl⟩ : H4 = H3 ∧ x = .int (0 + j) := hx
          subst e5
          walk_at "el"
          refine ⟨rfl, ?_⟩
          walk_at "el"
          refine ⟨b, c, rfl, hb3, fun y H5 hy hb5 k5 => ?_⟩
          have k35 := k3.trans k5
          exact ⟨_, k5 _ _ nD d3, by rw [List.length_map]; exact Nat.lt_of_le_of_lt (m := 100) (by omega) (by decide), bag_mut hb5 nD (bag_nc hbn hD), k35.mut hD, ws ++ [y], by rw [upd_same, List.map_append]; rfl, by rw [List.length_append, hl]; rfl, all_app hw (all_cons hy all_nil)⟩
        · rintro H3 ⟨hb3, k3, ws, d3, hl, hw⟩
          walk_at "el"
          refine ⟨D, _, rfl, .inl ⟨SqL.of d3, fun l hl2 => ?_⟩⟩
          exact ⟨hb3.same (nw_of hl2 _), l, ws, ⟨Bag.ne hb3 hl2, upd_same, hw, by omega⟩, rfl⟩
      rintro σ' H3 ⟨hb3, pk, ws, hK, rfl⟩
      clear hb2
      refine a_cut (fun σ' H' => Bag H' b c ∧ KsAt b pk H' ws ∧ ∃ (pm : Addr) (ms : List Int), pm ≠ b ∧ H' pm = some (.lst (ms.map V.int)) ∧ 0 < ms.length ∧ ms.length ≤ 10 ∧ (∀ n ∈ ms, n.natAbs < 10 ^ 40) ∧ σ' = [some (.ref a), some (.ref b), some (.int (0 + i)), some (.ref pk), none, some (.ref pm), v6, v7, none, none, v10, v11, v12, v13]) ?_ ?_
      · walk_at "el"
        refine a_I ⟨by decide, by decide, by decide⟩ ?_
        walk_at "el"
        refine a_I ⟨by decide, by decide, by decide⟩ ?_
        walk_at "el"
        refine a_I ⟨by decide, by decide, by decide⟩ ?_
        walk_at "el"
        refine a_I ⟨by decide, by decide, by decide⟩ ?_
        walk_at "el"
        refine a_I ⟨by decide, by decide, by decide⟩ ?_
        walk_at "el"
        have e6 : (10 : Int) ^ (6 : Int).toNat = 1000000 := by decide +kernel
        have t40 : (1000000 : Nat) < 10 ^ 40 := by decide +kernel
        refine ⟨b, c, _, rfl, hb3, by decide +kernel, by decide +kernel, fun r Hn r0 r1 hbn kn => ?_⟩
        rw [e6] at r1
        walk_at "el"
        refine ⟨by show 8 ≤ sizeLine; decide, fun p hp => ?_⟩
        exact ⟨hbn.same (nw_of hp _), hK.kp (kn.trans (same_kp (nw_of hp _))), p, [0, 7, -1, 10 ^ (39 : Int).toNat, 10 ^ (40 : Int).toNat - 1, 1 - 10 ^ (40 : Int).toNat, -(10 ^ (12 : Int).toNat), r], Bag.ne hbn hp, upd_same, by show 0 < 8; decide, by show 8 ≤ 10; decide,
          all_cons (by decide +kernel) (all_cons (by decide +kernel) (all_cons (by decide +kernel) (all_cons (by decide +kernel) (all_cons (by decide +kernel) (all_cons (by decide +kernel) (all_cons (by decide +kernel) (all_cons (Nat.lt_trans (by omega : r.natAbs < 1000000) t40) all_nil))))))), rfl⟩
      rintro σ' H4 ⟨hb4, hK, pm, ms, nm, hm, m0, m1, mok, rfl⟩
      clear hb3
      refine a_cut (fun σ' H' => Bag H' b c ∧ KsAt b pk H' ws ∧ ∃ pt ns, IsAt b pt H' ns ∧ σ' = [some (.ref a), some (.ref b), some (.int (0 + i)), some (.ref pk), none, some (.ref pm), some (.ref pt), v7, none, none, v10, v11, v12, v13]) ?_ ?_
      · walk_at "el"
        refine ⟨b, c, 10, rfl, hb4, by decide, by decide, fun r Hn r0 r1 hbn kn => ?_⟩
        walk_at "el"
        refine ⟨by omega, by omega, fun D hD => ?_⟩
        have e0 := nw_of hD (.lst [])
        have nD := Bag.ne hbn hD
        have hmn := kn _ _ nm hm
        refine lc_of walk_range (fun j H3 => Bag H3 b c ∧ Kp b Hn H3 ∧ ∃ ns : List Int, H3 D = some (.lst (ns.map V.int)) ∧ ns.length = j ∧ ∀ n ∈ ns, n.natAbs < 10 ^ 40) ⟨hbn.same e0, same_kp e0, [], upd_same, rfl, fun _ h => nomatch h⟩ (fun _ _ _ _ => trivial) ?_ ?_
        · rintro j x H3 H5 hj ⟨hb3, k3, ns, d3, hl, hw⟩ hx
          obtain ⟨e5, rfl⟩ : H5 = H3 ∧ x = .int (0 + j) := hx
          subst e5
          walk_at "el"
          refine ⟨rfl, ?_⟩
          walk_at "el"
          refine ⟨b, c, pm, _, rfl, hb3, nm, .inl (k3 _ _ nm hmn), by rw [List.length_map]; exact m0, by rw [List.length_map]; omega, fun x H6 hx hb6 k6 => ?_⟩
          obtain ⟨n, hn, rfl⟩ := List.mem_map.mp hx
          have k36 := k3.trans k6
          exact ⟨_, k6 _ _ nD d3, by rw [List.length_map]; exact Nat.lt_of_le_of_lt (m := 100) (by omega) (by decide), bag_mut hb6 nD (bag_nc hbn hD), k36.mut hD, ns ++ [n], by rw [upd_same, List.map_append]; rfl, by rw [List.length_append, hl]; rfl, all_app hw (all_cons (mok n hn) all_nil)⟩
        · rintro H3 ⟨hb3, k3, ns, d3, hl, hw⟩
          walk_at "el"
          refine ⟨D, _, rfl, .inl ⟨SqL.of d3, fun l hl2 => ?_⟩⟩
          exact ⟨hb3.same (nw_of hl2 _), hK.kp ((kn.trans k3).trans (same_kp (nw_of hl2 _))), l, ns, ⟨Bag.ne hb3 hl2, upd_same, hw, by omega⟩, rfl⟩
      rintro σ' H5 ⟨hb5, hK, pt, ns, hI, rfl⟩
      clear hb4 hm
      have okA : ∀ y ∈ ws, okS y ∧ y ≠ "" ∧ y.length ≤ 5 := fun y hy => ⟨(kind_free (hK.2.2.1 y hy)).1, (kind_free (hK.2.2.1 y hy)).2.1, (kind_free (hK.2.2.1 y hy)).2.2.1⟩
      have okB : ∀ y ∈ ns.map showI, okS y ∧ y ≠ "" ∧ y.length ≤ 41 := fun y hy => by
        obtain ⟨n, hn, rfl⟩ := List.mem_map.mp hy
        exact ⟨show_okS n, show_ne n, showI_len (hI.2.2.1 n hn)⟩
      have hsA : (ws.map (·.length)).sum ≤ ws.length * 5 := StrLaws.sumLen_le ws fun y hy => (okA y hy).2.2
      have hsB : ((ns.map showI).map (·.length)).sum ≤ ns.length * 41 := by
        have := StrLaws.sumLen_le (B := 41) (ns.map showI) fun y hy => (okB y hy).2.2
        rw [List.length_map] at this; exact this
      have lK := hK.2.2.2
      have lI := hI.2.2.2
      refine a_cut (fun σ' H' => Bag H' b c ∧ KsAt b pk H' ws ∧ IsAt b pt H' ns ∧ ∃ px : Addr, px ≠ b ∧ H' px = some (.lst [.str (Txt.join sp1 ws), .str (Txt.join sp1 (ns.map showI))]) ∧ σ' = [some (.ref a), some (.ref b), some (.int (0 + i)), some (.ref pk), none, some (.ref pm), some (.ref pt), some (.ref px), none, none, v10, v11, v12, v13]) ?_ ?_
      · walk_at "el"
        have e1 : sp1.length = 1 := rfl
        unfold tM1
        walk_at "el"
        refine ⟨⟨_, rfl⟩, ?_⟩
        walk_at "el"
        refine ⟨sp1, pk, ws, congrArg V.str sp_eq, rfl, .inr (SqT.of hK.2.1), by rw [e1]; omega, ?_⟩
        walk_at "el"
        refine ⟨⟨_, rfl⟩, ?_⟩
        walk_at "el"
        refine .inr ?_
        walk_at "el"
        refine ⟨pt, rfl, ⟨_, SqT.of hI.2.1⟩, fun D hD => ?_⟩
        have e0 := nw_of hD (.lst [])
        refine lc_of (walk_tup (xs := ns.map V.int)) (fun i H2 => Same H5 H2 ∧ H2 D = some (.lst (((ns.take i).map showI).map V.str))) ⟨e0, upd_same⟩ (fun i H3 hi h => (SqT.of hI.2.1).same h.1) ?_ ?_
        · rintro i x H2 H3 hi ⟨s2, d2⟩ ⟨rfl, hx⟩
          obtain ⟨n, hn1, rfl⟩ : ∃ n, ns[i]? = some n ∧ V.int n = x := by simpa [List.getElem?_map] using hx
          have lg := hI.2.2.1 n (List.mem_of_getElem? hn1)
          walk_at "el"
          refine ⟨rfl, ?_⟩
          walk_at "el"
          refine ⟨log_of (Nat.lt_trans lg (by decide +kernel)), ?_⟩
          refine ⟨_, d2, ?_, L2.Same.mu s2 hD, ?_⟩
          · have : sizeLine = 16777216 := rfl
            rw [List.length_map, List.length_map, List.length_take]; omega
          · rw [upd_same, take_next hn1, List.map_append, List.map_append]; rfl
        · rintro H2 ⟨s2, d2⟩
          rw [List.length_map, List.take_length] at d2
          walk_at "el"
          refine ⟨sp1, D, ns.map showI, congrArg V.str sp_eq, rfl, .inl (SqL.of d2), by rw [e1, List.length_map]; omega, ?_⟩
          walk_at "el"
          refine ⟨by show 2 ≤ sizeLine; decide, fun px hpx => ?_⟩
          have k52 : Kp b H5 _ := same_kp (s2.trans (nw_of hpx (.lst [.str (Txt.join sp1 ws), .str (Txt.join sp1 (ns.map showI))])))
          exact ⟨hb5.same (s2.trans (nw_of hpx _)), hK.kp k52, hI.kp k52, px, Bag.ne (hb5.same s2) hpx, upd_same, rfl⟩
      rintro σ' H6 ⟨hb6, hK, hI, px, nx, hx, rfl⟩
      refine a_cut (fun σ' H' => Bag H' b c ∧ KsAt b pk H' ws ∧ IsAt b pt H' ns ∧ ∃ px : Addr, px ≠ b ∧ H' px = some (.lst [.str (tA ws), .str (tB ns)]) ∧ σ' = [some (.ref a), some (.ref b), some (.int (0 + i)), some (.ref pk), none, some (.ref pm), some (.ref pt), some (.ref px), none, none, v10, v11, v12, v13]) ?_ ?_
      · walk_at "el"
        refine .inl ?_
        walk_at "el"
        refine ⟨px, rfl, ⟨_, SqL.of hx⟩, fun D hD => ?_⟩
        have e0 := nw_of hD (.lst [])
        refine lc_of (walk_list (xs := [Txt.join sp1 ws, Txt.join sp1 (ns.map showI)].map V.str)) (fun i H2 => Same H6 H2 ∧ H2 D = some (.lst ((([Txt.join sp1 ws, Txt.join sp1 (ns.map showI)].take i).map nnS).map V.str))) ⟨e0, upd_same⟩ (fun i H3 hi h => SqL.of (h.1 _ _ hx)) ?_ ?_
        · rintro i x H2 H3 hi ⟨s2, d2⟩ ⟨rfl, hx⟩
          obtain ⟨t, ht, rfl⟩ : ∃ t, [Txt.join sp1 ws, Txt.join sp1 (ns.map showI)][i]? = some t ∧ V.str t = x := by simpa only [List.getElem?_map, Option.map_eq_some_iff] using hx
          have hlen : ((([Txt.join sp1 ws, Txt.join sp1 (ns.map showI)].take i).map nnS).map V.str).length < sizeLine := by
            have : sizeLine = 16777216 := rfl
            rw [List.length_map, List.length_map, List.length_take]
            show min i 2 < sizeLine
            omega
          walk_at "el"
          refine ⟨rfl, ?_⟩
          walk_at "el"
          by_cases h0 : t = ""
          · have e : decide (V.str t = V.str "") = true := decide_eq_true (congrArg V.str h0)
            rw [e]
            walk_at "el"
            refine ⟨_, d2, hlen, L2.Same.mu s2 hD, ?_⟩
            rw [upd_same, take_next ht, List.map_append, List.map_append]
            have en : nnS t = "none" := by unfold nnS; rw [if_pos h0]
            show _ = some (HO.lst (_ ++ [V.str (nnS t)]))
            rw [en]
          · have e : decide (V.str t = V.str "") = false := decide_eq_false fun c => h0 (V.str.inj c)
            rw [e]
            walk_at "el"
            refine ⟨_, d2, hlen, L2.Same.mu s2 hD, ?_⟩
            rw [upd_same, take_next ht, List.map_append, List.map_append]
            have en : nnS t = t := by unfold nnS; rw [if_neg h0]
            show _ = some (HO.lst (_ ++ [V.str (nnS t)]))
            rw [en]
        · rintro H2 ⟨s2, d2⟩
          walk_at "el"
          have eA : nnS (Txt.join sp1 ws) = tA ws := nn_join fun y hy => (okA y hy).2.1
          have eB : nnS (Txt.join sp1 (ns.map showI)) = tB ns := by
            rw [nn_join fun y hy => (okB y hy).2.1]
            unfold tB
            cases ns <;> simp
          have d3 : H2 D = some (.lst [.str (tA ws), .str (tB ns)]) := by rw [← eA, ← eB]; exact d2
          exact ⟨hb6.same s2, hK.kp (same_kp s2), hI.kp (same_kp s2), D, Bag.ne hb6 hD, d3, rfl⟩
      rintro σ' H7 ⟨hb7, hK, hI, px, nx, hx, rfl⟩
      have tAo : (tA ws).length ≤ 1000 ∧ okS (tA ws) := by
        unfold tA
        split
        · exact ⟨by decide +kernel, (lit_ok (by decide +kernel)).2⟩
        · exact ⟨by have := join_len (ws := ws); omega, join_okS fun y hy => (okA y hy).1⟩
      have tBo : (tB ns).length ≤ 1000 ∧ okS (tB ns) := by
        unfold tB
        split
        · exact ⟨by decide +kernel, (lit_ok (by decide +kernel)).2⟩
        · exact ⟨by have := join_len (ws := ns.map showI); rw [List.length_map] at this; omega, join_okS fun y hy => (okB y hy).1⟩
      walk_at "el"
      refine ⟨pk, ws, rfl, SqT.of hK.2.1, by omega, fun H8 s8 => ?_⟩
      walk_at "el"
      refine ⟨pt, ns, rfl, SqT.of ((hI.kp (same_kp s8)).2.1), by omega, hI.2.2.1, fun H9 s9 => ?_⟩
      walk_at "el"
      refine ⟨by show 2 ≤ sizeLine; decide, fun p hp => ?_⟩
      rw [show (if ws = [] then ("none" : Str) else Txt.join sp1 ws) = tA ws from rfl, show (if ns = [] then ("none" : Str) else Txt.join sp1 (ns.map showI)) = tB ns from rfl]
      have e1 := nw_of hp (.lst [.str (tA ws), .str (tB ns)])
      have s79 : Same H7 _ := (s8.trans s9).trans e1
      have hshp := shp_strs (zs := [tA ws, tB ns]) (by intro y hy; simp at hy; rcases hy with rfl | rfl; exact tAo.2; exact tBo.2)
      walk_at "el"
      refine n_neD (d := .list [.str (tA ws), .str (tB ns)]) (e := .list [.str (tA ws), .str (tB ns)]) (.lst (SqL.of upd_same) (.cons (.str _) (.cons (.str _) .nil))) (.lst (SqL.of (s79 _ _ hx)) (.cons (.str _) (.cons (.str _) .nil))) hshp hshp ?_
      have eqr : PyData.eqv (.list [.str (tA ws), .str (tB ns)]) (.list [.str (tA ws), .str (tB ns)]) = true := PySem.SeqAt.eqv_refl _ (Bool.and_eq_true_iff.mp hshp).1
      rw [eqr]
      have hb9 := hb7.same s79
      have hK9 := hK.kp (same_kp s79)
      have hI9 := hI.kp (same_kp s79)
      have hx9 := s79 _ _ hx
      clear hb7 hK hI hx s79 eqr
      generalize upd H9 p (.lst [.str (tA ws), .str (tB ns)]) = H10 at hb9 hK9 hI9 hx9 ⊢
      walk_at "el"
      refine ⟨by show 2 ≤ sizeLine; decide, fun q hq => ?_⟩
      have eq1 := nw_of hq (.tup [.int 0, .int 1])
      have gq : upd H10 q (.tup [.int 0, .int 1]) q = some (.tup [.int 0, .int 1]) := upd_same
      have nq := Bag.ne hb9 hq
      refine ⟨q, rfl, ⟨_, SqT.of gq⟩, ?_⟩
      refine lp_it (walk_tup (xs := [.int 0, .int 1])) (fun j σ Hx => Bag Hx b c ∧ KsAt b pk Hx ws ∧ IsAt b pt Hx ns ∧ Hx px = some (.lst [.str (tA ws), .str (tB ns)]) ∧ Hx q = some (.tup [.int 0, .int 1]) ∧ ∃ w10 w11, σ = [some (.ref a), some (.ref b), some (.int (0 + i)), some (.ref pk), none, some (.ref pm), some (.ref pt), some (.ref px), none, none, w10, w11, v12, v13])
        ⟨hb9.same eq1, hK9.kp (same_kp eq1), hI9.kp (same_kp eq1), eq1 _ _ hx9, gq, _, _, rfl⟩ (fun j σ Hx hj h => SqT.of h.2.2.2.2.1) ?_ ?_
      · rintro j x σ H11 H12 hj ⟨hbj, hKj, hIj, hxj, hqj, w10, w11, rfl⟩ ⟨rfl, hxx⟩
        obtain ⟨r, hr0, rfl⟩ : ∃ r : Int, (r = 0 ∨ r = 1) ∧ x = .int r := by
          have := List.mem_of_getElem? hxx
          simp at this
          rcases this with rfl | rfl
          · exact ⟨0, .inl rfl, rfl⟩
          · exact ⟨1, .inr rfl, rfl⟩
        obtain ⟨t1, h1, o1⟩ : ∃ t, atI [V.str (tA ws), .str (tB ns)] r = some (.str t) ∧ t.length ≤ 1000 ∧ okS t := by
          rcases hr0 with rfl | rfl
          · exact ⟨_, rfl, tAo⟩
          · exact ⟨_, rfl, tBo⟩
        obtain ⟨t2, h2, o2⟩ : ∃ t, atI [V.str (tA ws), .str (tB ns)] (1 - r) = some (.str t) ∧ t.length ≤ 1000 ∧ okS t := by
          rcases hr0 with rfl | rfl
          · exact ⟨_, rfl, tBo⟩
          · exact ⟨_, rfl, tAo⟩
        walk_at "el"
        refine .inl ?_
        walk_at "el"
        refine n_ixL (SqL.of hxj) h1 ?_
        walk_at "el"
        refine n_ixL (SqL.of hxj) h2 ?_
        walk_at "el"
        refine n_ixL (SqL.of hxj) h1 ?_
        walk_at "el"
        refine ⟨b, c, t1, rfl, hbj, o1.1, o1.2, fun y1 H13 ho1 hb13 k13 => ?_⟩
        have hx13 := k13 _ _ nx hxj
        walk_at "el"
        refine n_ixL (SqL.of hx13) h1 ?_
        walk_at "el"
        refine ⟨b, c, t1, rfl, hb13, o1.1, o1.2, fun y2 H14 ho2 hb14 k14 => ?_⟩
        have k1314 := k13.trans k14
        walk_at "el"
        refine ⟨by show 4 ≤ sizeLine; decide, fun pl hpl => ?_⟩
        have eL := nw_of hpl (.lst [.str t1, .str t2, .str y1, .str y2])
        have gl : upd H14 pl (.lst [.str t1, .str t2, .str y1, .str y2]) pl = some (.lst [.str t1, .str t2, .str y1, .str y2]) := upd_same
        have kL := k1314.trans (same_kp eL)
        have hb15 := hb14.same eL
        have hK15 := hKj.kp kL
        have hI15 := hIj.kp kL
        have hx15 := kL _ _ nx hxj
        have hq15 := kL _ _ nq hqj
        clear hb14 hb13 k13 k14 k1314 eL kL hKj hIj hxj hqj hx13
        generalize upd H14 pl (.lst [.str t1, .str t2, .str y1, .str y2]) = H15 at gl hb15 hK15 hI15 hx15 hq15 ⊢
        refine ⟨pl, rfl, ⟨_, SqL.of gl⟩, ?_⟩
        have alls : ∀ x ∈ [V.str t1, .str t2, .str y1, .str y2], ∃ y, x = V.str y ∧ TxO y := all_cons ⟨_, rfl, by omega, o1.2⟩ (all_cons ⟨_, rfl, by omega, o2.2⟩ (all_cons ⟨_, rfl, ho1⟩ (all_cons ⟨_, rfl, ho2⟩ all_nil)))
        refine lp_it (walk_list (xs := [.str t1, .str t2, .str y1, .str y2])) (fun j σ Hx => Same H15 Hx ∧ ∃ w11, σ = [some (.ref a), some (.ref b), some (.int (0 + i)), some (.ref pk), none, some (.ref pm), some (.ref pt), some (.ref px), none, none, some (.int r), w11, v12, v13]) ⟨Same.refl _, _, rfl⟩ (fun j σ Hx hj h => SqL.of (h.1 _ _ gl)) ?_ ?_
        · rintro j2 x σ H16 H17 hj2 ⟨s16, w12, rfl⟩ ⟨rfl, hy⟩
          obtain ⟨y, rfl, hty⟩ := alls x (List.mem_of_getElem? hy)
          have hfi : Fine (oD r (.str y)) := oD_fine fun z hz => by cases hz; exact hty
          walk_at "el"
          refine ⟨r, .str y, rfl, hr0, .str _, fun z hz => by cases hz; exact hty, fun H18 v s18 tv => ?_⟩
          walk_at "el"
          refine ⟨v, _, rfl, tv, hfi, ?_⟩
          walk_at "el"
          refine ⟨r, .str y, rfl, hr0, .str _, fun z hz => by cases hz; exact hty, fun H19 v2 s19 tv2 => ?_⟩
          walk_at "el"
          refine ⟨v2, _, rfl, tv2, hfi, ?_⟩
          walk_at "el"
          rw [decide_eq_true rfl]
          walk_at "el"
          exact ⟨s16.trans (s18.trans s19), _, rfl⟩
        · rintro σ H16 ⟨s16, w12, rfl⟩
          have hb16 := hb15.same s16
          have hK16 := hK15.kp (same_kp s16)
          have hI16 := hI15.kp (same_kp s16)
          have hx16 := s16 _ _ hx15
          have hq16 := s16 _ _ hq15
          clear hb15 hK15 hI15 hx15 hq15 gl hpl
          walk_at "el"
          refine ⟨by show 1 ≤ sizeLine; decide, fun i1 hi1 => ?_⟩
          have e1 := nw_of hi1
          walk_at "el"
          intro d1 hd1
          have e2 := nw_of hd1
          walk_at "el"
          refine ⟨by show 7 ≤ sizeLine; decide, fun pl2 hpl2 => ?_⟩
          have e3 := nw_of hpl2
          walk_at "el"
          refine ⟨b, c, pl2, _, rfl, hb16.same (fun a u h => e3 _ _ _ (e2 _ _ _ (e1 _ _ _ h))), Bag.ne (hb16.same (fun a u h => e2 _ _ _ (e1 _ _ _ h))) hpl2, .inl upd_same, by show 0 < 7; decide, by show 7 ≤ 1000000000; decide, fun x H18 hx hb18 k18 => ?_⟩
          have k618 : Kp b H16 H18 := Kp.into k18 (fun a u h => e3 _ _ _ (e2 _ _ _ (e1 _ _ _ h)))
          have hK18 := hK16.kp k618
          have hI18 := hI16.kp k618
          have nd1 : d1 ≠ b := Bag.ne (hb16.same (fun a u h => e1 _ _ _ h)) hd1
          have ni1 : i1 ≠ b := Bag.ne hb16 hi1
          have gi1 := k18 _ _ ni1 (e3 (.lst _) _ _ (e2 (.dK []) _ _ (upd_same (H := H16) (a := i1) (o := .lst [.str (tA ws)]))))
          have gd1 := k18 _ _ nd1 (e3 (.lst _) _ _ (upd_same (a := d1) (o := .dK [])))
          have hth : Th K H18 x ∧ ∀ z, x ≠ .str z := by
            clear k18 hb18 k618
            revert x
            exact all_cons ⟨.non, fun _ h => by cases h⟩ (all_cons ⟨.int _, fun _ h => by cases h⟩ (all_cons ⟨.bl _, fun _ h => by cases h⟩ (all_cons ⟨.tup hK18.2.1, fun _ h => by cases h⟩ (all_cons ⟨.lst gi1, fun _ h => by cases h⟩ (all_cons ⟨.dct gd1, fun _ h => by cases h⟩ (all_cons ⟨.tup hI18.2.1, fun _ h => by cases h⟩ all_nil))))))
          refine ⟨r, x, rfl, hr0, hth.1, fun z hz => absurd hz (hth.2 z), fun H19 v s19 tv => ?_⟩
          have eo : oD r x = noT 1 := by
            cases x <;> first | rfl | exact absurd rfl (hth.2 _)
          rw [eo] at tv
          walk_at "el"
          refine ⟨by show 2 ≤ sizeLine; decide, fun pz hpz => ?_⟩
          have e4 := nw_of hpz (.tup [.str "NoText", .int 1])
          have hshn : SeqAt.shaped (noT 1) = true := by decide +kernel
          refine n_neD (d := noT 1) (e := noT 1) (no_dp (tv.same e4)) (.tup (SqT.of upd_same) (.cons (.str _) (.cons (.int _) .nil))) hshn hshn ?_
          rw [PySem.SeqAt.eqv_refl _ (Bool.and_eq_true_iff.mp hshn).1]
          walk_at "el"
          have kk := k618.trans (same_kp (s19.trans e4))
          exact ⟨hb18.same (s19.trans e4), hK16.kp kk, hI16.kp kk, kk _ _ nx hx16, kk _ _ nq hq16, _, _, rfl⟩
      · rintro σ H11 ⟨hbj, hKj, hIj, hxj, hqj, w10, w11, rfl⟩
        walk_at "el"
        exact ⟨hbj, _, _, _, _, _, _, _, _, _, rfl⟩
    · rintro σ H2 ⟨hb2, v2, v3, v5, v6, v7, v10, v11, v12, v13, rfl⟩
      clear hb2 hb1
      obtain ⟨mK, manyV', many_len', many_k'⟩ := many_ex
      obtain ⟨sN, someV', some_len', some_k'⟩ := some_ex
      walk_at "el"
      refine ⟨by show 3 ≤ sizeLine; decide, fun p0 hp0 => ?_⟩
      walk_at "el"
      refine ⟨p0, 500, _, rfl, rfl, SqT.of upd_same, by simp, by decide, by decide, by show 3 ≤ 1000; decide, fun pm hpm => ?_⟩
      rw [manyV']
      have gm : upd (upd H2 p0 (.tup [.str "early", .str "late", .str "late"])) pm (.tup (mK.map V.str)) pm = some (.tup (mK.map V.str)) := upd_same
      generalize upd (upd H2 p0 (.tup [.str "early", .str "late", .str "late"])) pm (.tup (mK.map V.str)) = H3 at gm ⊢
      clear hpm hp0
      unfold tTupRg tRg2
      walk_at "el"
      refine ⟨-700, 800, rfl, rfl, ⟨by decide, by decide, by decide, by decide, by decide⟩, fun ps hps => ?_⟩
      rw [someV']
      have gm := nw_of hps (.tup (sN.map V.int)) _ _ gm
      have gs : upd H3 ps (.tup (sN.map V.int)) ps = some (.tup (sN.map V.int)) := upd_same
      generalize upd H3 ps (.tup (sN.map V.int)) = H4 at gm gs ⊢
      clear hps
      have hkO : kindsO (tA mK) = .inl mK := by
        unfold tA
        rw [if_neg (by intro e; have := many_len'; rw [e] at this; cases this)]
        exact kinds_join (by rw [many_len']; decide) many_k'
      have s40 : (1000 : Nat) < 10 ^ 40 := by decide +kernel
      have htO : timesO (tB sN) = .inl sN := by
        unfold tB
        rw [if_neg (by intro e; have := some_len'; rw [e] at this; cases this)]
        exact times_join (by rw [some_len']; decide) fun n hn => Nat.lt_trans (some_k' n hn) s40
      have lA0 : (mK.map (·.length)).sum ≤ mK.length * 5 := StrLaws.sumLen_le mK fun y hy => (kind_free (many_k' y hy)).2.2.1
      have lB0 : ((sN.map showI).map (·.length)).sum ≤ sN.length * 4 := by
        have := StrLaws.sumLen_le (B := 4) (sN.map showI) fun y hy => by
          obtain ⟨n, hn, rfl⟩ := List.mem_map.mp hy
          exact show_short (some_k' n hn)
        rw [List.length_map] at this; exact this
      have ml := many_len'
      have sl := some_len'
      have lA : (tA mK).length ≤ 20000 := by
        unfold tA
        rw [if_neg (by intro e; rw [e] at ml; cases ml)]
        have := join_len (ws := mK); omega
      have lB : (tB sN).length ≤ 20000 := by
        unfold tB
        rw [if_neg (by intro e; rw [e] at sl; cases sl)]
        have := join_len (ws := sN.map showI); rw [List.length_map] at this; omega
      have hshA : SeqAt.shaped (.tuple (mK.map PyData.str)) = true := shp_strs fun y hy => (kind_free (many_k' y hy)).1
      have hshB : SeqAt.shaped (.tuple (sN.map PyData.int)) = true := shp_ints sN
      walk_at "el"
      refine ⟨pm, mK, rfl, SqT.of gm, by omega, fun H5 s5 => ?_⟩
      rw [show (if mK = [] then ("none" : Str) else Txt.join sp1 mK) = tA mK from rfl]
      generalize tA mK = za at hkO lA ⊢
      walk_at "el"
      refine ⟨.str za, rfl, .str _, fun h => absurd rfl (h _), fun z hz => ?_⟩
      obtain rfl := V.str.inj hz
      refine ⟨lA, ?_⟩
      rw [hkO]
      intro H6 p6 s6 n6 g6
      walk_at "el"
      have gm6 := s6 _ _ (s5 _ _ gm)
      have gs6 := s6 _ _ (s5 _ _ gs)
      refine n_eqD (.tup (SqT.of g6) (dp_strs _)) (.tup (SqT.of gm6) (dp_strs _)) hshA hshA ?_
      rw [PySem.SeqAt.eqv_refl _ (Bool.and_eq_true_iff.mp hshA).1]
      walk_at "el"
      refine ⟨ps, sN, rfl, SqT.of gs6, by omega, fun n hn => Nat.lt_trans (some_k' n hn) s40, fun H7 s7 => ?_⟩
      rw [show (if sN = [] then ("none" : Str) else Txt.join sp1 (sN.map showI)) = tB sN from rfl]
      generalize tB sN = zb at htO lB ⊢
      walk_at "el"
      refine ⟨.str zb, rfl, .str _, fun h => absurd rfl (h _), fun z hz => ?_⟩
      obtain rfl := V.str.inj hz
      refine ⟨lB, ?_⟩
      rw [htO]
      intro H8 p8 s8 n8 g8
      walk_at "el"
      have gs8 := s8 _ _ (s7 _ _ gs6)
      refine n_eqD (.tup (SqT.of g8) (dp_intsL _)) (.tup (SqT.of gs8) (dp_intsL _)) hshB hshB ?_
      rw [PySem.SeqAt.eqv_refl _ (Bool.and_eq_true_iff.mp hshB).1]
      exact k _
end
end EL

/- part K93Z -/
namespace EL
open PySem PySem.Spec PyProof.Rows L2
open PySem.W (Frag)
theorem exm_of {K : Frag} {N E : Addr} (he : PySem.W.subIn K (.ref E) (.type "BaseException") = some true) (hc : PySem.W.isClsIn K E = true) (ht : PySem.W.typeIn K (.ref E) = some (.type "type")) (hs : PySem.W.subIn K (.ref N) (.ref E) = some true) : PySem.W.exmOne K (.ref N) (.ref E) = some true := by
  have c1 : (PySem.W.clsIn K E).isSome = true := hc
  unfold PySem.W.exmOne
  rw [he, if_pos (by simp)]
  show (if ((PySem.W.clsIn K E).isSome && PySem.W.typeIn K (.ref E) == some (.type "type")) = true then PySem.W.subIn K (.ref N) (.ref E) else none) = _
  rw [c1, ht, if_pos (by simp)]
  exact hs
end EL

/- part M93 -/
namespace EL
open PySem PySem.Spec PyProof.Rows L2
open PySem.W (Frag)
set_option maxHeartbeats 0 in
theorem all_mk {P : Program} {w : World} {K : Frag} {h : Heap} {mg : Str → Option Value} {fa : Addr} (X : K.In h) (G : h.Ns mainGlobals mg) (hfa : mg "law" = some (.ref fa))
    {f_is_kind : Addr} {od_is_kind an_is_kind : Option Addr} {sl_is_kind : Array (Option Value)} {oc_is_kind kV_is_kind dc_is_kind pm_is_kind cd_is_kind ct_is_kind : Value}
    {f_bag : Addr} {od_bag an_bag : Option Addr} {sl_bag : Array (Option Value)} {oc_bag kV_bag dc_bag pm_bag cd_bag ct_bag : Value}
    {f_take : Addr} {od_take an_take : Option Addr} {sl_take : Array (Option Value)} {oc_take kV_take dc_take pm_take cd_take ct_take : Value}
    {f_one : Addr} {od_one an_one : Option Addr} {sl_one : Array (Option Value)} {oc_one kV_one dc_one pm_one cd_one ct_one : Value}
    {f_kind : Addr} {od_kind an_kind : Option Addr} {sl_kind : Array (Option Value)} {oc_kind kV_kind dc_kind pm_kind cd_kind ct_kind : Value}
    {f__row_of : Addr} {od__row_of an__row_of : Option Addr} {sl__row_of : Array (Option Value)} {oc__row_of kV__row_of dc__row_of pm__row_of cd__row_of ct__row_of : Value}
    {f_show_kinds : Addr} {od_show_kinds an_show_kinds : Option Addr} {sl_show_kinds : Array (Option Value)} {oc_show_kinds kV_show_kinds dc_show_kinds pm_show_kinds cd_show_kinds ct_show_kinds : Value}
    {f_show_times : Addr} {od_show_times an_show_times : Option Addr} {sl_show_times : Array (Option Value)} {oc_show_times kV_show_times dc_show_times pm_show_times cd_show_times ct_show_times : Value}
    {f_integer_of : Addr} {od_integer_of an_integer_of : Option Addr} {sl_integer_of : Array (Option Value)} {oc_integer_of kV_integer_of dc_integer_of pm_integer_of cd_integer_of ct_integer_of : Value}
    {f__lines_of : Addr} {od__lines_of an__lines_of : Option Addr} {sl__lines_of : Array (Option Value)} {oc__lines_of kV__lines_of dc__lines_of pm__lines_of cd__lines_of ct__lines_of : Value}
    {f__words_in : Addr} {od__words_in an__words_in : Option Addr} {sl__words_in : Array (Option Value)} {oc__words_in kV__words_in dc__words_in pm__words_in cd__words_in ct__words_in : Value}
    {f__check_only_line : Addr} {od__check_only_line an__check_only_line : Option Addr} {sl__check_only_line : Array (Option Value)} {oc__check_only_line kV__check_only_line dc__check_only_line pm__check_only_line cd__check_only_line ct__check_only_line : Value}
    {f_read_kinds : Addr} {od_read_kinds an_read_kinds : Option Addr} {sl_read_kinds : Array (Option Value)} {oc_read_kinds kV_read_kinds dc_read_kinds pm_read_kinds cd_read_kinds ct_read_kinds : Value}
    {f_read_times : Addr} {od_read_times an_read_times : Option Addr} {sl_read_times : Array (Option Value)} {oc_read_times kV_read_times dc_read_times pm_read_times cd_read_times ct_read_times : Value}
    {f_integer : Addr} {od_integer an_integer : Option Addr} {sl_integer : Array (Option Value)} {oc_integer kV_integer dc_integer pm_integer cd_integer ct_integer : Value}
    {f_due : Addr} {od_due an_due : Option Addr} {sl_due : Array (Option Value)} {oc_due kV_due dc_due pm_due cd_due ct_due : Value}
    {f_told : Addr} {od_told an_told : Option Addr} {sl_told : Array (Option Value)} {oc_told kV_told dc_told pm_told cd_told ct_told : Value}
    {f_bent : Addr} {od_bent an_bent : Option Addr} {sl_bent : Array (Option Value)} {oc_bent kV_bent dc_bent pm_bent cd_bent ct_bent : Value}
    {f_law : Addr} {od_law an_law : Option Addr} {sl_law : Array (Option Value)} {oc_law kV_law dc_law pm_law cd_law ct_law : Value}
    {tMD : Tok}
    {CE : Addr}
    {CNo fNo : Addr} {odNo anNo : Option Addr} {slNo : Array (Option Value)} {ocNo kVNo dcNo pmNo cdNo ctNo : Value} {nmNo qNo : Str} {NNo : Addr} {bsNo bmNo : List Value} {snNo : List Str} {subNo : List Value} {abNo : Bool} {colNo : Option Bool} {ddNo : Option Addr} {k0No k1No k2No k3No k5No : Option Value}
    (a_is_kind : PySem.W.nsIn K mainGlobals "is_kind" = some (some (.ref f_is_kind)))
    (l_is_kind : K.lookup f_is_kind = some ⟨oc_is_kind, od_is_kind, .func (PySem.W.fnOf "is_kind" "is_kind" (defArgs s_is_kind) (defBody s_is_kind) (defScope s_is_kind) .none kV_is_kind dc_is_kind pm_is_kind an_is_kind cd_is_kind ct_is_kind), sl_is_kind⟩)
    (c_is_kind : PySem.W.codeIn K cd_is_kind "is_kind" = true)
    (k_is_kind : PySem.W.keepIn K (.ref f_is_kind) = true)
    (a_bag : PySem.W.nsIn K mainGlobals "_law_bag" = some (some (.ref f_bag)))
    (l_bag : K.lookup f_bag = some ⟨oc_bag, od_bag, .func (PySem.W.fnOf "_law_bag" "_law_bag" (defArgs s_bag) (defBody s_bag) (defScope s_bag) .none kV_bag dc_bag pm_bag an_bag cd_bag ct_bag), sl_bag⟩)
    (c_bag : PySem.W.codeIn K cd_bag "_law_bag" = true)
    (k_bag : PySem.W.keepIn K (.ref f_bag) = true)
    (a_take : PySem.W.nsIn K mainGlobals "_law_take" = some (some (.ref f_take)))
    (l_take : K.lookup f_take = some ⟨oc_take, od_take, .func (PySem.W.fnOf "_law_take" "_law_take" (defArgs s_take) (defBody s_take) (defScope s_take) .none kV_take dc_take pm_take an_take cd_take ct_take), sl_take⟩)
    (c_take : PySem.W.codeIn K cd_take "_law_take" = true)
    (k_take : PySem.W.keepIn K (.ref f_take) = true)
    (a_one : PySem.W.nsIn K mainGlobals "_law_one" = some (some (.ref f_one)))
    (l_one : K.lookup f_one = some ⟨oc_one, od_one, .func (PySem.W.fnOf "_law_one" "_law_one" (defArgs s_one) (defBody s_one) (defScope s_one) .none kV_one dc_one pm_one an_one cd_one ct_one), sl_one⟩)
    (c_one : PySem.W.codeIn K cd_one "_law_one" = true)
    (k_one : PySem.W.keepIn K (.ref f_one) = true)
    (a_kind : PySem.W.nsIn K mainGlobals "_law_kind" = some (some (.ref f_kind)))
    (l_kind : K.lookup f_kind = some ⟨oc_kind, od_kind, .func (PySem.W.fnOf "_law_kind" "_law_kind" (defArgs s_kind) (defBody s_kind) (defScope s_kind) .none kV_kind dc_kind pm_kind an_kind cd_kind ct_kind), sl_kind⟩)
    (c_kind : PySem.W.codeIn K cd_kind "_law_kind" = true)
    (k_kind : PySem.W.keepIn K (.ref f_kind) = true)
    (a__row_of : PySem.W.nsIn K mainGlobals "_row_of" = some (some (.ref f__row_of)))
    (l__row_of : K.lookup f__row_of = some ⟨oc__row_of, od__row_of, .func (PySem.W.fnOf "_row_of" "_row_of" (defArgs s__row_of) (defBody s__row_of) (defScope s__row_of) .none kV__row_of dc__row_of pm__row_of an__row_of cd__row_of ct__row_of), sl__row_of⟩)
    (c__row_of : PySem.W.codeIn K cd__row_of "_row_of" = true)
    (k__row_of : PySem.W.keepIn K (.ref f__row_of) = true)
    (a_show_kinds : PySem.W.nsIn K mainGlobals "show_kinds" = some (some (.ref f_show_kinds)))
    (l_show_kinds : K.lookup f_show_kinds = some ⟨oc_show_kinds, od_show_kinds, .func (PySem.W.fnOf "show_kinds" "show_kinds" (defArgs s_show_kinds) (defBody s_show_kinds) (defScope s_show_kinds) .none kV_show_kinds dc_show_kinds pm_show_kinds an_show_kinds cd_show_kinds ct_show_kinds), sl_show_kinds⟩)
    (c_show_kinds : PySem.W.codeIn K cd_show_kinds "show_kinds" = true)
    (k_show_kinds : PySem.W.keepIn K (.ref f_show_kinds) = true)
    (a_show_times : PySem.W.nsIn K mainGlobals "show_times" = some (some (.ref f_show_times)))
    (l_show_times : K.lookup f_show_times = some ⟨oc_show_times, od_show_times, .func (PySem.W.fnOf "show_times" "show_times" (defArgs s_show_times) (defBody s_show_times) (defScope s_show_times) .none kV_show_times dc_show_times pm_show_times an_show_times cd_show_times ct_show_times), sl_show_times⟩)
    (c_show_times : PySem.W.codeIn K cd_show_times "show_times" = true)
    (k_show_times : PySem.W.keepIn K (.ref f_show_times) = true)
    (a_integer_of : PySem.W.nsIn K mainGlobals "integer_of" = some (some (.ref f_integer_of)))
    (l_integer_of : K.lookup f_integer_of = some ⟨oc_integer_of, od_integer_of, .func (PySem.W.fnOf "integer_of" "integer_of" (defArgs s_integer_of) (defBody s_integer_of) (defScope s_integer_of) .none kV_integer_of dc_integer_of pm_integer_of an_integer_of cd_integer_of ct_integer_of), sl_integer_of⟩)
    (c_integer_of : PySem.W.codeIn K cd_integer_of "integer_of" = true)
    (k_integer_of : PySem.W.keepIn K (.ref f_integer_of) = true)
    (a__lines_of : PySem.W.nsIn K mainGlobals "_lines_of" = some (some (.ref f__lines_of)))
    (l__lines_of : K.lookup f__lines_of = some ⟨oc__lines_of, od__lines_of, .func (PySem.W.fnOf "_lines_of" "_lines_of" (defArgs s__lines_of) (defBody s__lines_of) (defScope s__lines_of) .none kV__lines_of dc__lines_of pm__lines_of an__lines_of cd__lines_of ct__lines_of), sl__lines_of⟩)
    (c__lines_of : PySem.W.codeIn K cd__lines_of "_lines_of" = true)
    (k__lines_of : PySem.W.keepIn K (.ref f__lines_of) = true)
    (a__words_in : PySem.W.nsIn K mainGlobals "_words_in" = some (some (.ref f__words_in)))
    (l__words_in : K.lookup f__words_in = some ⟨oc__words_in, od__words_in, .func (PySem.W.fnOf "_words_in" "_words_in" (defArgs s__words_in) (defBody s__words_in) (defScope s__words_in) .none kV__words_in dc__words_in pm__words_in an__words_in cd__words_in ct__words_in), sl__words_in⟩)
    (c__words_in : PySem.W.codeIn K cd__words_in "_words_in" = true)
    (k__words_in : PySem.W.keepIn K (.ref f__words_in) = true)
    (a__check_only_line : PySem.W.nsIn K mainGlobals "_check_only_line" = some (some (.ref f__check_only_line)))
    (l__check_only_line : K.lookup f__check_only_line = some ⟨oc__check_only_line, od__check_only_line, .func (PySem.W.fnOf "_check_only_line" "_check_only_line" (defArgs s__check_only_line) (defBody s__check_only_line) (defScope s__check_only_line) .none kV__check_only_line dc__check_only_line pm__check_only_line an__check_only_line cd__check_only_line ct__check_only_line), sl__check_only_line⟩)
    (c__check_only_line : PySem.W.codeIn K cd__check_only_line "_check_only_line" = true)
    (k__check_only_line : PySem.W.keepIn K (.ref f__check_only_line) = true)
    (a_read_kinds : PySem.W.nsIn K mainGlobals "read_kinds" = some (some (.ref f_read_kinds)))
    (l_read_kinds : K.lookup f_read_kinds = some ⟨oc_read_kinds, od_read_kinds, .func (PySem.W.fnOf "read_kinds" "read_kinds" (defArgs s_read_kinds) (defBody s_read_kinds) (defScope s_read_kinds) .none kV_read_kinds dc_read_kinds pm_read_kinds an_read_kinds cd_read_kinds ct_read_kinds), sl_read_kinds⟩)
    (c_read_kinds : PySem.W.codeIn K cd_read_kinds "read_kinds" = true)
    (k_read_kinds : PySem.W.keepIn K (.ref f_read_kinds) = true)
    (a_read_times : PySem.W.nsIn K mainGlobals "read_times" = some (some (.ref f_read_times)))
    (l_read_times : K.lookup f_read_times = some ⟨oc_read_times, od_read_times, .func (PySem.W.fnOf "read_times" "read_times" (defArgs s_read_times) (defBody s_read_times) (defScope s_read_times) .none kV_read_times dc_read_times pm_read_times an_read_times cd_read_times ct_read_times), sl_read_times⟩)
    (c_read_times : PySem.W.codeIn K cd_read_times "read_times" = true)
    (k_read_times : PySem.W.keepIn K (.ref f_read_times) = true)
    (a_integer : PySem.W.nsIn K mainGlobals "_law_integer" = some (some (.ref f_integer)))
    (l_integer : K.lookup f_integer = some ⟨oc_integer, od_integer, .func (PySem.W.fnOf "_law_integer" "_law_integer" (defArgs s_integer) (defBody s_integer) (defScope s_integer) .none kV_integer dc_integer pm_integer an_integer cd_integer ct_integer), sl_integer⟩)
    (c_integer : PySem.W.codeIn K cd_integer "_law_integer" = true)
    (k_integer : PySem.W.keepIn K (.ref f_integer) = true)
    (a_due : PySem.W.nsIn K mainGlobals "_law_due" = some (some (.ref f_due)))
    (l_due : K.lookup f_due = some ⟨oc_due, od_due, .func (PySem.W.fnOf "_law_due" "_law_due" (defArgs s_due) (defBody s_due) (defScope s_due) .none kV_due dc_due pm_due an_due cd_due ct_due), sl_due⟩)
    (c_due : PySem.W.codeIn K cd_due "_law_due" = true)
    (k_due : PySem.W.keepIn K (.ref f_due) = true)
    (a_told : PySem.W.nsIn K mainGlobals "_law_told" = some (some (.ref f_told)))
    (l_told : K.lookup f_told = some ⟨oc_told, od_told, .func (PySem.W.fnOf "_law_told" "_law_told" (defArgs s_told) (defBody s_told) (defScope s_told) .none kV_told dc_told pm_told an_told cd_told ct_told), sl_told⟩)
    (c_told : PySem.W.codeIn K cd_told "_law_told" = true)
    (k_told : PySem.W.keepIn K (.ref f_told) = true)
    (a_bent : PySem.W.nsIn K mainGlobals "_law_bent" = some (some (.ref f_bent)))
    (l_bent : K.lookup f_bent = some ⟨oc_bent, od_bent, .func (PySem.W.fnOf "_law_bent" "_law_bent" (defArgs s_bent) (defBody s_bent) (defScope s_bent) .none kV_bent dc_bent pm_bent an_bent cd_bent ct_bent), sl_bent⟩)
    (c_bent : PySem.W.codeIn K cd_bent "_law_bent" = true)
    (k_bent : PySem.W.keepIn K (.ref f_bent) = true)
    (a_law : PySem.W.nsIn K mainGlobals "law" = some (some (.ref f_law)))
    (l_law : K.lookup f_law = some ⟨oc_law, od_law, .func (PySem.W.fnOf "law" "law" (defArgs s_law) (defBody s_law) (defScope s_law) .none kV_law dc_law pm_law an_law cd_law ct_law), sl_law⟩)
    (c_law : PySem.W.codeIn K cd_law "law" = true)
    (k_law : PySem.W.keepIn K (.ref f_law) = true)
    (z_len : PySem.W.nsIn K mainGlobals "len" = some none)
    (z_isinstance : PySem.W.nsIn K mainGlobals "isinstance" = some none)
    (z_int : PySem.W.nsIn K mainGlobals "int" = some none)
    (z_bool : PySem.W.nsIn K mainGlobals "bool" = some none)
    (z_str : PySem.W.nsIn K mainGlobals "str" = some none)
    (z_list : PySem.W.nsIn K mainGlobals "list" = some none)
    (z_tuple : PySem.W.nsIn K mainGlobals "tuple" = some none)
    (z_range : PySem.W.nsIn K mainGlobals "range" = some none)
    (z_enumerate : PySem.W.nsIn K mainGlobals "enumerate" = some none)
    (z_zip : PySem.W.nsIn K mainGlobals "zip" = some none)
    (z_abs : PySem.W.nsIn K mainGlobals "abs" = some none)
    (z_repr : PySem.W.nsIn K mainGlobals "repr" = some none)
    (z_min : PySem.W.nsIn K mainGlobals "min" = some none)
    (z_max : PySem.W.nsIn K mainGlobals "max" = some none)
    (z_sum : PySem.W.nsIn K mainGlobals "sum" = some none)
    (z_all : PySem.W.nsIn K mainGlobals "all" = some none)
    (gMD : PySem.W.nsIn K mainGlobals "MOST_DIGITS" = some (some (.int 40 tMD)))
    (aE : PySem.W.nsIn K mainGlobals "CaseError" = some (some (.ref CE)))
    (yeE : PySem.W.subIn K (.ref CE) (.type "BaseException") = some true)
    (yiE : PySem.W.isClsIn K CE = true)
    (ytE : PySem.W.typeIn K (.ref CE) = some (.type "type"))
    (aNo : PySem.W.nsIn K mainGlobals "NoText" = some (some (.ref CNo)))
    (iNo : PySem.W.findIn K (.ref CNo) "__init__" = some (some (.ref fNo)))
    (tNo : PySem.W.typeIn K (.ref fNo) = some (.type "function"))
    (lNo : K.lookup fNo = some ⟨ocNo, odNo, .func (PySem.W.fnOf "__init__" "NoText.__init__" (defArgs s_NoText_init) (defBody s_NoText_init) (defScope s_NoText_init) .none kVNo dcNo pmNo anNo cdNo ctNo), slNo⟩)
    (cNo : PySem.W.codeIn K cdNo "NoText.__init__" = true)
    (kNo : PySem.W.keepIn K (.ref fNo) = true)
    (xlNo : K.lookup CNo = some (excClassObj nmNo qNo CNo NNo bsNo bmNo true snNo subNo abNo colNo ddNo k0No k1No k2No k3No k5No "ValueError.__new__"))
    (xvNo : PySem.HandSPX.refsVE bmNo = true)
    (xsNo : PySem.W.findIn K (.ref CNo) "__setattr__" = some (some (.builtin "object.__setattr__")))
    (xeNo : PySem.W.subIn K (.ref CNo) (.type "BaseException") = some true)
    (xtNo : PySem.W.typeIn K (.ref CNo) = some (.type "type"))
    (xkNo : PySem.W.keepIn K (.ref CNo) = true)
    (xgNo : PySem.W.findIn K (.ref CNo) "__getattribute__" = some (some (.builtin "BaseException.__getattribute__")))
    (xaNo : PySem.W.findIn K (.ref CNo) "__getattr__" = some none)
    (xhNo : PySem.W.hasDictIn K CNo = true)
    (xcNo : PySem.W.findIn K (.ref CNo) "__class__" = some (some (.builtin "object.__class__")))
    (xoNo : PySem.W.mroIn K CNo (.type "object") = some true)
    (xiNo : PySem.W.isClsIn K CNo = true)
    (ysNo : PySem.W.subIn K (.ref CNo) (.ref CE) = some true)
    (x0No : PySem.W.findIn K (.ref CNo) "line" = some none)
    (sNN : PySem.W.subIn K (.ref CNo) (.ref CNo) = some true) :
    ∃ fd : FuncData, (∀ (s : Shared) (v : Value), BindsTo s fd ⟨[v], []⟩ [("_law_script", v)]) ∧ ∀ base : Heap, K.In base → base.Ns mainGlobals mg → FnG P w K mg base CX0 6 fa fd ["_law_script"] (spLaw K) := by
  have e := hfa.symm.trans (PySem.W.mg_of X G a_law)
  cases e
  have F_is_kind := fun_mk (st := s_is_kind) l_is_kind c_is_kind k_is_kind
  have b_is_kind := F_is_kind.binds (ps := ["thing"]) fun _ _ _ _ _ _ us hl => match us, hl with | [_], _ => rfl
  have F_bag := fun_mk (st := s_bag) l_bag c_bag k_bag
  have b_bag := F_bag.binds (ps := ["_law_script"]) fun _ _ _ _ _ _ us hl => match us, hl with | [_], _ => rfl
  have F_take := fun_mk (st := s_take) l_take c_take k_take
  have b_take := F_take.binds (ps := ["_law_bag_here", "_law_many"]) fun _ _ _ _ _ _ us hl => match us, hl with | [_, _], _ => rfl
  have F_one := fun_mk (st := s_one) l_one c_one k_one
  have b_one := F_one.binds (ps := ["_law_bag_here", "_law_menu"]) fun _ _ _ _ _ _ us hl => match us, hl with | [_, _], _ => rfl
  have F_kind := fun_mk (st := s_kind) l_kind c_kind k_kind
  have b_kind := F_kind.binds (ps := ["_law_bag_here"]) fun _ _ _ _ _ _ us hl => match us, hl with | [_], _ => rfl
  have F__row_of := fun_mk (st := s__row_of) l__row_of c__row_of k__row_of
  have b__row_of := F__row_of.binds (ps := ["words"]) fun _ _ _ _ _ _ us hl => match us, hl with | [_], _ => rfl
  have F_show_kinds := fun_mk (st := s_show_kinds) l_show_kinds c_show_kinds k_show_kinds
  have b_show_kinds := F_show_kinds.binds (ps := ["kinds"]) fun _ _ _ _ _ _ us hl => match us, hl with | [_], _ => rfl
  have F_show_times := fun_mk (st := s_show_times) l_show_times c_show_times k_show_times
  have b_show_times := F_show_times.binds (ps := ["times"]) fun _ _ _ _ _ _ us hl => match us, hl with | [_], _ => rfl
  have F_integer_of := fun_mk (st := s_integer_of) l_integer_of c_integer_of k_integer_of
  have b_integer_of := F_integer_of.binds (ps := ["word"]) fun _ _ _ _ _ _ us hl => match us, hl with | [_], _ => rfl
  have F__lines_of := fun_mk (st := s__lines_of) l__lines_of c__lines_of k__lines_of
  have b__lines_of := F__lines_of.binds (ps := ["text"]) fun _ _ _ _ _ _ us hl => match us, hl with | [_], _ => rfl
  have F__words_in := fun_mk (st := s__words_in) l__words_in c__words_in k__words_in
  have b__words_in := F__words_in.binds (ps := ["line"]) fun _ _ _ _ _ _ us hl => match us, hl with | [_], _ => rfl
  have F__check_only_line := fun_mk (st := s__check_only_line) l__check_only_line c__check_only_line k__check_only_line
  have b__check_only_line := F__check_only_line.binds (ps := ["lines"]) fun _ _ _ _ _ _ us hl => match us, hl with | [_], _ => rfl
  have F_read_kinds := fun_mk (st := s_read_kinds) l_read_kinds c_read_kinds k_read_kinds
  have b_read_kinds := F_read_kinds.binds (ps := ["text"]) fun _ _ _ _ _ _ us hl => match us, hl with | [_], _ => rfl
  have F_read_times := fun_mk (st := s_read_times) l_read_times c_read_times k_read_times
  have b_read_times := F_read_times.binds (ps := ["text"]) fun _ _ _ _ _ _ us hl => match us, hl with | [_], _ => rfl
  have F_integer := fun_mk (st := s_integer) l_integer c_integer k_integer
  have b_integer := F_integer.binds (ps := ["_law_word", "_law_digits"]) fun _ _ _ _ _ _ us hl => match us, hl with | [_, _], _ => rfl
  have F_due := fun_mk (st := s_due) l_due c_due k_due
  have b_due := F_due.binds (ps := ["_law_road", "_law_text"]) fun _ _ _ _ _ _ us hl => match us, hl with | [_, _], _ => rfl
  have F_told := fun_mk (st := s_told) l_told c_told k_told
  have b_told := F_told.binds (ps := ["_law_road", "_law_text"]) fun _ _ _ _ _ _ us hl => match us, hl with | [_, _], _ => rfl
  have F_bent := fun_mk (st := s_bent) l_bent c_bent k_bent
  have b_bent := F_bent.binds (ps := ["_law_bag_here", "_law_text"]) fun _ _ _ _ _ _ us hl => match us, hl with | [_, _], _ => rfl
  have F_law := fun_mk (st := s_law) l_law c_law k_law
  have b_law := F_law.binds (ps := ["_law_script"]) fun _ _ _ _ _ _ us hl => match us, hl with | [_], _ => rfl
  have B : Bi mg := ⟨PySem.W.mg_none_of X G z_len, PySem.W.mg_none_of X G z_isinstance, PySem.W.mg_none_of X G z_int, PySem.W.mg_none_of X G z_bool, PySem.W.mg_none_of X G z_str, PySem.W.mg_none_of X G z_list, PySem.W.mg_none_of X G z_tuple, PySem.W.mg_none_of X G z_range, PySem.W.mg_none_of X G z_enumerate, PySem.W.mg_none_of X G z_zip, PySem.W.mg_none_of X G z_abs, PySem.W.mg_none_of X G z_repr, PySem.W.mg_none_of X G z_min, PySem.W.mg_none_of X G z_max, PySem.W.mg_none_of X G z_sum, PySem.W.mg_none_of X G z_all⟩
  have Tl : Tb mg := ⟨B⟩
  have kMD : ∃ u, mg "MOST_DIGITS" = some u ∧ L2.RelV (.int 40) u := ⟨_, PySem.W.mg_of X G gMD, ⟨_, rfl⟩⟩
  have F_No := fun_mk (st := s_NoText_init) lNo cNo kNo
  have b_No := F_No.binds (ps := ["self", "line"]) fun _ _ _ _ _ _ us hl => match us, hl with | [_, _], _ => rfl
  have ONo : OexC K CNo := ⟨⟨_, _, _, _, _, _, _, _, _, _, _, _, _, _, _, xlNo, xvNo⟩, xsNo, xeNo, xtNo, xkNo⟩
  have xmNo := exm_of yeE yiE ytE ysNo
  have XFNo : XfC K CNo := ⟨xgNo, xaNo, xeNo, xhNo⟩
  have xmS := exm_of xeNo xiNo xtNo sNN
  refine ⟨PySem.W.fnOf "law" "law" (defArgs s_law) (defBody s_law) (defScope s_law) .none kV_law dc_law pm_law an_law cd_law ct_law, fun s v => .of_eq rfl, fun base _ _ => ?_⟩
  have ENo : ErrG P w K mg base "NoText" CNo ["self", "line"] (spErr1 CNo "line") := ⟨⟨_, _, iNo, tNo, ok_NoText F_No ONo x0No, b_No⟩, ONo, PySem.W.mg_of X G aNo⟩
  have h_is_kind : Cal P w K mg base CX0 1 "is_kind" ["thing"] (spB kindB K) := ⟨_, _, PySem.W.mg_of X G a_is_kind, k_is_kind, b_is_kind, ok_kind93 F_is_kind Tl⟩
  have h_bag : Cal P w K mg base CX0 1 "_law_bag" ["_law_script"] (spBag K) := ⟨_, _, PySem.W.mg_of X G a_bag, k_bag, b_bag, ok_bag F_bag Tl⟩
  have h_take : Cal P w K mg base CX0 1 "_law_take" ["_law_bag_here", "_law_many"] spTake := ⟨_, _, PySem.W.mg_of X G a_take, k_take, b_take, ok_take F_take Tl⟩
  have h_one : Cal P w K mg base CX0 2 "_law_one" ["_law_bag_here", "_law_menu"] (spOne K) := ⟨_, _, PySem.W.mg_of X G a_one, k_one, b_one, ok_one F_one Tl h_take⟩
  have h_kind : Cal P w K mg base CX0 2 "_law_kind" ["_law_bag_here"] spKnd := ⟨_, _, PySem.W.mg_of X G a_kind, k_kind, b_kind, ok_kind F_kind Tl h_take⟩
  have h__row_of : Cal P w K mg base CX0 1 "_row_of" ["words"] (spRow K) := ⟨_, _, PySem.W.mg_of X G a__row_of, k__row_of, b__row_of, ok_row_of F__row_of Tl⟩
  have h_show_kinds : Cal P w K mg base CX0 2 "show_kinds" ["kinds"] (spShK K) := ⟨_, _, PySem.W.mg_of X G a_show_kinds, k_show_kinds, b_show_kinds, ok_show_kinds F_show_kinds Tl h__row_of⟩
  have h_show_times : Cal P w K mg base CX0 2 "show_times" ["times"] (spShT K) := ⟨_, _, PySem.W.mg_of X G a_show_times, k_show_times, b_show_times, ok_show_times F_show_times Tl h__row_of⟩
  have h_integer_of : Cal P w K mg base CX0 1 "integer_of" ["word"] spIo := ⟨_, _, PySem.W.mg_of X G a_integer_of, k_integer_of, b_integer_of, ok_integer_of F_integer_of Tl kMD⟩
  have h__lines_of : Cal P w K mg base (L2.CX P w) 3 "_lines_of" ["text"] (spLo K CNo) := ⟨_, _, PySem.W.mg_of X G a__lines_of, k__lines_of, b__lines_of, ok_lines_of F__lines_of Tl ENo⟩
  have h__words_in : Cal P w K mg base CX0 1 "_words_in" ["line"] spWi := ⟨_, _, PySem.W.mg_of X G a__words_in, k__words_in, b__words_in, ok_words_in F__words_in Tl⟩
  have h__check_only_line : Cal P w K mg base (L2.CX P w) 3 "_check_only_line" ["lines"] (spCl K CNo) := ⟨_, _, PySem.W.mg_of X G a__check_only_line, k__check_only_line, b__check_only_line, ok_check_only_line F__check_only_line Tl ENo⟩
  have h_read_kinds : Cal P w K mg base (L2.CX P w) 4 "read_kinds" ["text"] (spRk K CNo) := ⟨_, _, PySem.W.mg_of X G a_read_kinds, k_read_kinds, b_read_kinds, ok_read_kinds F_read_kinds Tl h_is_kind h__lines_of h__words_in h__check_only_line ENo⟩
  have h_read_times : Cal P w K mg base (L2.CX P w) 4 "read_times" ["text"] (spRt K CNo) := ⟨_, _, PySem.W.mg_of X G a_read_times, k_read_times, b_read_times, ok_read_times F_read_times Tl h_integer_of h__lines_of h__words_in h__check_only_line ENo⟩
  have h_integer : Cal P w K mg base CX0 1 "_law_integer" ["_law_word", "_law_digits"] spLi := ⟨_, _, PySem.W.mg_of X G a_integer, k_integer, b_integer, ok_integer F_integer Tl⟩
  have h_due : Cal P w K mg base CX0 2 "_law_due" ["_law_road", "_law_text"] (spOut K) := ⟨_, _, PySem.W.mg_of X G a_due, k_due, b_due, ok_due F_due Tl h_integer⟩
  have h_told : Cal P w K mg base CX0 5 "_law_told" ["_law_road", "_law_text"] (spOut K) := ⟨_, _, PySem.W.mg_of X G a_told, k_told, b_told, ok_told F_told Tl h_read_kinds h_read_times (PySem.W.mg_of X G aNo) XFNo x0No xmS⟩
  have h_bent : Cal P w K mg base CX0 3 "_law_bent" ["_law_bag_here", "_law_text"] spBent := ⟨_, _, PySem.W.mg_of X G a_bent, k_bent, b_bent, ok_bent F_bent Tl h_take h_one⟩
  exact ok_law F_law Tl h_bag h_take h_one h_kind h_show_kinds h_show_times h_bent h_told h_due h_read_kinds h_read_times
end EL

open PySem PySem.W PyProof.Rows
set_option maxRecDepth 100000 in
set_option maxHeartbeats 0 in
theorem PySem.Challenge.cw_earlyorlate_k93_kinds_and_times_as_texts_holds : PySem.Challenge.rw_earlyorlate_k93_kinds_and_times_as_texts.Holds := by
  w_on; o_law; k_head; (case hw => w_witness2)
  k_fill
  refine EL.walk_all (l := PySem.Challenge.rw_earlyorlate_k93_kinds_and_times_as_texts) (k := 6) rfl rfl ⟨rfl, by decide, by decide⟩ (fun w h Y => PySem.W.kIn_of Y) ?F
  case F =>
    intro w mg fa h KX G hmg
    refine' EL.all_mk KX G hmg ?a_is_kind ?l_is_kind ?c_is_kind ?k_is_kind ?a_bag ?l_bag ?c_bag ?k_bag ?a_take ?l_take ?c_take ?k_take ?a_one ?l_one ?c_one ?k_one ?a_kind ?l_kind ?c_kind ?k_kind ?a__row_of ?l__row_of ?c__row_of ?k__row_of ?a_show_kinds ?l_show_kinds ?c_show_kinds ?k_show_kinds ?a_show_times ?l_show_times ?c_show_times ?k_show_times ?a_integer_of ?l_integer_of ?c_integer_of ?k_integer_of ?a__lines_of ?l__lines_of ?c__lines_of ?k__lines_of ?a__words_in ?l__words_in ?c__words_in ?k__words_in ?a__check_only_line ?l__check_only_line ?c__check_only_line ?k__check_only_line ?a_read_kinds ?l_read_kinds ?c_read_kinds ?k_read_kinds ?a_read_times ?l_read_times ?c_read_times ?k_read_times ?a_integer ?l_integer ?c_integer ?k_integer ?a_due ?l_due ?c_due ?k_due ?a_told ?l_told ?c_told ?k_told ?a_bent ?l_bent ?c_bent ?k_bent ?a_law ?l_law ?c_law ?k_law ?z_len ?z_isinstance ?z_int ?z_bool ?z_str ?z_list ?z_tuple ?z_range ?z_enumerate ?z_zip ?z_abs ?z_repr ?z_min ?z_max ?z_sum ?z_all ?gMD ?aE ?yeE ?yiE ?ytE ?aNo ?iNo ?tNo ?lNo ?cNo ?kNo ?xlNo ?xvNo ?xsNo ?xeNo ?xtNo ?xkNo ?xgNo ?xaNo ?xhNo ?xcNo ?xoNo ?xiNo ?ysNo ?x0No ?sNN
    (case a_is_kind => k_is)
    (case l_is_kind => k_is)
    (case c_is_kind => k_is)
    (case k_is_kind => k_is)
    (case a_bag => k_is)
    (case l_bag => k_is)
    (case c_bag => k_is)
    (case k_bag => k_is)
    (case a_take => k_is)
    (case l_take => k_is)
    (case c_take => k_is)
    (case k_take => k_is)
    (case a_one => k_is)
    (case l_one => k_is)
    (case c_one => k_is)
    (case k_one => k_is)
    (case a_kind => k_is)
    (case l_kind => k_is)
    (case c_kind => k_is)
    (case k_kind => k_is)
    (case a__row_of => k_is)
    (case l__row_of => k_is)
    (case c__row_of => k_is)
    (case k__row_of => k_is)
    (case a_show_kinds => k_is)
    (case l_show_kinds => k_is)
    (case c_show_kinds => k_is)
    (case k_show_kinds => k_is)
    (case a_show_times => k_is)
    (case l_show_times => k_is)
    (case c_show_times => k_is)
    (case k_show_times => k_is)
    (case a_integer_of => k_is)
    (case l_integer_of => k_is)
    (case c_integer_of => k_is)
    (case k_integer_of => k_is)
    (case a__lines_of => k_is)
    (case l__lines_of => k_is)
    (case c__lines_of => k_is)
    (case k__lines_of => k_is)
    (case a__words_in => k_is)
    (case l__words_in => k_is)
    (case c__words_in => k_is)
    (case k__words_in => k_is)
    (case a__check_only_line => k_is)
    (case l__check_only_line => k_is)
    (case c__check_only_line => k_is)
    (case k__check_only_line => k_is)
    (case a_read_kinds => k_is)
    (case l_read_kinds => k_is)
    (case c_read_kinds => k_is)
    (case k_read_kinds => k_is)
    (case a_read_times => k_is)
    (case l_read_times => k_is)
    (case c_read_times => k_is)
    (case k_read_times => k_is)
    (case a_integer => k_is)
    (case l_integer => k_is)
    (case c_integer => k_is)
    (case k_integer => k_is)
    (case a_due => k_is)
    (case l_due => k_is)
    (case c_due => k_is)
    (case k_due => k_is)
    (case a_told => k_is)
    (case l_told => k_is)
    (case c_told => k_is)
    (case k_told => k_is)
    (case a_bent => k_is)
    (case l_bent => k_is)
    (case c_bent => k_is)
    (case k_bent => k_is)
    (case a_law => k_is)
    (case l_law => k_is)
    (case c_law => k_is)
    (case k_law => k_is)
    (case z_len => k_is)
    (case z_isinstance => k_is)
    (case z_int => k_is)
    (case z_bool => k_is)
    (case z_str => k_is)
    (case z_list => k_is)
    (case z_tuple => k_is)
    (case z_range => k_is)
    (case z_enumerate => k_is)
    (case z_zip => k_is)
    (case z_abs => k_is)
    (case z_repr => k_is)
    (case z_min => k_is)
    (case z_max => k_is)
    (case z_sum => k_is)
    (case z_all => k_is)
    (case gMD => k_is)
    (case aE => k_is)
    (case yeE => k_is)
    (case yiE => k_is)
    (case ytE => k_is)
    (case aNo => k_is)
    (case iNo => k_is)
    (case tNo => k_is)
    (case lNo => k_is)
    (case cNo => k_is)
    (case kNo => k_is)
    (case xlNo => k_is)
    (case xvNo => decide)
    (case xsNo => k_is)
    (case xeNo => k_is)
    (case xtNo => k_is)
    (case xkNo => k_is)
    (case xgNo => k_is)
    (case xaNo => k_is)
    (case xhNo => k_is)
    (case xcNo => k_is)
    (case xoNo => k_is)
    (case xiNo => k_is)
    (case ysNo => k_is)
    (case x0No => k_is)
    (case sNN => k_is)
