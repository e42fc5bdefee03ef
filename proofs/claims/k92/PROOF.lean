import PyProof.Rows.All
import Wide.All
import OpenK.AllK
import Wide.FinOn
import HandS.ForMost
import HandS.ForExc
import HandS.More
import HandS.Flow
import HandS.Style
import HandS.IsInst
import HandS.Property
import HandS.OwnEq
import HandS.Evl
import KE.GoesEnum
import HandS.SortKw
import KE.GoesEnumKw
import HandS.Walk
import HandS.TupAny
import PySem.Challenge.RW_earlyorlate_k92_whole_books_read
import HandS.Defaults
import HandS.ExcField
import HandS.ExcIs
import KE.KExcIs
import HandS.StrMore
import HandS.TupMul
import PyProof.StrLawsTight
import PyProof.StrLawsJoin
import PyProof.StrOps2
import KE.KIntText
import KE.IntTextText
import KE.IntTextLaws
import KE.KUnpackStar
import HandS.Comp
import HandS.ExcInit
import HandS.FStr
import HandS.Small
import HandS.Star
import HandS.Strs
set_option Elab.async false
set_option linter.all false
set_option maxRecDepth 100000
set_option maxHeartbeats 4000000
/- part P0 -/
/-! Early or late: own words over the hand layer. Part 0: defs that know that no repr is under way. -/
namespace EL
open PySem PySem.Spec PyProof.Rows L2
open PySem.W (Frag)

/-- no repr is under way around -/
abbrev Quiet (A : Around) : Prop := A.guards = some []

/-- a def's promise, for callers around which no repr is under way -/
structure FnG (P : Program) (w : World) (K : Frag) (mg : Str → Option Value) (base : Heap) (X : CXT) (k : Nat) (f : Addr) (fd : FuncData) (ps : List Str) (sp : Sp) : Prop where
  len : ∀ vs H Q E, sp vs H Q E → vs.length = ps.length
  run : ∀ (A : Around) (out : List Env) (s : Shared) (H : Hp) (args : Args) (us : List Value) (vs : List V) (Q : VK) (E : XK),
    Room k A → Quiet A → Env0 P w K mg base A out s H → BindsTo s fd args (ps.zip us) → Vals vs us → sp vs H Q E →
    codeAny (model P w) A (.call (.ref f) args) (CR X out P w H s Q E) s

theorem FnG.of {P : Program} {w : World} {K : Frag} {mg : Str → Option Value} {base : Heap} {X : CXT} {k : Nat} {f : Addr} {fd : FuncData} {ps : List Str} {sp : Sp}
    (F : FnOk P w K mg base X k f fd ps sp) : FnG P w K mg base X k f fd ps sp :=
  ⟨F.len, fun A out s H args us vs Q E hr _ he hb hv hs => F.run A out s H args us vs Q E hr he hb hv hs⟩

theorem FnG.up {P : Program} {w : World} {K : Frag} {mg : Str → Option Value} {base : Heap} {X : CXT} {j k : Nat} {f : Addr} {fd : FuncData} {ps : List Str} {sp : Sp}
    (F : FnG P w K mg base X j f fd ps sp) (h : j ≤ k) : FnG P w K mg base X k f fd ps sp :=
  ⟨F.len, fun A out s H args us vs Q E hr => F.run A out s H args us vs Q E (hr.mono h)⟩

/-- the end of a body, told to the caller -/
theorem ended {X : CXT} {P : Program} {w : World} {K : Frag} {mg : Str → Option Value} {base : Heap} {N : List Str} {qual : Str} {sc : Scope} {f : Addr} {cd : Value} {A : Around} {out : List Env}
    {s s' : Shared} {H H' : Hp} {E : XK} {Q : VK} {σ : L2.St} {v : V} {u : Value}
    (J : Inv (cxOf X P w K mg base N qual sc f cd A out s H E) [] σ H' s') (rv : RelV v u) (q : Q v H') : CE out P w H s Q u s' :=
  ⟨v, H', J.os, J.bare, J.base, J.hok, rv, q⟩

theorem fnG_of {X : CXT} {P : Program} {w : World} {K : Frag} {mg : Str → Option Value} {base : Heap} {k : Nat} {x qual : Str} {st : Stmt} {f : Addr} {fd : FuncData} {N ps : List Str} {sp : Sp}
    (F : Fun K x qual st f fd) (S : FnScope N ps (defScope st)) (len : ∀ vs H Q E, sp vs H Q E → vs.length = ps.length)
    (hbody : ∀ (cd : Value) (A : Around) (out : List Env) (s : Shared) (H : Hp) (vs : List V) (Q : VK) (E : XK), Room k (A.deeper (envOfC qual (defScope st) s.heap.objs.size f cd)) →
      Quiet (A.deeper (envOfC qual (defScope st) s.heap.objs.size f cd)) → sp vs H Q E →
      ∃ t, PSs (cxOf X P w K mg base N qual (defScope st) f cd A out s H E) (defBody st) t ∧ t { nx := fun _ H' => Q .non H', rt := Q } (start N vs) H) :
    FnG P w K mg base X (k + 1) f fd ps sp := by
  obtain ⟨oc, od, kV, doc, pm, an, cd, ct, osl, rfl, lk, hcd⟩ := F.ex
  constructor
  · exact len
  intro A out s H args us vs Q E hr hg e0 hb r hsp
  have old : ∀ b o, base.get? b = some o → s.heap.get? b = some o := fun b o e => (e0.bs b o e).1
  have KX := e0.mod.kin.keeps old
  have kinds : ∀ y ∈ ps.zip us, (defScope st).names.lookup y.1 = some .local ∨ ((defScope st).names.lookup y.1 = some .cell ∧ ((cellsFrom (s.heap.objs.size + 1) (defScope st).names []).lookup y.1).isSome = true) := by
    rintro ⟨n, v⟩ hy
    cases S.par n (List.of_mem_zip hy).1 with
    | inl q => exact .inl q
    | inr q => exact .inr ⟨q, PySem.W.cellsFrom_some _ _ _ (.inl q)⟩
  apply codeAny_call_function hr.depth (KX _ _ lk) rfl S.co S.gen rfl (PySem.W.codeRec_of KX hcd)
  apply hb
  apply wpAny_newFunctionEnv_cells S.kind kinds
  rintro env rfl s1 x
  refine ⟨(e0.mod.nolimit.keeps old).keeps x.toInCall.keep, codeAny_func ?_⟩
  obtain ⟨t, ht, hq⟩ := hbody cd A out s H vs Q E (hr.deeper _) hg hsp
  have I := inv_start (CX := X) (E := E) S hr.hd e0 (len _ _ _ _ hsp) r x
  refine wpAny_mono (ht.run [] s1 _ H _ I hq) ?_ (fun _ _ z => z)
  intro fl s' hs
  cases fl with
  | next =>
    obtain ⟨σ', H', J, q⟩ := hs
    exact ended (v := V.non) (u := Value.none) J rfl q
  | ret u =>
    obtain ⟨v, σ', H', J, rv, q⟩ := hs
    exact ended J rv q
  | brk => exact (let ⟨_, _, _, z⟩ := hs; False.elim z)
  | cont => exact (let ⟨_, _, _, z⟩ := hs; False.elim z)

/-- a def of the module by its name: where it stands, how its arguments bind, its promise -/
structure Cal (P : Program) (w : World) (K : Frag) (mg : Str → Option Value) (base : Heap) (CX : CXT) (k : Nat) (x : Str) (ps : List Str) (sp : Sp) : Prop where
  ex : ∃ f fd, mg x = some (.ref f) ∧ PySem.W.keepIn K (.ref f) = true ∧ Binds K fd ps [] ∧ FnOk P w K mg base CX k f fd ps sp
structure CalG (P : Program) (w : World) (K : Frag) (mg : Str → Option Value) (base : Heap) (CX : CXT) (k : Nat) (x : Str) (ps : List Str) (sp : Sp) : Prop where
  ex : ∃ f fd, mg x = some (.ref f) ∧ PySem.W.keepIn K (.ref f) = true ∧ Binds K fd ps [] ∧ FnG P w K mg base CX k f fd ps sp
theorem Cal.g {P : Program} {w : World} {K : Frag} {mg : Str → Option Value} {base : Heap} {CX : CXT} {k : Nat} {x : Str} {ps : List Str} {sp : Sp} (C : Cal P w K mg base CX k x ps sp) : CalG P w K mg base CX k x ps sp := by
  obtain ⟨f, fd, h1, h2, h3, h4⟩ := C.ex
  exact ⟨f, fd, h1, h2, h3, .of h4⟩
section
variable {X : Cx} {CX : CXT} {k : Nat} {x : Str} {ps : List Str} {sp : Sp} {E : XK} {p pos : Pos} {e : Expr} {es : List Expr} {t : TA}
theorem pe_cal (C : Cal X.prog X.w X.K X.mg X.base CX k x ps sp) (hr : Room k X.A) (hx : Passes CX X E) (ha : PA X (e :: es) t) (hg : Gl X x := by rfl) (hdb : (x == ("__debug__" : Str)) = false := by decide)
    (he : starEach (e :: es) X.env = (false, eval e X.env) :: starEach es X.env := by rfl) (hpl : (backTo pos (starEach es X.env)).any (·.1) = false := by rfl) :
    PE X (.Call (.Name x p) (e :: es) [] pos) (tCall sp [] E t) := by
  obtain ⟨f, fd, h1, h2, h3, h4⟩ := C.ex
  exact pe_call h4 hr hg h1 h2 h3 .nil hx ha hdb he hpl
theorem pe_cal0 (C : Cal X.prog X.w X.K X.mg X.base CX k x ps sp) (hr : Room k X.A) (hx : Passes CX X E) (hg : Gl X x := by rfl) (hdb : (x == ("__debug__" : Str)) = false := by decide) :
    PE X (.Call (.Name x p) [] [] pos) (tCall sp [] E tNil) := by
  obtain ⟨f, fd, h1, h2, h3, h4⟩ := C.ex
  exact pe_call0 h4 hr hg h1 h2 h3 .nil hx hdb
theorem run_calG {f : Addr} {fd : FuncData} {pins : List (Addr × Obj)} {σ : L2.St} {H : Hp} {s : Shared} {Q : VK} {us : List Value} {vs : List V} (F : FnG X.prog X.w X.K X.mg X.base CX k f fd ps sp) (hr : Room k X.A) (hq : Quiet X.A) (hb : Binds X.K fd ps [])
    (hx : Passes CX X E) (I : Inv X pins σ H s) (r : Vals vs us) (h : sp vs H Q E) : wpAny (model X.prog X.w) X.A (call (.ref f) us) (EP X pins σ Q) X.xe s := by
  have hl : us.length = ps.length := r.length.symm.trans (F.len _ _ _ _ h)
  have hb1 := hb s us I.kIn (by rw [List.append_nil]; exact hl)
  rw [List.append_nil] at hb1
  refine wpAny_call (codeAny_mono (F.run X.A X.stack s H ⟨us, []⟩ us vs Q E hr hq I.env0 hb1 r h) ?_)
  rintro (e | fl) s' hz
  · exact hx pins σ H s e s' I hz
  · cases fl with
    | ret u => exact I.after hz
    | next => exact False.elim hz
    | brk => exact False.elim hz
    | cont => exact False.elim hz
theorem pe_calG (C : CalG X.prog X.w X.K X.mg X.base CX k x ps sp) (hr : Room k X.A) (hq : Quiet X.A) (hx : Passes CX X E) (ha : PA X (e :: es) t) (hg : Gl X x := by rfl) (hdb : (x == ("__debug__" : Str)) = false := by decide)
    (he : starEach (e :: es) X.env = (false, eval e X.env) :: starEach es X.env := by rfl) (hpl : (backTo pos (starEach es X.env)).any (·.1) = false := by rfl) :
    PE X (.Call (.Name x p) (e :: es) [] pos) (tCall sp [] E t) := by
  obtain ⟨f, fd, h1, h2, h3, h4⟩ := C.ex
  constructor
  intro pins s σ H Q I h
  apply wpAny_Call_Name_kw
  refine ld_glob I hg h1 (PySem.W.callWith_K (h₀ := X.base) I.ok.mod.kin h2 (thn (ha.run pos pins s σ H _ I h) ?_) he hpl) hdb
  rintro us s1 ⟨vs, H1, I1, r, q⟩
  rw [List.append_nil] at q
  exact ⟨I1.kIn, run_calG h4 hr hq h3 hx I1 r q⟩
theorem pe_calG0 (C : CalG X.prog X.w X.K X.mg X.base CX k x ps sp) (hr : Room k X.A) (hq : Quiet X.A) (hx : Passes CX X E) (hg : Gl X x := by rfl) (hdb : (x == ("__debug__" : Str)) = false := by decide) :
    PE X (.Call (.Name x p) [] [] pos) (tCall sp [] E tNil) := by
  obtain ⟨f, fd, h1, h2, h3, h4⟩ := C.ex
  constructor
  intro pins s σ H Q I h
  apply wpAny_Call_Name_kw
  exact ld_glob I hg h1 (PySem.W.callWith_K0 I.kIn h2 (run_calG (us := []) h4 hr hq h3 hx I .nil h)) hdb
end
end EL

/- part P1 -/
/-! the end of a law whose def wants that no repr is under way -/
namespace EL
open PySem PySem.Spec PyProof.Rows L2
open PySem.W (Frag)

theorem law_from {P : Program} {w : World} {K : Frag} {mg mb : Str → Option Value} {CX : CXT} {k : Nat} {fa a : Addr} {fd : FuncData} {x : Str} {sp : Sp} {s : Shared} {vs : List Value} {H : Hp}
    (KX : K.In s.heap) (hns : s.heap.Ns mainGlobals mg) (hb : s.heap.Ns builtinsNs mb) (hbb : ∀ y : Str, y ≠ "__name__" → mb y = bootBuiltins y) (hlim : s.heap.NoLimit) (hg : s.gens = #[])
    (ha : s.heap.get? a = some { cls := .type "list", data := .seq vs.toArray }) (hr : Room k PySem.callerA)
    (F : ∀ base : Heap, K.In base → base.Ns mainGlobals mg → FnG P w K mg base CX k fa fd [x] sp) (hbind : ∀ (s : Shared) (u : Value), BindsTo s fd ⟨[u], []⟩ [(x, u)])
    (hsp : sp [.ref a] H (fun v _ => v = .bl true) fun _ _ _ => False) (hCX : ∀ e s', CX [] H s (fun _ _ _ => False) e s' → False)
    (hO : Only H) (hok : HOk P w H s.heap) (hA : ∀ b, H b ≠ none → b = a) (hK : H a ≠ none → K.lookup a = none) :
    codeAny (model P w) PySem.callerA (.call (.ref fa) ⟨[.ref a], []⟩) (fun r s' => r = .ok (.ret (.bool true)) ∧ OldK s.heap s'.heap ∧ s'.os = s.os ∧ AllBare s'.gens) s := by
  have free : ∀ {b : Addr} {o : Obj}, s.heap.get? b = some o → (b = a → False) ∨ (H b = none) → (hidT s.heap H).get? b = some o := by
    intro b o e z
    apply hidT_get e
    rcases z with z | z
    · cases q : H b with
      | none => rfl
      | some u => exact (z (hA b (by simp [q]))).elim
    · exact z
  have dict : ∀ {b : Addr} {m : Str → Option Value}, s.heap.Ns b m → (hidT s.heap H).Ns b m := by
    rintro b m ⟨o, es, ep, e, d, r⟩
    refine ⟨o, es, ep, free e (.inl fun z => ?_), d, r⟩
    rw [z, ha] at e
    cases e
    exact nomatch d
  have kin : K.In (hidT s.heap H) := by
    intro b o e
    cases q : H b with
    | none => exact free (KX b o e) (.inr q)
    | some u =>
      have ba := hA b (by simp [q])
      rw [ba] at e q
      rw [hK (by simp [q])] at e
      exact nomatch e
  have M : Mod K mg (hidT s.heap H) := ⟨kin, dict hns, ⟨mb, dict hb, hbb⟩, let ⟨mc, h1, h2⟩ := hlim; ⟨mc, dict h1, h2⟩⟩
  have none_in : ∀ b : Addr, b ∉ ([] : List Addr) := fun b z => by simp at z
  have e0 : Env0 P w K mg (hidT s.heap H) PySem.callerA [] s H :=
    { frames := rfl, mod := M, bs := fun b o e => of_hidT e, bsz := Nat.le_of_eq (hidT_size _ _), funs := trivial, frf := fun b z => (none_in b z).elim, hok := hok, bare := .of_eq hg }
  refine codeAny_mono ((F _ kin (dict hns)).run PySem.callerA [] s H _ [.ref a] [.ref a] _ _ hr rfl e0 (hbind s (.ref a)) (.cons rfl .nil) hsp) ?_
  rintro (e | fl) s' hz
  · exact (hCX e s' hz).elim
  · cases fl with
    | next => exact False.elim hz
    | brk => exact False.elim hz
    | cont => exact False.elim hz
    | ret u =>
      obtain ⟨v, H', os, bare, un, hok', r', q⟩ := hz
      have q2 : v = .bl true := q
      rw [q2] at r'
      have u2 : u = Value.bool true := r'
      rw [u2]
      refine ⟨rfl, OldK.of_keep fun b o e => ?_, os, bare⟩
      rcases hO b with z | ⟨ob, xs, z⟩
      · exact un.keep b o e z (none_in b) (none_in b)
      · have e1 := (hok b _ z).1
        rw [e] at e1
        rw [Option.some.inj e1]
        exact (hok' b _ (un.frzs b ob _ z)).1

theorem law_runs {P : Program} {w : World} {K : Frag} {mg mb : Str → Option Value} {CX : CXT} {k : Nat} {fa a : Addr} {fd : FuncData} {x : Str} {sp : Sp} {s : Shared} {vs : List Value} {ns : List Int}
    (KX : K.In s.heap) (hns : s.heap.Ns mainGlobals mg) (hb : s.heap.Ns builtinsNs mb) (hbb : ∀ y : Str, y ≠ "__name__" → mb y = bootBuiltins y) (hlim : s.heap.NoLimit) (hg : s.gens = #[])
    (ha : s.heap.get? a = some { cls := .type "list", data := .seq vs.toArray }) (hi : IntsAre vs ns) (hl : ns.length ≤ sizeLine) (hr : Room k PySem.callerA)
    (F : ∀ base : Heap, K.In base → base.Ns mainGlobals mg → FnG P w K mg base CX k fa fd [x] sp) (hbind : ∀ (s : Shared) (u : Value), BindsTo s fd ⟨[u], []⟩ [(x, u)])
    (hsp : ∀ H : Hp, Only H → SqL K H a (ns.map V.int) → sp [.ref a] H (fun v _ => v = .bl true) fun _ _ _ => False)
    (hCX : ∀ H e s', CX [] H s (fun _ _ _ => False) e s' → False) :
    codeAny (model P w) PySem.callerA (.call (.ref fa) ⟨[.ref a], []⟩) (fun r s' => r = .ok (.ret (.bool true)) ∧ OldK s.heap s'.heap ∧ s'.os = s.os ∧ AllBare s'.gens) s := by
  have rv := vals_ints hi
  by_cases hk : K.lookup a = none
  · let H : Hp := fun b => if b = a then some (.frz { cls := .type "list", data := .seq vs.toArray } (.lst (ns.map V.int))) else none
    have at_ : H a = some (.frz { cls := .type "list", data := .seq vs.toArray } (.lst (ns.map V.int))) := if_pos rfl
    have other : ∀ b, b ≠ a → H b = none := fun b h => if_neg h
    have hO : Only H := fun b => by
      by_cases q : b = a
      · exact .inr ⟨_, _, by rw [q]; exact at_⟩
      · exact .inl (other b q)
    refine law_from (H := H) KX hns hb hbb hlim hg ha hr F hbind (hsp H hO (.inl (.inr ⟨_, at_⟩))) (hCX H) hO ?_ ?_ fun _ => hk
    · intro b u z
      by_cases q : b = a
      · subst q
        rw [at_] at z
        cases z
        refine ⟨ha, ?_, vs, _, rv, ha⟩
        rw [List.length_map]
        exact hl
      · rw [other b q] at z
        exact nomatch z
    · intro b z
      by_cases q : b = a
      · exact q
      · exact (z (other b q)).elim
  · obtain ⟨o, hk⟩ := Option.ne_none_iff_exists'.mp hk
    have e := KX a o hk
    rw [ha] at e
    cases e
    let H : Hp := fun _ => none
    have hO : Only H := fun _ => .inl rfl
    have hS : SqL K H a (ns.map V.int) := .inr ⟨_, vs.toArray, _, hk, rfl, rfl, rfl, by simpa [hi.length] using hl, by simpa using rv⟩
    exact law_from (H := H) KX hns hb hbb hlim hg ha hr F hbind (hsp H hO hS) (hCX H) hO (fun b u z => nomatch (show (none : Option HO) = some u from z)) (fun b z => (z rfl).elim) fun z => (z rfl).elim

theorem walk_law {l : PySem.W.OpenLaw} {n k : Nat} {q : Program} {loose : List Str} {XP : (Str → Option Value) → Heap → Prop} {YP : World → Heap → Prop} {d : DefRec} {K : Params → Frag} {CX : World → CXT} {sp : World → Sp} {x : Str}
    (hn : l.most = some n) (hn2 : n ≤ sizeLine) (hdf : d.params.defaults = []) (hr : Room k PySem.callerA) (hY : ∀ (w : World) (h : Heap), YP w h → (K w.params).In h)
    (F : ∀ (w : World) (mg : Str → Option Value) (fa : Addr) (h : Heap), (K w.params).In h → h.Ns mainGlobals mg → mg d.name = some (.ref fa) →
      ∃ fd : FuncData, (∀ (s : Shared) (u : Value), BindsTo s fd ⟨[u], []⟩ [(x, u)]) ∧ ∀ base : Heap, (K w.params).In base → base.Ns mainGlobals mg → FnG l.prog w (K w.params) mg base (CX w) k fa fd [x] (sp w))
    (hsp : ∀ (w : World) (H : Hp) (a : Addr) (ns : List Int), ns.length ≤ n → Only H → SqL (K w.params) H a (ns.map V.int) → sp w [.ref a] H (fun v _ => v = .bl true) fun _ _ _ => False)
    (hCX : ∀ (w : World) (H : Hp) (s : Shared) (e : Value) (s' : Shared), CX w [] H s (fun _ _ _ => False) e s' → False) :
    PySem.W.WalkO q loose XP YP l.row.toRowW d [] (fun f vs => PySem.call f vs) := by
  refine Att.attach_call hn hdf ?_
  intro w s₀ s₁ mg mb fa o pm cd doc a vs ns G Y ho hd hcd hmg hobj hints hlen hg
  obtain ⟨fd, hb, hF⟩ := F w mg fa _ (hY w _ Y) G.T.g hmg
  exact law_runs (hY w _ Y) G.T.g G.T.b G.T.builtins G.T.nolimit hg hobj hints (Nat.le_trans hlen hn2) hr hF hb (fun H => hsp w H a ns hlen) fun H => hCX w H s₁
end EL

/- part P2 -/
/-! repr of data, where no repr is under way -/
namespace EL
open PySem PySem.Spec PyProof.Rows L2
open PySem.W (Frag)
mutual
theorem dp_nodict {K : Frag} {H : Hp} : ∀ (d : PyData) (v : V), Dp K H v d → d.hasDict = false
  | .none, _, _ => rfl
  | .bool _, _, _ => rfl
  | .int _, _, _ => rfl
  | .str _, _, _ => rfl
  | .list ds, _, h => by
    cases h with
    | lst _ ha => exact dp_nodictAll ds _ ha
  | .tuple ds, _, h => by
    cases h with
    | tup _ ha => exact dp_nodictAll ds _ ha
  | .dict _, _, h => by cases h
theorem dp_nodictAll {K : Frag} {H : Hp} : ∀ (ds : List PyData) (vs : List V), DpAll K H vs ds → PyData.hasDictAll ds = false
  | [], _, _ => rfl
  | d :: ds, _, h => by
    cases h with
    | cons h1 h2 =>
      show (d.hasDict || PyData.hasDictAll ds) = false
      rw [dp_nodict d _ h1, dp_nodictAll ds _ h2]
      rfl
end
/-- what repr hands back of data -/
def rShow (K : Frag) : List V → Hp → VK → Prop := fun xs H Q => ∃ x d, xs = [x] ∧ Dp K H x d ∧ d.showable = true ∧ d.depth ≤ 50 ∧ d.shown.length ≤ sizeLine ∧ Q (.str d.shown) H
theorem call_show {X : Cx} (hq : Quiet X.A) (hu : X.A.units + 64 < cLine) : CallR X (.builtin "repr") (rShow X.K) := by
  rintro pins s σ H xs us Q I r ⟨x, d, rfl, hd, hs, hdep, hlen, q⟩
  cases r with
  | cons rx rn =>
    rename_i u us
    cases rn
    obtain ⟨as, rd⟩ := Dp.reads I d x u hd rx
    have fin : ∀ t k, EP X pins σ Q (.str d.shown t) { s with toks := k } := fun t k => ⟨V.str d.shown, H, I.tok _, ⟨t, rfl⟩, q⟩
    cases rd with
    | none => exact PySem.P.repr_of_none (fin _ _)
    | bool b => exact PySem.P.repr_of_bool (fin _ _)
    | int i t => exact PySem.P.repr_of_int (by simpa [PyData.showable] using hs) (fin _ _)
    | str y t => exact PySem.P.repr_of_str (fin _ _) hlen
    | list h1 h2 h3 h4 =>
      have nd := dp_nodict _ _ hd
      refine repr_of_reads' (h₀ := s.heap) (.list h1 h2 h3 h4) hs (fun z => by rw [nd] at z; cases z) hq (by omega) (fun _ _ e => e) ?_ hlen
      intro h' t tk k
      exact ⟨V.str _, H, I.kept k, ⟨t, rfl⟩, q⟩
    | tuple h1 h2 h3 h4 =>
      have nd := dp_nodict _ _ hd
      refine repr_of_reads' (h₀ := s.heap) (.tuple h1 h2 h3 h4) hs (fun z => by rw [nd] at z; cases z) hq (by omega) (fun _ _ e => e) ?_ hlen
      intro h' t tk k
      exact ⟨V.str _, H, I.kept k, ⟨t, rfl⟩, q⟩
    | dict h1 h2 h3 h4 h5 => cases hd
theorem call_showE {X : Cx} (hq : Quiet X.A) (hu : X.A.units + 64 < cLine) : CallR X (.builtin "repr") (fun xs H Q => ∃ p, xs = [.ref p] ∧ H p = some (.dK []) ∧ Q (.str (PyData.dict []).shown) H) := by
  rintro pins s σ H xs us Q I r ⟨p, rfl, hp, q⟩
  cases r with
  | cons rx rn =>
    rename_i u us
    cases rn
    cases rx
    obtain ⟨_, ns, vs, kv, o, es, ep, ho, ex, hd, _, pr, _⟩ := I.hok p _ hp
    cases kv
    have e0 : es.toList = [] := by
      generalize es.toList = l at pr
      cases pr
      rfl
    have e1 : es = #[] := Array.toList_inj.mp e0
    subst e1
    have hz : X.A.units + ((PyData.dict []).depth + 1) < cLine := by
      have z : (PyData.dict []).depth ≤ 50 := by decide +kernel
      omega
    refine repr_of_reads' (d := .dict []) (h₀ := s.heap) (.dict ho ex.1 hd .nil .nil) (by decide +kernel) (fun _ z => ?_) hq hz (fun _ _ e => e) ?_ (by decide +kernel)
    · have z' : sysModules = p := by simpa using z
      rw [← z'] at ns
      exact absurd ns (by decide)
    · intro h' t tk k
      exact ⟨V.str _, H, I.kept k, ⟨t, rfl⟩, q⟩
/-- repr of data, or of an empty dict -/
def rShowU (K : Frag) : List V → Hp → VK → Prop := fun xs H Q => rShow K xs H Q ∨ ∃ p, xs = [.ref p] ∧ H p = some (.dK []) ∧ Q (.str (PyData.dict []).shown) H
theorem u_show {X : Cx} (hq : Quiet X.A) (hu : X.A.units + 64 < cLine) : CallR X (.builtin "repr") (rShowU X.K) := (call_show hq hu).or (call_showE hq hu)
end EL

/- part E1 -/
/-! enumerate(v, start=k): how it is made -/
namespace EL
open PySem PySem.Spec PyProof.Rows L2
open PySem.W (Frag)
theorem tcall_enum_kw (a b : Value) : checkTypeCall "enumerate" ⟨[a], [("start", b)]⟩ = pure () := by kernel_rfl
theorem ncall_enum_kw (a b : Value) : checkBuiltinCall "enumerate.__new__" ⟨[.type "enumerate", a], [("start", b)]⟩ = pure () := by kernel_rfl
/-- the enumerate object, before its first turn -/
abbrev enumObj (r : Value) (k : Int) : Obj := { cls := .type "enumerate", data := .fields #[.none, .bool false, r, rawInt k, .none, .none] }
set_option maxHeartbeats 2000000 in
theorem meets_enum_kw {v : Value} {rv : Heap → Value} {f : Heap → Heap} {W : Heap → Prop}
    (IT : ∀ (prog : Program) (w : World) (A : Around) (E : Value → Shared → Prop) (s : Shared) (Q : Value → Shared → Prop), W s.heap → Q (rv s.heap) { s with heap := f s.heap } → wpAny (model prog w) A (pyIter v) Q E s)
    (k : Int) (t : Tok) (fit : Builtin.SmallTypes.fitsIndex k = true) :
    Meets (Builtin.«enumerate.__new__» ⟨[.type "enumerate", v], [("start", .int k t)]⟩) (fun _ R s => W s.heap ∧ R (.ok (.ret (.ref (f s.heap).objs.size))) { s with heap := (f s.heap).push (enumObj (rv s.heap) k) }) :=
  .of_wp fun prog w A R s h => by
    obtain ⟨hp, g, d, tk, os⟩ := s
    obtain ⟨h1, h⟩ := h
    have sub := sub_enumerate
    have nf : (!Builtin.SmallTypes.fitsIndex k) = false := by rw [fit]; rfl
    have go : ∀ {A' : Around} {E : Value → Shared → Prop} {Q : Value → Shared → Prop}, Q (rv hp) ⟨f hp, g, d, tk, os⟩ → wpAny (model prog w) A' (pyIter v) Q E ⟨hp, g, d, tk, os⟩ := fun q => IT prog w _ _ ⟨hp, g, d, tk, os⟩ _ h1 q
    wp_walk using go
    refine wpAny_stack_any fun st => wpAny_pure ?_
    split
    · rename_i c _ _ _ _ _
      cases (c == Value.type "enumerate")
      · wp_walk using go
        exact ⟨_, rfl, h⟩
      · wp_walk using go
        exact ⟨_, rfl, h⟩
    · wp_walk using go
      exact ⟨_, rfl, h⟩
end EL

/- part E2 -/
/-! enumerate over any iterator: one turn; zip over two tuples whose pair may still be about -/
namespace EL
open PySem PySem.Spec PyProof.Rows L2
open PySem.W (Frag)
section
variable {prog : Program} {w : World} {A : Around} {E : Value → Shared → Prop} {s : Shared}
theorem alive {a : Addr} {Q : Option Obj → Shared → Prop} (h : Q (s.heap.get? a) s) : wpAny (model prog w) A (loadIfAlive a) Q E s := fun _ _ _ => h
theorem enum_turn {e it : Addr} {c : Int} {old : Value} {R : Value → Heap → Prop} {Q : Value → Shared → Prop} (he : IsEnum s.heap e it c old)
    (inner : ∀ (Q' E' : Value → Shared → Prop), (∀ x h1 tk, IsEnum h1 e it c old → R x h1 → Q' x { s with heap := h1, toks := tk }) → wpAny (model prog w) A (Builtin.SmallTypes.nextOf (.ref it)) Q' E' s)
    (hQ : ∀ x h1 h' tk, R x h1 → e < h1.objs.size → IsEnumOut h' e it (c + 1) x h1.objs.size → h'.get? h1.objs.size = some { cls := .type "tuple", data := .seq #[.int c tk, x] } → h'.objs.size = h1.objs.size + 1 →
      (∀ b o, b ≠ e → h1.get? b = some o → h'.get? b = some o) → Q (.ref h1.objs.size) { s with heap := h', toks := tk + 1 }) :
    wpAny (model prog w) A (Builtin.«enumerate.__next__» ⟨[.ref e], []⟩) (fun fin s' => ∃ v, fin = .done (.ret v) ∧ Q v s') E s := by
  obtain ⟨hp, g, d, tk0, os⟩ := s
  refine wpAny_bind (m := field (.ref e) 2) (wpAny_field he rfl (x := .ref it) rfl (wpAny_bind (inner _ _ fun x h1 tk e1 r1 => ?_)))
  have lt : e < h1.objs.size := Heap.lt_size e1
  refine wpAny_bind (m := field (.ref e) 3) (wpAny_field e1 rfl (x := rawInt c) rfl ?_)
  refine wpAny_bind (m := field (.ref e) 4) (wpAny_field e1 rfl (x := .none) rfl ?_)
  refine wpAny_bind (m := mkInt c) (wpAny_mkInt ?_)
  refine wpAny_bind (m := setField (.ref e) 3 (rawInt (c + 1))) (wpAny_setField_rec e1 (by simp) fun h2 e2 k2 => ?_)
  have e2' : IsEnum h2 e it (c + 1) old := e2
  refine wpAny_bind (m := setField (.ref e) 4 .none) (wpAny_setField_rec e2' (by simp) fun h3 e3 k3 => ?_)
  have e3' : IsEnum h3 e it (c + 1) old := e3
  have z3 : h3.objs.size = h1.objs.size := k3.1.trans k2.1
  have up3 : ∀ b o, b ≠ e → h1.get? b = some o → h3.get? b = some o := fun b o hb q => Heap.SameBut.extBut k3 b o hb (Heap.SameBut.extBut k2 b o hb q)
  refine wpAny_bind (m := newTuple [.int c tk, x]) (wpAny_newTuple ?_)
  have e4 : IsEnum (h3.push { cls := .type "tuple", data := .seq #[.int c tk, x] }) e it (c + 1) old := Heap.get?_push_of_some _ e3'
  have t4 : (h3.push { cls := .type "tuple", data := .seq #[.int c tk, x] }).get? h1.objs.size = some { cls := .type "tuple", data := .seq #[.int c tk, x] } := by
    have q := Heap.get?_push_size h3 (o := { cls := .type "tuple", data := .seq #[.int c tk, x] }) rfl
    rw [z3] at q
    exact q
  have s4 : (h3.push { cls := .type "tuple", data := .seq #[.int c tk, x] }).objs.size = h1.objs.size + 1 := (Heap.size_push ..).trans (by rw [z3])
  have up4 : ∀ b o, b ≠ e → h1.get? b = some o → (h3.push { cls := .type "tuple", data := .seq #[.int c tk, x] }).get? b = some o := fun b o hb q => Heap.get?_push_of_some _ (up3 b o hb q)
  refine wpAny_bind (m := Builtin.SmallTypes.ownedTupleIsFree (.ref e)) ?_
  unfold Builtin.SmallTypes.ownedTupleIsFree
  refine wpAny_bind (m := field (.ref e) 0) (wpAny_field e4 rfl (x := .none) rfl (wpAny_pure ?_))
  rw [if_pos rfl]
  refine wpAny_bind (wpAny_rule (wpAny_bind (wpAny_field e4 rfl (x := old) rfl (wpAny_bind (wpAny_setField_rec e4 (by simp) fun h5 e5 k5 => ?_)))))
  have e5' : IsEnum h5 e it (c + 1) x := e5
  show wpAny _ _ (Builtin.SmallTypes.ownedTupleHandOut (.ref e) (.ref h3.objs.size) >>= _) _ _ _
  rw [z3]
  refine wpAny_bind ?_
  unfold Builtin.SmallTypes.ownedTupleHandOut
  refine wpAny_bind (wpAny_setField_rec e5' (by simp) fun h6 e6 k6 => wpAny_setField_rec e6 (by simp) fun h7 e7 k7 => ?_)
  have up : ∀ b o, b ≠ e → h1.get? b = some o → h7.get? b = some o := fun b o hb q =>
    Heap.SameBut.extBut k7 b o hb (Heap.SameBut.extBut k6 b o hb (Heap.SameBut.extBut k5 b o hb (up4 b o hb q)))
  have ne : h1.objs.size ≠ e := Nat.ne_of_gt lt
  refine wpAny_bind (wpAny_letGo (wpAny_pure ⟨_, rfl, hQ x h1 h7 tk r1 lt e7 ?_ ?_ up⟩))
  · exact Heap.SameBut.extBut k7 _ _ ne (Heap.SameBut.extBut k6 _ _ ne (Heap.SameBut.extBut k5 _ _ ne t4))
  · exact k7.1.trans (k6.1.trans (k5.1.trans s4))
end
end EL

/- part E3 -/
/-! one turn of zip(t1, t2), whatever became of the pair that it handed out last -/
namespace EL
open PySem PySem.Spec PyProof.Rows L2
open PySem.W (Frag)
/-- a zip object; f0 tells the pair that is out, b that it was met alive -/
abbrev zipObj (f0 : Value) (b : Bool) (TI TO : Addr) : Obj := { cls := .type "zip", dict := none, data := .fields #[f0, .bool b, .bool false, .ref TI, .ref TO], slots := #[] }
def OutMark (f0 : Value) : Prop := f0 = .none ∨ ∃ a : Addr, f0 = rawInt a
def ZipAt (h : Heap) (z TI TO : Addr) : Prop := ∃ f0 b, h.get? z = some (zipObj f0 b TI TO) ∧ OutMark f0
/-- the cells of the zip and of its two iterators lie apart -/
structure Apart (z TI TO i1 i2 t1 t2 : Addr) : Prop where
  zTI : z ≠ TI
  zTO : z ≠ TO
  zi1 : z ≠ i1
  zi2 : z ≠ i2
  zt1 : z ≠ t1
  zt2 : z ≠ t2
  TITO : TI ≠ TO
  TIi1 : TI ≠ i1
  TIi2 : TI ≠ i2
  TOi1 : TO ≠ i1
  TOi2 : TO ≠ i2
  TOt1 : TO ≠ t1
  TOt2 : TO ≠ t2
  i12 : i1 ≠ i2
  t1i1 : t1 ≠ i1
  t1i2 : t1 ≠ i2
  t2i1 : t2 ≠ i1
  t2i2 : t2 ≠ i2
section
variable {prog : Program} {w : World} {A : Around} {E : Value → Shared → Prop} {s : Shared} {z TI TO i1 i2 t1 t2 : Addr} {xs ys : Array Value} {i : Nat}
/-- what the zip stands on -/
structure ZipSt (h : Heap) (z TI TO i1 i2 t1 t2 : Addr) (xs ys : Array Value) (i : Nat) : Prop where
  zip : ZipAt h z TI TO
  ti : IsTupOf2 h TI (.ref i1) (.ref i2)
  to : ∃ a b, IsTupOf2 h TO a b
  it1 : h.IsTupleIter i1 t1 i
  it2 : h.IsTupleIter i2 t2 i
  tu1 : h.IsTuple t1 xs
  tu2 : h.IsTuple t2 ys
theorem ext_of {x : Addr} {h h' : Heap} (k : Heap.SameBut x h h') : ∀ b o, b ≠ x → h.get? b = some o → h'.get? b = some o := fun b o hb q => Heap.SameBut.extBut k b o hb q
/-- whether the pair is free: if not, the zip notes it -/
theorem free_or {f0 : Value} {b : Bool} {Q : Bool → Shared → Prop} (hz : s.heap.get? z = some (zipObj f0 b TI TO)) (mark : OutMark f0)
    (h1 : Q true s) (h2 : ∀ h' b', h'.get? z = some (zipObj f0 b' TI TO) → h'.objs.size = s.heap.objs.size → (∀ c o, c ≠ z → s.heap.get? c = some o → h'.get? c = some o) → Q false { s with heap := h' }) :
    wpAny (model prog w) A (Builtin.SmallTypes.ownedTupleIsFree (.ref z)) Q E s := by
  unfold Builtin.SmallTypes.ownedTupleIsFree
  rcases mark with rfl | ⟨a, rfl⟩
  · exact wpAny_bind (wpAny_field hz rfl (x := .none) rfl (wpAny_pure h1))
  · refine wpAny_bind (wpAny_field hz rfl (x := rawInt a) rfl ?_)
    refine wpAny_bind (alive ?_)
    have ea : ((a : Nat) : Int).toNat = a := rfl
    cases hal : s.heap.get? ((a : Nat) : Int).toNat with
    | none => exact wpAny_pure h1
    | some o =>
      refine wpAny_bind (m := field (.ref z) 1) (wpAny_field hz rfl (x := .bool b) rfl ?_)
      cases b with
      | true => exact wpAny_pure (h2 s.heap true hz rfl fun _ _ _ q => q)
      | false =>
        refine wpAny_bind (m := setField (.ref z) 1 (.bool true)) (wpAny_setField_rec hz (by simp) fun h' e' k' => wpAny_pure ?_)
        exact h2 h' true e' k'.1 (ext_of k')
theorem drawn {it t : Addr} {vs : Array Value} {v : Value} {Q : Value → Shared → Prop} (hit : s.heap.IsTupleIter it t i) (ht : s.heap.IsTuple t vs) (hv : vs[i]? = some v)
    (h : ∀ h', h'.IsTupleIter it t (i + 1) → Heap.SameBut it s.heap h' → Q v { s with heap := h' }) : wpAny (model prog w) A (Builtin.SmallTypes.nextOf (.ref it)) Q E s :=
  wpAny_nextOf_tuple_item hit ht hv h
theorem zip_turn {x y : Value} {Q : Value → Shared → Prop} (ap : Apart z TI TO i1 i2 t1 t2) (st : ZipSt s.heap z TI TO i1 i2 t1 t2 xs ys i) (hx : xs[i]? = some x) (hy : ys[i]? = some y)
    (hQ : ∀ h' tk, ZipSt h' z TI TO i1 i2 t1 t2 xs ys (i + 1) → IsTupOf2 h' s.heap.objs.size x y → h'.objs.size = s.heap.objs.size + 1 →
      (∀ c o, c ≠ z → c ≠ TO → c ≠ i1 → c ≠ i2 → s.heap.get? c = some o → h'.get? c = some o) → Q (.ref s.heap.objs.size) { s with heap := h', toks := tk }) :
    wpAny (model prog w) A (Builtin.«zip.__next__» ⟨[.ref z], []⟩) (fun fin s' => ∃ v, fin = .done (.ret v) ∧ Q v s') E s := by
  obtain ⟨⟨f0, b, hz, mark⟩, hti, ⟨a0, b0, hto⟩, h1, h2, u1, u2⟩ := st
  obtain ⟨hp, g, d, tk0, os⟩ := s
  replace hz : hp.get? z = some (zipObj f0 b TI TO) := hz
  replace hti : IsTupOf2 hp TI (.ref i1) (.ref i2) := hti
  replace hto : IsTupOf2 hp TO a0 b0 := hto
  replace h1 : hp.IsTupleIter i1 t1 i := h1
  replace h2 : hp.IsTupleIter i2 t2 i := h2
  replace u1 : hp.IsTuple t1 xs := u1
  replace u2 : hp.IsTuple t2 ys := u2
  refine wpAny_bind (m := field (.ref z) 2) (wpAny_field hz rfl (x := .bool false) rfl ?_)
  refine wpAny_bind (m := field (.ref z) 3) (wpAny_field hz rfl (x := .ref TI) rfl ?_)
  refine wpAny_bind (wpAny_seqItems hti rfl ?_)
  have lz : z < hp.objs.size := Heap.lt_size hz
  have an := ap
  refine wpAny_bind (free_or hz mark ?_ ?_)
  · rw [if_pos rfl]
    refine wpAny_bind (wpAny_rule (wpAny_bind (wpAny_field hz rfl (x := .ref TO) rfl (wpAny_bind (wpAny_setField_rec hz (by simp) fun g0 z0 k0 => ?_)))))
    replace z0 : g0.get? z = some (zipObj .ellipsis b TI TO) := z0
    replace k0 : Heap.SameBut z hp g0 := k0
    refine wpAny_bind ?_
    simp only [List.zipIdx_cons, List.zipIdx_nil, List.forIn_cons, List.forIn_nil]
    refine wpAny_bind (wpAny_bind (wpAny_onRaise ?_))
    show wpAny _ _ (Builtin.SmallTypes.nextOf (.ref i1) >>= _) _ _ ⟨g0, g, d, tk0, os⟩
    refine wpAny_bind (drawn (s := ⟨g0, g, d, tk0, os⟩) (h1.at fun o q => ext_of k0 _ _ ap.zi1.symm q) (u1.at fun o q => ext_of k0 _ _ ap.zt1.symm q) hx fun g1 n1 k1 => wpAny_pure ?_)
    replace k1 : Heap.SameBut i1 g0 g1 := k1
    have to1 : IsTupOf2 g1 TO a0 b0 := ext_of k1 _ _ ap.TOi1 (ext_of k0 _ _ ap.zTO.symm hto)
    refine wpAny_bind (wpAny_seqItems (s := ⟨g1, g, d, tk0, os⟩) to1 rfl ?_)
    refine wpAny_bind (updateSeq_IsTupOf2 (s := ⟨g1, g, d, tk0, os⟩) to1 fun g2 to2 k2 => ?_)
    replace k2 : Heap.SameBut TO g1 g2 := k2
    replace to2 : IsTupOf2 g2 TO x b0 := to2
    refine wpAny_bind (wpAny_letGo (wpAny_pure ?_))
    refine wpAny_bind (wpAny_bind (wpAny_onRaise ?_))
    show wpAny _ _ (Builtin.SmallTypes.nextOf (.ref i2) >>= _) _ _ ⟨g2, g, d, tk0, os⟩
    refine wpAny_bind (drawn (s := ⟨g2, g, d, tk0, os⟩) (h2.at fun o q => ext_of k2 _ _ ap.TOi2.symm (ext_of k1 _ _ ap.i12.symm (ext_of k0 _ _ ap.zi2.symm q)))
      (u2.at fun o q => ext_of k2 _ _ ap.TOt2.symm (ext_of k1 _ _ ap.t2i1 (ext_of k0 _ _ ap.zt2.symm q))) hy fun g3 n3 k3 => wpAny_pure ?_)
    replace k3 : Heap.SameBut i2 g2 g3 := k3
    have to3 : IsTupOf2 g3 TO x b0 := ext_of k3 _ _ ap.TOi2 to2
    refine wpAny_bind (wpAny_seqItems (s := ⟨g3, g, d, tk0, os⟩) to3 rfl ?_)
    refine wpAny_bind (updateSeq_IsTupOf2 (s := ⟨g3, g, d, tk0, os⟩) to3 fun g4 to4 k4 => ?_)
    replace k4 : Heap.SameBut TO g3 g4 := k4
    replace to4 : IsTupOf2 g4 TO x y := to4
    refine wpAny_bind (wpAny_letGo (wpAny_pure (wpAny_pure ?_)))
    refine wpAny_bind (wpAny_seqItems (s := ⟨g4, g, d, tk0, os⟩) to4 rfl (wpAny_bind (wpAny_newTuple ?_)))
    have z4 : g4.objs.size = hp.objs.size := by rw [k4.1, k3.1, k2.1, k1.1, k0.1]
    have up4 : ∀ c o, c ≠ z → c ≠ TO → c ≠ i1 → c ≠ i2 → hp.get? c = some o → g4.get? c = some o := fun c o cz cT c1 c2 q =>
      ext_of k4 _ _ cT (ext_of k3 _ _ c2 (ext_of k2 _ _ cT (ext_of k1 _ _ c1 (ext_of k0 _ _ cz q))))
    have zz4 : g4.get? z = some (zipObj .ellipsis b TI TO) := ext_of k4 _ _ ap.zTO (ext_of k3 _ _ ap.zi2 (ext_of k2 _ _ ap.zTO (ext_of k1 _ _ ap.zi1 z0)))
    generalize e5 : g4.push { cls := .type "tuple", data := .seq (#[x, y] : Array Value) } = g5
    have up5 : ∀ c o, g4.get? c = some o → g5.get? c = some o := fun c o q => by rw [← e5]; exact Heap.get?_push_of_some _ q
    have tt5 : IsTupOf2 g5 hp.objs.size x y := by rw [← e5, ← z4]; exact Heap.get?_push_size _ rfl
    have z5 : g5.objs.size = hp.objs.size + 1 := by rw [← e5, Heap.size_push, z4]
    refine wpAny_bind ?_
    show wpAny _ _ (Builtin.SmallTypes.ownedTupleHandOut (.ref z) (.ref g4.objs.size)) _ _ _
    unfold Builtin.SmallTypes.ownedTupleHandOut
    have z5' : g5.get? z = some (zipObj .ellipsis b TI TO) := up5 _ _ zz4
    refine wpAny_bind (wpAny_setField_rec z5' (by simp) fun g6 z6 k6 => ?_)
    replace k6 : Heap.SameBut z g5 g6 := k6
    refine wpAny_setField_rec z6 (by simp) fun g7 z7 k7 => ?_
    replace k7 : Heap.SameBut z g6 g7 := k7
    have up7 : ∀ c o, c ≠ z → g4.get? c = some o → g7.get? c = some o := fun c o cz q => ext_of k7 _ _ cz (ext_of k6 _ _ cz (up5 _ _ q))
    have nz : hp.objs.size ≠ z := Nat.ne_of_gt lz
    refine wpAny_pure ⟨_, rfl, ?_⟩
    show Q (.ref g4.objs.size) ⟨g7, g, d, tk0, os⟩
    rw [z4]
    refine hQ g7 tk0 ⟨⟨rawInt g4.objs.size, false, z7, .inr ⟨_, rfl⟩⟩, ?_, ⟨x, y, up7 _ _ ap.zTO.symm to4⟩, ?_, ?_, ?_, ?_⟩ ?_ ?_ ?_
    · exact up7 _ _ ap.zTI.symm (up4 _ _ ap.zTI.symm ap.TITO ap.TIi1 ap.TIi2 hti)
    · exact n1.at fun o q => up7 _ _ ap.zi1.symm (ext_of k4 _ _ ap.TOi1.symm (ext_of k3 _ _ ap.i12 (ext_of k2 _ _ ap.TOi1.symm q)))
    · exact n3.at fun o q => up7 _ _ ap.zi2.symm (ext_of k4 _ _ ap.TOi2.symm q)
    · exact u1.at fun o q => up7 _ _ ap.zt1.symm (up4 _ _ ap.zt1.symm ap.TOt1.symm ap.t1i1 ap.t1i2 q)
    · exact u2.at fun o q => up7 _ _ ap.zt2.symm (up4 _ _ ap.zt2.symm ap.TOt2.symm ap.t2i1 ap.t2i2 q)
    · exact ext_of k7 _ _ nz (ext_of k6 _ _ nz tt5)
    · rw [k7.1, k6.1, z5]
    · exact fun c o cz cT c1 c2 q => up7 _ _ cz (up4 c o cz cT c1 c2 q)
  · intro h0 b' z0 s0 k0
    replace s0 : h0.objs.size = hp.objs.size := s0
    replace k0 : ∀ c o, c ≠ z → hp.get? c = some o → h0.get? c = some o := k0
    rw [if_neg (by decide)]
    refine wpAny_bind ?_
    simp only [List.forIn_toArray, List.forIn_cons, List.forIn_nil]
    refine wpAny_bind (wpAny_bind (wpAny_holding ?_))
    show wpAny _ _ (Builtin.SmallTypes.nextOf (.ref i1) >>= _) _ _ ⟨h0, g, d, tk0, os⟩
    refine wpAny_bind (drawn (s := ⟨h0, g, d, tk0, os⟩) (h1.at fun o q => k0 _ _ ap.zi1.symm q) (u1.at fun o q => k0 _ _ ap.zt1.symm q) hx fun g1 n1 k1 => wpAny_pure ?_)
    replace k1 : Heap.SameBut i1 h0 g1 := k1
    refine wpAny_pure ?_
    refine wpAny_bind (wpAny_bind (wpAny_holding ?_))
    show wpAny _ _ (Builtin.SmallTypes.nextOf (.ref i2) >>= _) _ _ ⟨g1, g, d, tk0, os⟩
    refine wpAny_bind (drawn (s := ⟨g1, g, d, tk0, os⟩) (h2.at fun o q => ext_of k1 _ _ ap.i12.symm (k0 _ _ ap.zi2.symm q)) (u2.at fun o q => ext_of k1 _ _ ap.t2i1 (k0 _ _ ap.zt2.symm q)) hy fun g2 n2 k2 => wpAny_pure ?_)
    replace k2 : Heap.SameBut i2 g1 g2 := k2
    refine wpAny_pure (wpAny_pure ?_)
    refine wpAny_bind (wpAny_newTuple ?_ (by show 2 ≤ sizeLine; decide))
    have z2 : g2.objs.size = hp.objs.size := by rw [k2.1, k1.1, s0]
    have up : ∀ c o, c ≠ z → c ≠ i1 → c ≠ i2 → hp.get? c = some o → (g2.push { cls := .type "tuple", data := .seq (#[x, y] : Array Value) }).get? c = some o := fun c o cz c1 c2 q =>
      Heap.get?_push_of_some _ (ext_of k2 _ _ c2 (ext_of k1 _ _ c1 (k0 _ _ cz q)))
    refine wpAny_pure ⟨_, rfl, ?_⟩
    show Q (.ref g2.objs.size) ⟨g2.push { cls := .type "tuple", data := .seq (#[x, y] : Array Value) }, g, d, tk0, os⟩
    rw [z2]
    refine hQ _ tk0 ⟨⟨f0, b', Heap.get?_push_of_some _ (ext_of k2 _ _ ap.zi2 (ext_of k1 _ _ ap.zi1 z0)), mark⟩, up _ _ ap.zTI.symm ap.TIi1 ap.TIi2 hti, ⟨a0, b0, up _ _ ap.zTO.symm ap.TOi1 ap.TOi2 hto⟩, ?_, ?_, ?_, ?_⟩ ?_ ?_ ?_
    · exact n1.at fun o q => Heap.get?_push_of_some _ (ext_of k2 _ _ ap.i12 q)
    · exact n2.at fun o q => Heap.get?_push_of_some _ q
    · exact u1.at fun o q => up _ _ ap.zt1.symm ap.t1i1 ap.t1i2 q
    · exact u2.at fun o q => up _ _ ap.zt2.symm ap.t2i1 ap.t2i2 q
    · have q := Heap.get?_push_size g2 (o := { cls := .type "tuple", data := .seq (#[x, y] : Array Value) }) rfl
      rw [z2] at q
      exact q
    · rw [Heap.size_push, z2]
    · exact fun c o cz cT c1 c2 q => up c o cz c1 c2 q
end
end EL

/- part E4 -/
/-! for i, x in enumerate(t, start=k) over a tuple; for i, (x, y) in enumerate(zip(t, u), start=k) over two tuples of one length -/
namespace EL
open PySem PySem.Spec PyProof.Rows L2
open PySem.W (Frag)
section
variable {prog : Program} {w : World} {A : Around} {E : Value → Shared → Prop} {s : Shared} {z TI TO i1 i2 t1 t2 : Addr} {xs ys : Array Value} {i : Nat}
theorem zip_over {Q : Fin → Shared → Prop} (hh : A.handled = none) (ap : Apart z TI TO i1 i2 t1 t2) (st : ZipSt s.heap z TI TO i1 i2 t1 t2 xs ys i) (hx : xs[i]? = none)
    (hE : ∀ h' e, (∀ c o, c ≠ z → c ≠ TO → c ≠ i1 → c ≠ i2 → s.heap.get? c = some o → h'.get? c = some o) → (∃ o, h'.get? e = some o ∧ o.cls = .type "StopIteration") → E (.ref e) { s with heap := h' }) :
    wpAny (model prog w) A (Builtin.«zip.__next__» ⟨[.ref z], []⟩) Q E s := by
  obtain ⟨⟨f0, b, hz, mark⟩, hti, ⟨a0, b0, hto⟩, h1, h2, u1, u2⟩ := st
  obtain ⟨hp, g, d, tk0, os⟩ := s
  replace hz : hp.get? z = some (zipObj f0 b TI TO) := hz
  replace h1 : hp.IsTupleIter i1 t1 i := h1
  replace u1 : hp.IsTuple t1 xs := u1
  refine wpAny_bind (m := field (.ref z) 2) (wpAny_field hz rfl (x := .bool false) rfl ?_)
  refine wpAny_bind (m := field (.ref z) 3) (wpAny_field hz rfl (x := .ref TI) rfl ?_)
  refine wpAny_bind (wpAny_seqItems hti rfl ?_)
  refine wpAny_bind (free_or hz mark ?_ ?_)
  · rw [if_pos rfl]
    refine wpAny_bind (wpAny_rule (wpAny_bind (wpAny_field hz rfl (x := .ref TO) rfl (wpAny_bind (wpAny_setField_rec hz (by simp) fun g0 z0 k0 => ?_)))))
    replace z0 : g0.get? z = some (zipObj .ellipsis b TI TO) := z0
    replace k0 : Heap.SameBut z hp g0 := k0
    refine wpAny_bind ?_
    simp only [List.zipIdx_cons, List.zipIdx_nil, List.forIn_cons, List.forIn_nil]
    refine wpAny_bind (wpAny_bind (wpAny_onRaise ?_))
    show wpAny _ _ (Builtin.SmallTypes.nextOf (.ref i1) >>= _) _ _ ⟨g0, g, d, tk0, os⟩
    refine wpAny_bind (wpAny_nextOf_tuple_end (s := ⟨g0, g, d, tk0, os⟩) hh (h1.at fun o q => ext_of k0 _ _ ap.zi1.symm q) (u1.at fun o q => ext_of k0 _ _ ap.zt1.symm q) hx fun g1 e k1 he => ?_)
    replace k1 : Heap.ExtBut i1 g0 g1 := k1
    obtain ⟨oe, he, hc⟩ := he
    replace he : g1.get? e = some oe := he
    have z1 : g1.get? z = some (zipObj .ellipsis b TI TO) := k1 _ _ ap.zi1 z0
    have ez : e ≠ z := by
      rintro rfl
      rw [z1] at he
      cases he
      simp at hc
    refine wpAny_setField_rec (s := ⟨g1, g, d, tk0, os⟩) z1 (by simp) fun g2 _ k2 => ?_
    replace k2 : Heap.SameBut z g1 g2 := k2
    exact hE g2 e (fun c o cz cT c1 c2 q => ext_of k2 _ _ cz (k1 _ _ c1 (ext_of k0 _ _ cz q))) ⟨oe, ext_of k2 _ _ ez he, hc⟩
  · intro h0 b' z0 s0 k0
    replace k0 : ∀ c o, c ≠ z → hp.get? c = some o → h0.get? c = some o := k0
    rw [if_neg (by decide)]
    refine wpAny_bind ?_
    simp only [List.forIn_toArray, List.forIn_cons, List.forIn_nil]
    refine wpAny_bind (wpAny_bind (wpAny_holding ?_))
    show wpAny _ _ (Builtin.SmallTypes.nextOf (.ref i1) >>= _) _ _ ⟨h0, g, d, tk0, os⟩
    refine wpAny_bind (wpAny_nextOf_tuple_end (s := ⟨h0, g, d, tk0, os⟩) hh (h1.at fun o q => k0 _ _ ap.zi1.symm q) (u1.at fun o q => k0 _ _ ap.zt1.symm q) hx fun g1 e k1 he => ?_)
    replace k1 : Heap.ExtBut i1 h0 g1 := k1
    exact hE g1 e (fun c o cz cT c1 c2 q => k1 _ _ c1 (k0 _ _ cz q)) he
theorem zipType {f0 : Value} {b : Bool} (hz : s.heap.get? z = some (zipObj f0 b TI TO)) : s.TypeIs (.ref z) "zip" := ⟨_, hz, rfl⟩
/-- next(z) within a built-in -/
theorem zip_drawn {Q E' : Value → Shared → Prop} (hz : ZipAt s.heap z TI TO) (h : wpAny (model prog w) A.in1 (Builtin.«zip.__next__» ⟨[.ref z], []⟩) (fun fin s' => ∃ v, fin = .done (.ret v) ∧ Q v s') E' s) :
    wpAny (model prog w) A (Builtin.SmallTypes.nextOf (.ref z)) Q E' s := by
  obtain ⟨f0, b, e, _⟩ := hz
  unfold Builtin.SmallTypes.nextOf
  refine wpAny_bind (wpAny_callSpecial?_slot (name := Str.ofString "__next__") (zipType e) F.slot_zip_next (wpAny_call_entry F.slot_zip_next (zipType e) F.entry_zip_next ?_ (F.args_zip_next_1 _)))
  refine wpAny_mono h ?_ (fun _ _ q => q)
  rintro fin s' ⟨v, rfl, q⟩
  exact ⟨v, rfl, wpAny_pure q⟩
theorem zip_itself {Q : Value → Shared → Prop} (hz : ZipAt s.heap z TI TO) (h : Q (.ref z) s) : wpAny (model prog w) A (pyIter (.ref z)) Q E s := by
  obtain ⟨f0, b, e, _⟩ := hz
  exact wpAny_pyIter_slot (zipType e) F.slot_zip_iter (wpAny_call_entry F.slot_zip_iter (zipType e) F.entry_zip_iter (wpAny_pure ⟨_, rfl, "zip", _, zipType e, F.slot_zip_next.lookup, h⟩) (F.args_zip_iter_1 _))
end
/-- enumerate(v, start=k) as a call -/
theorem enum_made {prog : Program} {w : World} {A : Around} {E : Value → Shared → Prop} {s : Shared} {v : Value} {rv : Heap → Value} {f : Heap → Heap} {W : Heap → Prop} {k : Int} {t : Tok} {Q : Value → Shared → Prop}
    (IT : ∀ (prog : Program) (w : World) (A : Around) (E : Value → Shared → Prop) (s : Shared) (Q : Value → Shared → Prop), W s.heap → Q (rv s.heap) { s with heap := f s.heap } → wpAny (model prog w) A (pyIter v) Q E s)
    (h0 : -(2 ^ 63) ≤ k) (h1 : k < 2 ^ 63) (hw : W s.heap)
    (h : Q (.ref (f s.heap).objs.size) { s with heap := (f s.heap).push (enumObj (rv s.heap) k) }) :
    wpAny (model prog w) A (call (.type "enumerate") [v] [(Str.ofString "start", .int k t)]) Q E s := by
  refine callType_newKw F.called_enumerate (by decide) (F.typeCall_enumerate_start _ _) (F.newCall_enumerate_start _ _) (fun obj => F.args_object_init_start obj _ _) F.entry_enumerate_new (meets_enum_kw IT k t (fits_start h0 h1)) ⟨hw, ?_⟩
  exact ⟨⟨_, Heap.get?_push_size _ rfl, rfl⟩, h⟩
/-- the keyword call of a built-in type -/
theorem callType_kw {M : Model} {A : Around} {E : Value → Shared → Prop} {s : Shared} {env : Env} {pos : Pos} {T : String} {e : Expr} {rest : List Expr} {kws : List Keyword} {Q : Value → Shared → Prop}
    (h : wpAny M A (spliced (backTo pos (starEach (e :: rest) env))) (fun vs s1 => wpAny M A (evalAll ((backToKw pos (keywordEach kws env)).map (·.2)))
      (fun us s2 => wpAny M A (call (.type T) vs (((backToKw pos (keywordEach kws env)).filterMap (·.1)).zip us)) Q E s2) E s1) E s)
    (he : starEach (e :: rest) env = (false, eval e env) :: starEach rest env) (hp : (backTo pos (starEach (e :: rest) env)).any (·.1) = false)
    (ha : (backToKw pos (keywordEach kws env)).all (·.1.isSome) = true) (hn : (backToKw pos (keywordEach kws env)).any (·.1.isNone) = false) :
    wpAny M A (callWith pos (.type T) [] (backTo pos (starEach (e :: rest) env)) (backToKw pos (keywordEach kws env))) Q E s := by
  have z := evalArgs_kw2 (f := .type T) (Q := fun a s1 => wpAny M A (call (.type T) a.pos a.kw) Q E s1) ha h he
  unfold callWith
  refine wpAny_bind (wpAny_holding (wpAny_mono z (fun a s1 q => wpAny_bind (wpAny_standAt ?_)) fun _ _ q => q))
  rw [hp, hn]
  simp only [Bool.or_false]
  refine wpAny_bind (wpAny_pure ?_)
  exact wpAny_bind (wpAny_mono q (fun r s2 hr => wpAny_bind (wpAny_holding (wpAny_point (wpAny_pure hr)))) fun _ _ q => q)
end EL

/- part E5 -/
namespace EL
open PySem PySem.Spec PyProof.Rows L2
open PySem.W (Frag)
/-! ### enumerate(zip(t, u), start=k) -/
/-- each turn: a new pair of the two items, a new pair of the count and that pair -/
def Itez (K : Frag) (a b : Addr) (k : Int) : It :=
  ⟨fun i H => ∃ (xs ys : List V) (x y : V), SqT K H a xs ∧ SqT K H b ys ∧ xs[i]? = some x ∧ ys[i]? = some y,
    fun i H v H' => ∃ (T0 T1 : Addr) (x y : V), v = .ref T1 ∧ H T0 = none ∧ H T1 = none ∧ T0 ≠ T1 ∧ H' = upd (upd H T0 (.tup [x, y])) T1 (.tup [.int (k + i), .ref T0]) ∧ (∀ xs, SqT K H a xs → xs[i]? = some x) ∧ ∀ ys, SqT K H b ys → ys[i]? = some y,
    fun i H => ∃ xs ys : List V, SqT K H a xs ∧ SqT K H b ys ∧ xs.length ≤ i⟩
def TurnEz (e z TI TO i1 i2 t1 t2 : Addr) (k : Int) (i : Nat) (h : Heap) : Prop :=
  (∃ old, IsEnum h e z (k + i) old) ∧ ZipAt h z TI TO ∧ IsTupOf2 h TI (.ref i1) (.ref i2) ∧ (∃ a b, IsTupOf2 h TO a b) ∧ h.IsTupleIter i1 t1 i ∧ h.IsTupleIter i2 t2 i
theorem fp_mem {e z TI TO i1 i2 b : Addr} (h : b ∈ [e, z, TI, TO, i1, i2]) : b = e ∨ b = z ∨ b = TI ∨ b = TO ∨ b = i1 ∨ b = i2 := by simpa using h
theorem fpOk_upd {X : Cx} {pins : List (Addr × Obj)} {H : Hp} {b T : Addr} {o : HO} (f : FpOk X pins H b) (h : b ≠ T) : FpOk X pins (upd H T o) b :=
  ⟨by rw [upd_ne h]; exact f.1, f.2⟩
theorem turn_ez {P : Program} {w : World} {K : Frag} {elts : List Expr} {kk : Nat} {tpos : Pos} {e z TI TO i1 i2 t1 t2 : Addr} {k : Int} (ap : Apart z TI TO i1 i2 t1 t2)
    (ne : ∀ b ∈ [z, TI, TO, i1, i2], e ≠ b) (te1 : t1 ≠ e) (te2 : t2 ≠ e) :
    Turn P w K (.Tuple elts kk tpos) (Itez K t1 t2 k) [e, z, TI, TO, i1, i2] e (TurnEz e z TI TO i1 i2 t1 t2 k) where
  mem := by simp
  obj := fun i h st b hb => by
    obtain ⟨⟨old, he⟩, ⟨f0, b0, hz, _⟩, hti, ⟨a1, a2, hto⟩, ⟨o1, q1, _, d1⟩, ⟨o2, q2, _, d2⟩⟩ := st
    rcases fp_mem hb with q | q | q | q | q | q <;> subst q
    · exact ⟨_, he, fun v q => nomatch q⟩
    · exact ⟨_, hz, fun v q => nomatch q⟩
    · exact ⟨_, hti, fun v q => nomatch q⟩
    · exact ⟨_, hto, fun v q => nomatch q⟩
    · exact ⟨o1, q1, fun v q => by rw [d1] at q; cases q⟩
    · exact ⟨o2, q2, fun v q => by rw [d2] at q; cases q⟩
  keep := fun i h h' st kp => by
    obtain ⟨⟨old, he⟩, ⟨f0, b0, hz, m⟩, hti, ⟨a1, a2, hto⟩, h1, h2⟩ := st
    exact ⟨⟨old, kp e (by simp) _ he⟩, ⟨f0, b0, kp z (by simp) _ hz, m⟩, kp TI (by simp) _ hti, ⟨a1, a2, kp TO (by simp) _ hto⟩, h1.at fun o q => kp i1 (by simp) o q, h2.at fun o q => kp i2 (by simp) o q⟩
  item := by
    intro X hP hw hK hc i pins s σ H E I hf st hg
    subst hP hw hK
    obtain ⟨⟨old, he⟩, hz, hti, hto, h1, h2⟩ := st
    obtain ⟨xs, ys, x, y, hqx, hqy, hx, hy⟩ := hg
    obtain ⟨its, rv, p, _⟩ := I.tuple hqx
    obtain ⟨its2, rv2, p2, _⟩ := I.tuple hqy
    obtain ⟨u, hu, ru⟩ := rv.get hx
    obtain ⟨u2, hu2, ru2⟩ := rv2.get hy
    have old_lt : ∀ {b o}, s.heap.get? b = some o → b < s.heap.objs.size := fun q => Heap.lt_size q
    have le : e < s.heap.objs.size := old_lt he
    have typ : s.TypeIs (.ref e) "enumerate" := ⟨_, he, rfl⟩
    have ez : e ≠ z := ne z (by simp)
    unfold pyNext
    refine wpAny_bind (wpAny_attempt (wpAny_callSpecial?_slot (name := Str.ofString "__next__") typ F.slot_enumerate_next (wpAny_call_entry F.slot_enumerate_next typ F.entry_enumerate_next
      (wpAny_mono (enum_turn (R := fun v h1 => v = .ref s.heap.objs.size ∧ ZipSt h1 z TI TO i1 i2 t1 t2 its.toArray its2.toArray (i + 1) ∧ IsTupOf2 h1 s.heap.objs.size u u2 ∧ h1.objs.size = s.heap.objs.size + 1 ∧
          ∀ c o, c ≠ z → c ≠ TO → c ≠ i1 → c ≠ i2 → s.heap.get? c = some o → h1.get? c = some o)
        (Q := fun v s' => wpAny (model X.prog X.w) X.A (letOwnedTupleGo (.Tuple elts kk tpos) (.ref e) v) (fun _ s2 => ∃ x H', Inv X pins σ H' s2 ∧ RelV x v ∧ (Itez X.K t1 t2 k).yld i H x H' ∧ TurnEz e z TI TO i1 i2 t1 t2 k (i + 1) s2.heap ∧ ∀ b ∈ [e, z, TI, TO, i1, i2], H' b = none) E s')
        he (fun Q' E' hq => zip_drawn hz (zip_turn ap ⟨hz, hti, hto, h1, h2, p, p2⟩ (by simpa using hu) (by simpa using hu2) fun h' tk st' t' z' k' => hq _ h' tk ?_ ⟨rfl, st', t', z', k'⟩)) ?_) ?_ (fun _ _ q => q)) (F.args_enumerate_next_1 _))))
    · exact k' e _ ez (ne TO (by simp)) (ne i1 (by simp)) (ne i2 (by simp)) he
    · rintro v g1 g2 tk ⟨rfl, st1, pr, z1, k1⟩ _ eo tp z2 k2
      have lt1 : e < g1.objs.size := by rw [z1]; exact Nat.lt_succ_of_lt le
      refine wpAny_letOwnedTupleGo_enum (s := { s with heap := g2, toks := tk + 1 }) eo fun g3 e3 k3 => ?_
      replace k3 : Heap.SameBut e g2 g3 := k3
      -- the pair of the zip, then the pair of the enumerate
      have I1 : Inv X pins σ (upd H s.heap.objs.size (.tup [x, y])) { s with heap := g1, toks := tk } :=
        I.turnedNew (ch := [z, TO, i1, i2]) (fun c o hc q => k1 c o (fun q' => hc (by simp [q'])) (fun q' => hc (by simp [q'])) (fun q' => hc (by simp [q'])) (fun q' => hc (by simp [q'])) q)
          (fun b hb => hf b (by
            have q : b = z ∨ b = TO ∨ b = i1 ∨ b = i2 := by simpa using hb
            rcases q with q | q | q | q <;> simp [q])) (Nat.le_refl _)
          ⟨by show 2 ≤ sizeLine; decide, [u, u2], .cons ru (.cons ru2 .nil), ⟨_, pr, rfl, _, rfl⟩⟩
      have n1 : e ≠ s.heap.objs.size := Nat.ne_of_lt le
      have T1 : g3.get? g1.objs.size = some { cls := .type "tuple", data := .seq #[.int (k + i) tk, .ref s.heap.objs.size] } := ext_of k3 _ _ (Nat.ne_of_gt lt1) tp
      have I2 : Inv X pins σ (upd (upd H s.heap.objs.size (.tup [x, y])) g1.objs.size (.tup [.int (k + i), .ref s.heap.objs.size])) { s with heap := g3, toks := tk + 1 } :=
        I1.turnedNew (ch := [e]) (fun c o hc q => ext_of k3 _ _ (fun q' => hc (by simp [q'])) (k2 c o (fun q' => hc (by simp [q'])) q))
          (fun b hb => by
            have q : b = e := by simpa using hb
            subst q
            exact fpOk_upd (hf _ (by simp)) n1) (Nat.le_refl _)
          ⟨by show 2 ≤ sizeLine; decide, [.int (k + i) tk, .ref s.heap.objs.size], .cons ⟨_, rfl⟩ (.cons rfl .nil), ⟨_, T1, rfl, _, rfl⟩⟩
      have lz : ∀ b ∈ [e, z, TI, TO, i1, i2], b < s.heap.objs.size := by
        intro b hb
        rcases fp_mem hb with q | q | q | q | q | q <;> subst q
        · exact le
        · exact let ⟨_, _, q, _⟩ := hz; old_lt q
        · exact old_lt hti
        · exact let ⟨_, _, q⟩ := hto; old_lt q
        · exact let ⟨_, q, _⟩ := h1; old_lt q
        · exact let ⟨_, q, _⟩ := h2; old_lt q
      have f0 : H s.heap.objs.size = none := I.hok.fresh (Nat.le_refl _)
      have f1 : H g1.objs.size = none := I.hok.fresh (by rw [z1]; omega)
      refine ⟨.ref g1.objs.size, _, I2, rfl, ⟨s.heap.objs.size, g1.objs.size, x, y, rfl, f0, f1, by rw [z1]; exact Nat.ne_of_lt (Nat.lt_succ_self _), rfl, fun l hl => by rw [I.tuple_inj hl hqx]; exact hx, fun l hl => by rw [I.tuple_inj hl hqy]; exact hy⟩, ⟨⟨.ref s.heap.objs.size, ?_⟩, ?_, ?_, ?_, ?_, ?_⟩, fun b hb => ?_⟩
      · have q : (k + ((i + 1 : Nat) : Int)) = k + i + 1 := by omega
        rw [q]
        exact e3
      · obtain ⟨f, b, q, m⟩ := st1.zip
        exact ⟨f, b, ext_of k3 _ _ ez.symm (k2 _ _ ez.symm q), m⟩
      · exact ext_of k3 _ _ (ne TI (by simp)).symm (k2 _ _ (ne TI (by simp)).symm st1.ti)
      · obtain ⟨a1, a2, q⟩ := st1.to
        exact ⟨a1, a2, ext_of k3 _ _ (ne TO (by simp)).symm (k2 _ _ (ne TO (by simp)).symm q)⟩
      · exact st1.it1.at fun o q => ext_of k3 _ _ (ne i1 (by simp)).symm (k2 _ _ (ne i1 (by simp)).symm q)
      · exact st1.it2.at fun o q => ext_of k3 _ _ (ne i2 (by simp)).symm (k2 _ _ (ne i2 (by simp)).symm q)
      · have q := lz b hb
        rw [upd_ne (by rw [z1]; exact Nat.ne_of_lt (Nat.lt_succ_of_lt q)), upd_ne (Nat.ne_of_lt q)]
        exact (hf b hb).1
    · rintro fin s' ⟨v, rfl, q⟩
      exact ⟨v, rfl, wpAny_pure ⟨v, rfl, q⟩⟩
  done := by
    intro X hP hw hK hc i pins s σ H E I hf st hg
    subst hP hw hK
    obtain ⟨⟨old, he⟩, hz, hti, hto, h1, h2⟩ := st
    obtain ⟨xs, ys, hqx, hqy, hx⟩ := hg
    obtain ⟨its, rv, p, _⟩ := I.tuple hqx
    obtain ⟨its2, rv2, p2, _⟩ := I.tuple hqy
    have l1 := rv.length
    have typ : s.TypeIs (.ref e) "enumerate" := ⟨_, he, rfl⟩
    unfold pyNext
    refine wpAny_bind (wpAny_attempt (wpAny_callSpecial?_slot (name := Str.ofString "__next__") typ F.slot_enumerate_next (wpAny_call_entry F.slot_enumerate_next typ F.entry_enumerate_next ?_ (F.args_enumerate_next_1 _))))
    refine wpAny_bind (m := field (.ref e) 2) (wpAny_field he rfl (x := .ref z) rfl (wpAny_bind (zip_drawn hz ?_)))
    refine zip_over (I.ok.hd hc) ap ⟨hz, hti, hto, h1, h2, p, p2⟩ (by simp; omega) fun h' x k' hx' => ?_
    obtain ⟨o, ho, hcls⟩ := hx'
    refine wpAny_bind (wpAny_isInstance (T := "StopIteration") (b := true) ⟨o, ho, hcls⟩ isSubtype_stop (wpAny_pure ⟨rfl, ?_⟩))
    exact I.turnedL (t' := s.toks) (ch := [z, TO, i1, i2]) (fun c o hc q => k' c o (fun q' => hc (by simp [q'])) (fun q' => hc (by simp [q'])) (fun q' => hc (by simp [q'])) (fun q' => hc (by simp [q'])) q)
      (fun b hb => hf b (by
        have q : b = z ∨ b = TO ∨ b = i1 ∨ b = i2 := by simpa using hb
        rcases q with q | q | q | q <;> simp [q]))
  self := fun A i s Q E st h => let ⟨⟨_, he⟩, _⟩ := st; wpAny_pyIter_enum he h
end EL

/- part E6 -/
namespace EL
open PySem PySem.Spec PyProof.Rows L2
open PySem.W (Frag)
/-- the keyword's constant -/
theorem start_kw {X : Cx} {pos : Pos} {k : Int} {j : Nat} {p kp : Pos} {E : Value → Shared → Prop} {s : Shared} {Q : List Value → Shared → Prop} (h : Q [.int k s.toks] { s with toks := s.toks + 1 }) :
    wpAny (model X.prog X.w) X.A (evalAll ((backToKw pos (keywordEach [⟨some "start", .Constant (.int k) j p, kp⟩] X.env)).map (·.2))) Q E s := by
  show wpAny _ _ (evalAll ((do let v ← eval (.Constant (.int k) j p) X.env; standAt pos; pure v) :: [])) _ _ s
  exact wpAny_evalAll_cons (wpAny_bind (wpAny_Constant_int (wpAny_bind (wpAny_standAt (wpAny_pure (wpAny_evalAll_nil h))))))
theorem zip_apart (N a b : Addr) (ha : a < N) (hb : b < N) : Apart (N + 4) (N + 2) (N + 3) N (N + 1) a b := by
  constructor <;> intro q <;> simp only [Addr] at * <;> omega
def iEz (K : Frag) (k : Int) (ta : TA) : TI := fun σ H R => ta σ H fun vs H1 => ∃ a b xs ys, vs = [.ref a, .ref b] ∧ SqT K H1 a xs ∧ SqT K H1 b ys ∧ R (Itez K a b k) H1
theorem pi_ez {X : Cx} {e e2 : Expr} {ta : TA} {p p2 pos pos2 tpos cp kp : Pos} {elts : List Expr} {kk j : Nat} {k : Int} (hg : Gl X "enumerate") (hm : X.mg "enumerate" = none) (hg2 : Gl X "zip") (hm2 : X.mg "zip" = none) (ha : PA X [e, e2] ta)
    (h0 : -(2 ^ 63) ≤ k) (h1 : k < 2 ^ 63)
    (hs : starEach [e, e2] X.env = (false, eval e X.env) :: starEach [e2] X.env := by rfl) (hpl : (backTo pos2 (starEach [e2] X.env)).any (·.1) = false := by rfl) :
    PI X (.Tuple elts kk tpos) (.Call (.Name "enumerate" p) [.Call (.Name "zip" p2) [e, e2] [] pos2] [⟨some "start", .Constant (.int k) j cp, kp⟩] pos) (iEz X.K k ta) := by
  refine ⟨fun pins s σ H R I h => ?_⟩
  apply wpAny_Call_Name_kw
  refine ld_blt I hg hm boot_enumerate ?_
  refine callType_kw (e := .Call (.Name "zip" p2) [e, e2] [] pos2) (rest := []) ?_ rfl rfl rfl rfl
  show wpAny _ _ (spliced [(false, eval (.Call (.Name "zip" p2) [e, e2] [] pos2) X.env)]) _ _ _
  refine Calls.spliced_cons ?_
  refine Call_ (ld_blt I hg2 hm2 PyProof.Rows.boot_zip (PyProof.Rows.callWith_type1 (thn (ha.run pos2 pins s σ H _ I h) ?_) hs hpl))
  rintro us s1 ⟨vs, H1, I1, r1, a, b, xs, ys, rfl, hqx, hqy, q⟩
  obtain ⟨ua, ub, rfl, ra, rb⟩ := vals2 r1
  cases (show ua = Value.ref a from ra)
  cases (show ub = Value.ref b from rb)
  obtain ⟨its, rv, pa, _⟩ := I1.tuple hqx
  obtain ⟨its2, rv2, pb, _⟩ := I1.tuple hqy
  refine zip_begins2 (begins_tuple a its.toArray) (begins_tuple b its2.toArray) pa pb fun h' hz hti hto hi1 hi2 hsz hk => ?_
  have I2 : Inv X pins σ H1 { s1 with heap := h' } := I1.kept (t' := s1.toks) hk
  refine Calls.spliced_nil (start_kw ?_)
  have za : ZipAt h' (s1.heap.objs.size + 4) (s1.heap.objs.size + 2) (s1.heap.objs.size + 3) := ⟨.none, false, hz, .inl rfl⟩
  refine enum_made (W := fun h => ZipAt h (s1.heap.objs.size + 4) (s1.heap.objs.size + 2) (s1.heap.objs.size + 3)) (rv := fun _ => .ref (s1.heap.objs.size + 4)) (f := fun h => h) (fun prog w A E s Q hw hq => zip_itself hw hq) h0 h1 za ?_
  have he : IsEnum (h'.push (enumObj (.ref (s1.heap.objs.size + 4)) k)) (s1.heap.objs.size + 5) (s1.heap.objs.size + 4) k .none := by
    have z := Heap.get?_push_size h' (o := enumObj (.ref (s1.heap.objs.size + 4)) k) rfl
    rw [hsz] at z
    exact z
  show wpAny _ _ (pyIter (.ref h'.objs.size)) _ _ _
  rw [hsz]
  refine wpAny_pyIter_enum he ?_
  have I3 : Inv X pins σ H1 { s1 with heap := h'.push (enumObj (.ref (s1.heap.objs.size + 4)) k), toks := s1.toks + 1 } := I1.kept fun c o q => Heap.get?_push_of_some _ (hk c o q)
  have up : ∀ c o, h'.get? c = some o → (h'.push (enumObj (.ref (s1.heap.objs.size + 4)) k)).get? c = some o := fun c o q => Heap.get?_push_of_some _ q
  have la : a < s1.heap.objs.size := pa.lt
  have lb : b < s1.heap.objs.size := pb.lt
  refine ⟨s1.heap.objs.size + 5, [s1.heap.objs.size + 5, s1.heap.objs.size + 4, s1.heap.objs.size + 2, s1.heap.objs.size + 3, s1.heap.objs.size, s1.heap.objs.size + 1], _, _, H1, rfl, I3,
    turn_ez (zip_apart s1.heap.objs.size a b la lb) (fun b hb => ?_) ?_ ?_, ⟨⟨.none, ?_⟩, ⟨.none, false, up _ _ hz, .inl rfl⟩, up _ _ hti, ⟨_, _, up _ _ hto⟩, ⟨_, up _ _ hi1, rfl, rfl⟩, ⟨_, up _ _ hi2, rfl, rfl⟩⟩, fun c hc => ?_, q⟩
  · have q : b = s1.heap.objs.size + 4 ∨ b = s1.heap.objs.size + 2 ∨ b = s1.heap.objs.size + 3 ∨ b = s1.heap.objs.size ∨ b = s1.heap.objs.size + 1 := by simpa using hb
    intro z
    simp only [Addr] at *
    omega
  · intro z
    simp only [Addr] at *
    omega
  · intro z
    simp only [Addr] at *
    omega
  · have q : k + ((0 : Nat) : Int) = k := by omega
    rw [q]
    exact he
  · have q := fp_mem hc
    have hle : s1.heap.objs.size ≤ c := by
      simp only [Addr] at *
      omega
    exact I1.fpOk hle (I1.hok.fresh hle)
/-! ### enumerate(t, start=k) -/
def Ites (K : Frag) (a : Addr) (k : Int) : It :=
  ⟨fun i H => ∃ (xs : List V) (x : V), SqT K H a xs ∧ xs[i]? = some x, fun i H v H' => ∃ T x, v = .ref T ∧ H T = none ∧ H' = upd H T (.tup [.int (k + i), x]) ∧ ∀ xs, SqT K H a xs → xs[i]? = some x, fun i H => ∃ xs : List V, SqT K H a xs ∧ xs.length ≤ i⟩
def TurnEs (e it t : Addr) (k : Int) (i : Nat) (h : Heap) : Prop := (∃ old, IsEnum h e it (k + i) old) ∧ h.IsTupleIter it t i
theorem turn_es {P : Program} {w : World} {K : Frag} {elts : List Expr} {kk : Nat} {tpos : Pos} {e it t : Addr} {k : Int} (ne : e ≠ it) : Turn P w K (.Tuple elts kk tpos) (Ites K t k) [e, it] e (TurnEs e it t k) where
  mem := by simp
  obj := fun i h st b hb => by
    obtain ⟨⟨old, he⟩, ⟨o1, q1, _, d1⟩⟩ := st
    have q : b = e ∨ b = it := by simpa using hb
    rcases q with q | q <;> subst q
    · exact ⟨_, he, fun v q => nomatch q⟩
    · exact ⟨o1, q1, fun v q => by rw [d1] at q; cases q⟩
  keep := fun i h h' st kp => by
    obtain ⟨⟨old, he⟩, h1⟩ := st
    exact ⟨⟨old, kp e (by simp) _ he⟩, h1.at fun o q => kp it (by simp) o q⟩
  item := by
    intro X hP hw hK hc i pins s σ H E I hf st hg
    subst hP hw hK
    obtain ⟨⟨old, he⟩, h1⟩ := st
    obtain ⟨xs, x, hqx, hx⟩ := hg
    obtain ⟨its, rv, p, _⟩ := I.tuple hqx
    obtain ⟨u, hu, ru⟩ := rv.get hx
    have le : e < s.heap.objs.size := Heap.lt_size he
    have typ : s.TypeIs (.ref e) "enumerate" := ⟨_, he, rfl⟩
    unfold pyNext
    refine wpAny_bind (wpAny_attempt (wpAny_callSpecial?_slot (name := Str.ofString "__next__") typ F.slot_enumerate_next (wpAny_call_entry F.slot_enumerate_next typ F.entry_enumerate_next
      (wpAny_mono (enum_turn (R := fun v h' => v = u ∧ h'.IsTupleIter it t (i + 1) ∧ Heap.SameBut it s.heap h')
        (Q := fun v s' => wpAny (model X.prog X.w) X.A (letOwnedTupleGo (.Tuple elts kk tpos) (.ref e) v) (fun _ s2 => ∃ x H', Inv X pins σ H' s2 ∧ RelV x v ∧ (Ites X.K t k).yld i H x H' ∧ TurnEs e it t k (i + 1) s2.heap ∧ ∀ b ∈ [e, it], H' b = none) E s')
        he (fun Q' E' hq => wpAny_nextOf_tuple_item h1 p (x := u) (by simpa using hu) fun h' st' k' => hq _ h' s.toks (ext_of k' _ _ ne he) ⟨rfl, st', k'⟩) ?_) ?_ (fun _ _ q => q)) (F.args_enumerate_next_1 _))))
    · rintro v g1 g2 tk ⟨rfl, st1, k1⟩ lt1 eo tp z2 k2
      refine wpAny_letOwnedTupleGo_enum (s := { s with heap := g2, toks := tk + 1 }) eo fun g3 e3 k3 => ?_
      replace k3 : Heap.SameBut e g2 g3 := k3
      have T1 : g3.get? g1.objs.size = some { cls := .type "tuple", data := .seq #[.int (k + i) tk, v] } := ext_of k3 _ _ (Nat.ne_of_gt lt1) tp
      have sz : s.heap.objs.size = g1.objs.size := k1.1.symm
      have I2 : Inv X pins σ (upd H g1.objs.size (.tup [.int (k + i), x])) { s with heap := g3, toks := tk + 1 } :=
        I.turnedNew (ch := [e, it]) (fun c o hc q => ext_of k3 _ _ (fun q' => hc (by simp [q'])) (k2 c o (fun q' => hc (by simp [q'])) (ext_of k1 _ _ (fun q' => hc (by simp [q'])) q)))
          hf (Nat.le_of_eq sz) ⟨by show 2 ≤ sizeLine; decide, [.int (k + i) tk, v], .cons ⟨_, rfl⟩ (.cons ru .nil), ⟨_, T1, rfl, _, rfl⟩⟩
      refine ⟨.ref g1.objs.size, _, I2, rfl, ⟨g1.objs.size, x, rfl, I.hok.fresh (Nat.le_of_eq sz), rfl, fun l hl => by rw [I.tuple_inj hl hqx]; exact hx⟩, ⟨⟨v, ?_⟩, ?_⟩, fun b hb => ?_⟩
      · have q : (k + ((i + 1 : Nat) : Int)) = k + i + 1 := by omega
        rw [q]
        exact e3
      · exact st1.at fun o q => ext_of k3 _ _ ne.symm (k2 _ _ ne.symm q)
      · have q : b < g1.objs.size := by
          have q : b = e ∨ b = it := by simpa using hb
          rcases q with q | q <;> subst q
          · exact lt1
          · exact let ⟨_, q, _⟩ := st1; Heap.lt_size q
        rw [upd_ne (Nat.ne_of_lt q)]
        exact (hf b hb).1
    · rintro fin s' ⟨v, rfl, q⟩
      exact ⟨v, rfl, wpAny_pure ⟨v, rfl, q⟩⟩
  done := by
    intro X hP hw hK hc i pins s σ H E I hf st hg
    subst hP hw hK
    obtain ⟨⟨old, he⟩, h1⟩ := st
    obtain ⟨xs, hqx, hx⟩ := hg
    obtain ⟨its, rv, p, _⟩ := I.tuple hqx
    have l1 := rv.length
    have typ : s.TypeIs (.ref e) "enumerate" := ⟨_, he, rfl⟩
    unfold pyNext
    refine wpAny_bind (wpAny_attempt (wpAny_callSpecial?_slot (name := Str.ofString "__next__") typ F.slot_enumerate_next (wpAny_call_entry F.slot_enumerate_next typ F.entry_enumerate_next ?_ (F.args_enumerate_next_1 _))))
    refine wpAny_bind (m := field (.ref e) 2) (wpAny_field he rfl (x := .ref it) rfl (wpAny_bind ?_))
    refine wpAny_nextOf_tuple_end (I.ok.hd hc) h1 p (by simp; omega) fun h' x k' hx' => ?_
    obtain ⟨o, ho, hcls⟩ := hx'
    refine wpAny_bind (wpAny_isInstance (T := "StopIteration") (b := true) ⟨o, ho, hcls⟩ isSubtype_stop (wpAny_pure ⟨rfl, ?_⟩))
    exact I.turnedL (t' := s.toks) (ch := [it]) (fun c o hc q => k' c o (fun q' => hc (by simp [q'])) q) (fun b hb => hf b (by
      have q : b = it := by simpa using hb
      simp [q]))
  self := fun A i s Q E st h => let ⟨⟨_, he⟩, _⟩ := st; wpAny_pyIter_enum he h
def iEs (K : Frag) (k : Int) (ta : TA) : TI := fun σ H R => ta σ H fun vs H1 => ∃ a xs, vs = [.ref a] ∧ SqT K H1 a xs ∧ R (Ites K a k) H1
theorem pi_es {X : Cx} {e : Expr} {ta : TA} {p pos tpos cp kp : Pos} {elts : List Expr} {kk j : Nat} {k : Int} (hg : Gl X "enumerate") (hm : X.mg "enumerate" = none) (ha : PA X [e] ta) (h0 : -(2 ^ 63) ≤ k) (h1 : k < 2 ^ 63)
    (hs : starEach [e] X.env = (false, eval e X.env) :: starEach [] X.env := by rfl) (hpl : (backTo pos (starEach [e] X.env)).any (·.1) = false := by rfl) :
    PI X (.Tuple elts kk tpos) (.Call (.Name "enumerate" p) [e] [⟨some "start", .Constant (.int k) j cp, kp⟩] pos) (iEs X.K k ta) := by
  refine ⟨fun pins s σ H R I h => ?_⟩
  apply wpAny_Call_Name_kw
  refine ld_blt I hg hm boot_enumerate (callType_kw (thn (ha.run pos pins s σ H _ I h) ?_) hs hpl rfl rfl)
  rintro us s1 ⟨vs, H1, I1, r1, a, xs, rfl, hqx, q⟩
  cases r1 with
  | cons ra rn =>
    cases rn
    cases ra
    obtain ⟨its, rv, pa, _⟩ := I1.tuple hqx
    refine start_kw (enum_begins_start (begins_tuple a its.toArray) pa h0 h1 fun h' he hit hsz hk => wpAny_pyIter_enum he ?_)
    refine ⟨s1.heap.objs.size + 1, [s1.heap.objs.size + 1, s1.heap.objs.size], _, _, H1, rfl, I1.kept (t' := s1.toks + 1) hk, turn_es (Nat.succ_ne_self _), ⟨⟨.none, ?_⟩, ⟨_, hit, rfl, rfl⟩⟩, fun c hc => ?_, q⟩
    · have q : k + ((0 : Nat) : Int) = k := by omega
      rw [q]
      exact he
    · have q : c = s1.heap.objs.size + 1 ∨ c = s1.heap.objs.size := by simpa using hc
      have hle : s1.heap.objs.size ≤ c := by
        simp only [Addr] at *
        omega
      exact I1.fpOk hle (I1.hok.fresh hle)
end EL

/- part E7 -/
/-! enumerate(t) over a tuple; loops over enumerate -/
namespace EL
open PySem PySem.Spec PyProof.Rows L2
open PySem.W (Frag)
theorem tcall_enum_1 (a : Value) : checkTypeCall "enumerate" ⟨[a], []⟩ = pure () := by kernel_rfl
set_option maxHeartbeats 2000000 in
theorem meets_enum_1 {v : Value} {rv : Heap → Value} {f : Heap → Heap} {W : Heap → Prop}
    (IT : ∀ (prog : Program) (w : World) (A : Around) (E : Value → Shared → Prop) (s : Shared) (Q : Value → Shared → Prop), W s.heap → Q (rv s.heap) { s with heap := f s.heap } → wpAny (model prog w) A (pyIter v) Q E s) :
    Meets (Builtin.«enumerate.__new__» ⟨[.type "enumerate", v], []⟩) (fun _ R s => W s.heap ∧ R (.ok (.ret (.ref (f s.heap).objs.size))) { s with heap := (f s.heap).push (enumObj (rv s.heap) 0) }) :=
  .of_wp fun prog w A R s h => by
    obtain ⟨hp, g, d, tk, os⟩ := s
    obtain ⟨h1, h⟩ := h
    have sub := sub_enumerate
    have go : ∀ {A' : Around} {E : Value → Shared → Prop} {Q : Value → Shared → Prop}, Q (rv hp) ⟨f hp, g, d, tk, os⟩ → wpAny (model prog w) A' (pyIter v) Q E ⟨hp, g, d, tk, os⟩ := fun q => IT prog w _ _ ⟨hp, g, d, tk, os⟩ _ h1 q
    wp_walk using go
    refine wpAny_stack_any fun st => wpAny_pure ?_
    split
    · rename_i c _ _ _ _ _
      cases (c == Value.type "enumerate")
      · wp_walk using go
        exact ⟨_, rfl, h⟩
      · wp_walk using go
        exact ⟨_, rfl, h⟩
    · wp_walk using go
      exact ⟨_, rfl, h⟩
theorem enum_begins_1 {prog : Program} {w : World} {A : Around} {E : Value → Shared → Prop} {s : Shared} {v : Value} {o : Obj} {H : Heap → Prop} {Q : Value → Shared → Prop} (B : Begins v o H) (h : H s.heap)
    (q : ∀ h' : Heap, IsEnum h' (s.heap.objs.size + 1) s.heap.objs.size 0 .none → h'.get? s.heap.objs.size = some o → h'.objs.size = s.heap.objs.size + 2 → (∀ (b : Addr) (o : Obj), s.heap.get? b = some o → h'.get? b = some o) → Q (.ref (s.heap.objs.size + 1)) { s with heap := h' }) :
    wpAny (model prog w) A (call (.type "enumerate") [v]) Q E s := by
  refine callType_new F.called_enumerate (by decide) (F.typeCall_enumerate_1 _) (F.newCall_enumerate_1 _) (fun obj => F.args_object_init_2 obj _) F.entry_enumerate_new
    (meets_enum_1 (W := H) (rv := fun h => .ref h.objs.size) (f := fun h => h.push o) fun prog w A E s Q hw hq => B.iter prog w A E s Q hw hq) ⟨h, ?_⟩
  have z : (s.heap.push o).objs.size = s.heap.objs.size + 1 := Heap.size_push ..
  have e1 : IsEnum ((s.heap.push o).push (enumObj (.ref s.heap.objs.size) 0)) (s.heap.objs.size + 1) s.heap.objs.size 0 .none := by
    have y := Heap.get?_push_size (s.heap.push o) (o := enumObj (.ref s.heap.objs.size) 0) rfl
    rw [z] at y
    exact y
  refine ⟨⟨_, Heap.get?_push_size _ rfl, rfl⟩, ?_⟩
  show Q (.ref (s.heap.push o).objs.size) _
  rw [z]
  refine q _ e1 (Heap.get?_push_of_some _ (Heap.get?_push_size _ B.free)) ((Heap.size_push ..).trans (by rw [z])) fun b o' hb => Heap.get?_push_of_some _ (Heap.get?_push_of_some _ hb)
theorem evalAll_nil {M : Model} {A : Around} {E : Value → Shared → Prop} {s : Shared} {Q : List Value → Shared → Prop} (h : Q [] s) : wpAny M A (evalAll []) Q E s := wpAny_pure h
def iE1 (K : Frag) (ta : TA) : TI := fun σ H R => ta σ H fun vs H1 => ∃ a xs, vs = [.ref a] ∧ SqT K H1 a xs ∧ R (Ites K a 0) H1
theorem pi_e1 {X : Cx} {e : Expr} {ta : TA} {p pos tpos : Pos} {elts : List Expr} {kk : Nat} (hg : Gl X "enumerate") (hm : X.mg "enumerate" = none) (ha : PA X [e] ta)
    (hs : starEach [e] X.env = (false, eval e X.env) :: starEach [] X.env := by rfl) (hpl : (backTo pos (starEach [e] X.env)).any (·.1) = false := by rfl) :
    PI X (.Tuple elts kk tpos) (.Call (.Name "enumerate" p) [e] [] pos) (iE1 X.K ta) := by
  refine ⟨fun pins s σ H R I h => ?_⟩
  apply wpAny_Call_Name_kw
  refine ld_blt I hg hm boot_enumerate (callType_kw (thn (ha.run pos pins s σ H _ I h) ?_) hs hpl rfl rfl)
  rintro us s1 ⟨vs, H1, I1, r1, a, xs, rfl, hqx, q⟩
  cases r1 with
  | cons ra rn =>
    cases rn
    cases ra
    obtain ⟨its, rv, pa, _⟩ := I1.tuple hqx
    refine evalAll_nil (enum_begins_1 (begins_tuple a its.toArray) pa fun h' he hit hsz hk => wpAny_pyIter_enum he ?_)
    refine ⟨s1.heap.objs.size + 1, [s1.heap.objs.size + 1, s1.heap.objs.size], _, _, H1, rfl, I1.kept (t' := s1.toks) hk, turn_es (Nat.succ_ne_self _), ⟨⟨.none, ?_⟩, ⟨_, hit, rfl, rfl⟩⟩, fun c hc => ?_, q⟩
    · exact he
    · have q : c = s1.heap.objs.size + 1 ∨ c = s1.heap.objs.size := by simpa using hc
      have hle : s1.heap.objs.size ≤ c := by
        simp only [Addr] at *
        omega
      exact I1.fpOk hle (I1.hok.fresh hle)
/-! ### loops over them -/
/-- a turn of enumerate(t, start=k) -/
def YEs (k : Int) (xs : List V) : Nat → Hp → V → Hp → Prop := fun i H v H' => ∃ T x, v = V.ref T ∧ H T = none ∧ H' = upd H T (.tup [.int (k + i), x]) ∧ xs[i]? = some x
theorem walk_es {K : Frag} {a : Addr} {k : Int} {xs : List V} : Walk (Ites K a k) xs.length (fun H => SqT K H a xs) (YEs k xs) :=
  ⟨fun i H hi h => ⟨xs, xs[i], h, List.getElem?_eq_getElem hi⟩, fun H h => ⟨xs, h, Nat.le_refl _⟩, fun i H x H' hi h ⟨T, y, e, hT, hH, hy⟩ => ⟨T, y, e, hT, hH, hy xs h⟩⟩
/-- a turn of enumerate(zip(t, u), start=k) -/
def YEz (k : Int) (xs ys : List V) : Nat → Hp → V → Hp → Prop := fun i H v H' => ∃ T0 T1 x y, v = V.ref T1 ∧ H T0 = none ∧ H T1 = none ∧ T0 ≠ T1 ∧ H' = upd (upd H T0 (.tup [x, y])) T1 (.tup [.int (k + i), .ref T0]) ∧ xs[i]? = some x ∧ ys[i]? = some y
theorem walk_ez {K : Frag} {a b : Addr} {k : Int} {xs ys : List V} (hl : xs.length = ys.length) : Walk (Itez K a b k) xs.length (fun H => SqT K H a xs ∧ SqT K H b ys) (YEz k xs ys) :=
  ⟨fun i H hi h => ⟨xs, ys, xs[i], ys[i], h.1, h.2, List.getElem?_eq_getElem hi, List.getElem?_eq_getElem (hl ▸ hi)⟩, fun H h => ⟨xs, ys, h.1, h.2, Nat.le_refl _⟩,
   fun i H x H' hi h ⟨T0, T1, y, z, e, h0, h1, ne, hH, hy, hz⟩ => ⟨T0, T1, y, z, e, h0, h1, ne, hH, hy xs h.1, hz ys h.2⟩⟩
end EL

/- part U -/
/-! Operators by the values that they meet; how a reading goes on -/
namespace EL
open PySem PySem.Spec PyProof.Rows L2
open PySem.W (Frag)
section
variable {X : Cx}
/-! ### rules that take what comes -/
theorem PI.alt {tg e : Expr} {w1 w2 : TI} (h1 : PI X tg e w1) (h2 : PI X tg e w2) : PI X tg e (fun σ H R => w1 σ H R ∨ w2 σ H R) :=
  ⟨fun pins s σ H R I h => h.elim (h1.run pins s σ H R I) (h2.run pins s σ H R I)⟩
theorem get_list : PGet X (rIxL X.K) := by
  rintro pins s σ H o i ov iv Q I ro ri ⟨p, xs, k, v, rfl, rfl, hq, hv, q⟩
  cases ro
  obtain ⟨t, rfl⟩ := ri
  obtain ⟨its, r, pl, hz⟩ := I.list hq
  obtain ⟨j, h1, h2, h3, h4, h5⟩ := atI_get hv
  obtain ⟨u, hu, ru⟩ := r.get h2
  have hl := r.length
  have hn := line63
  by_cases h0 : 0 ≤ k
  · have hj : k.toNat = j := by
      rw [seqIndex_of h0 h5] at h1
      exact Option.some.inj h1
    exact wpAny_getItem_list pl.isList h0 (by omega) (by rw [hj]; simpa using hu) ⟨v, H, I, ru, q⟩
  · have hj : (k + (its.toArray.size : Int)).toNat = j := by
      rw [seqIndex_neg (by omega) h4] at h1
      rw [List.size_toArray, ← hl]
      exact Option.some.inj h1
    exact wpAny_getItem_list_neg pl.isList (by omega) (by rw [List.size_toArray] <;> omega) (by omega) (by rw [hj]; simpa using hu) ⟨v, H, I, ru, q⟩
abbrev rAddI : R2 := rI0 fun i j => .int (i + j)
def rAdd (K : Frag) : R2 := fun x y H Q => rAddI x y H Q ∨ rCat x y H Q ∨ rCatA K x y H Q
theorem u_add : OpR X (binaryOp .Add) (rAdd X.K) := op_add.or (op_cat.or op_catA)
def rMul : R2 := fun x y H Q => rI CMul (fun i j => .int (i * j)) x y H Q ∨ rRep x y H Q
theorem u_mul : OpR X (binaryOp .Mult) rMul := op_mul.or op_rep
def rEqU (K : Frag) : R2 := fun x y H Q => rEq x y H Q ∨ rEqD K x y H Q
def rNeU (K : Frag) : R2 := fun x y H Q => rNe x y H Q ∨ rNeD K x y H Q
theorem u_eq (hu : X.A.units + 64 < cLine) : OpR X (compareOp .Eq) (rEqU X.K) := op_eq.or (op_eqD hu)
theorem u_ne (hu : X.A.units + 64 < cLine) : OpR X (compareOp .NotEq) (rNeU X.K) := op_ne.or (op_neD hu)
abbrev rIsNone : R2 := fun x y H Q => y = .non ∧ Q (.bl (decide (x = .non))) H
abbrev rNotNone : R2 := fun x y H Q => y = .non ∧ Q (.bl (!decide (x = .non))) H
/-- x is True, for any x that is no bool, too -/
abbrev rIsTrue : R2 := rIsB
theorem op_notBI {X : Cx} : OpR X (compareOp .IsNot) (fun x y H Q => ∃ i b, x = .int i ∧ y = .bl b ∧ Q (.bl true) H) := by
  rintro pins s σ H x y v u Q I rx ry ⟨i, b, rfl, rfl, q⟩
  obtain ⟨t, rfl⟩ := rx
  cases ry
  have e : (Value.int i t == Value.bool b) = false := by rfl
  exact wpAny_pure ⟨.bl true, H, I, by rw [e]; rfl, q⟩
theorem op_isBI {X : Cx} : OpR X (compareOp .Is) (fun x y H Q => ∃ i b, x = .int i ∧ y = .bl b ∧ Q (.bl false) H) := by
  rintro pins s σ H x y v u Q I rx ry ⟨i, b, rfl, rfl, q⟩
  obtain ⟨t, rfl⟩ := rx
  cases ry
  have e : (Value.int i t == Value.bool b) = false := by rfl
  exact wpAny_pure ⟨.bl false, H, I, by rw [e]; rfl, q⟩
def rIsU : R2 := fun x y H Q => rIsNone x y H Q ∨ rIsB x y H Q ∨ ∃ i b, x = .int i ∧ y = .bl b ∧ Q (.bl false) H
def rNotU : R2 := fun x y H Q => rNotNone x y H Q ∨ rNotB x y H Q ∨ ∃ i b, x = .int i ∧ y = .bl b ∧ Q (.bl true) H
theorem u_is : OpR X (compareOp .Is) rIsU := op_isN.or (op_isBl.or op_isBI)
theorem u_isnot : OpR X (compareOp .IsNot) rNotU := op_notN.or (op_notBl.or op_notBI)
theorem u_in : OpR X (compareOp .In) (rIn X.K false) := op_in_seq
theorem u_notin : OpR X (compareOp .NotIn) (rIn X.K true) := op_notIn_seq
abbrev rLen (K : Frag) : List V → Hp → VK → Prop := fun xs H Q => ∃ p ys, xs = [.ref p] ∧ (SqL K H p ys ∨ SqT K H p ys) ∧ Q (.int ys.length) H
theorem u_len : CallR X (.builtin "len") (rLen X.K) := call_len_seq
def rIsiU (K : Frag) : List V → Hp → VK → Prop := fun xs H Q => rIsi K xs H Q ∨ rIsiT K xs H Q
theorem u_isi : CallR X (.builtin "isinstance") (rIsiU X.K) := call_isi.or call_isiT
abbrev rInt : List V → Hp → VK → Prop := fun xs H Q => (∃ i, xs = [.int i] ∧ Q (.int i) H) ∨ ∃ k, xs = [.bl k] ∧ Q (.int (if k then 1 else 0)) H
theorem u_int : CallR X (.type "int") rInt := call_int1
abbrev rList (K : Frag) : List V → Hp → VK → Prop := fun xs H Q => ∃ p ys, xs = [.ref p] ∧ (SqL K H p ys ∨ SqT K H p ys) ∧ ∀ l, H l = none → Q (.ref l) (upd H l (.lst ys))
theorem u_list : CallR X (.type "list") (rList X.K) := call_list_of
abbrev rTuple (K : Frag) : List V → Hp → VK → Prop := fun xs H Q => ∃ p ys, xs = [.ref p] ∧ ((SqL K H p ys ∧ ∀ l, H l = none → Q (.ref l) (upd H l (.tup ys))) ∨ (SqT K H p ys ∧ Q (.ref p) H))
theorem u_tuple : CallR X (.type "tuple") (rTuple X.K) := call_tuple_of
def rSlice (K : Frag) : V → Option Int → Option Int → Hp → VK → Prop := fun x lo hi H Q => rSlL K x lo hi H Q ∨ rSlA K x lo hi H Q
theorem u_slice : SlR X (rSlice X.K) := sl_list.or sl_tupA
def iSeq (K : Frag) (tl : TE) : TI := fun σ H R => iList K tl σ H R ∨ iTup K tl σ H R
theorem u_iter {tg l : Expr} {tl : TE} (hl : PE X l tl) : PI X tg l (iSeq X.K tl) := PI.alt (pi_list hl) (pi_tup hl)
theorem u_min (hc : X.calm = true) : CallR X (.builtin "min") (fun xs H Q => (∃ i j, xs = [.int i, .int j] ∧ Q (.int (if j < i then j else i)) H) ∨ rMin X.K xs H Q) := (call_min2 hc).or (cr_min hc)
theorem u_max (hc : X.calm = true) : CallR X (.builtin "max") (fun xs H Q => (∃ i j, xs = [.int i, .int j] ∧ Q (.int (if j > i then j else i)) H) ∨ rMax X.K xs H Q) := (call_max2 hc).or (cr_max hc)
end
/-! ### what stays: all but the bag at b -/
/-- everything else stays -/
def Kp (b : Addr) (H H' : Hp) : Prop := ∀ a o, a ≠ b → H a = some o → H' a = some o
theorem Kp.refl (b : Addr) (H : Hp) : Kp b H H := fun _ _ _ h => h
theorem Kp.trans {b : Addr} {H H1 H2 : Hp} (p : Kp b H H1) (q : Kp b H1 H2) : Kp b H H2 := fun a o n h => q a o n (p a o n h)
theorem Kp.new {b p : Addr} {H H1 : Hp} {o : HO} (k : Kp b H H1) (h : H1 p = none) : Kp b H (upd H1 p o) := fun a u n e => by
  have q := k a u n e
  rw [upd_ne (ne_of_none q h)]
  exact q
/-- an object that is new since H may change -/
theorem Kp.mut {b p : Addr} {H H1 : Hp} {o : HO} (k : Kp b H H1) (h : H p = none) : Kp b H (upd H1 p o) := fun a u n e => by
  rw [upd_ne (ne_of_none e h)]
  exact k a u n e
theorem Kp.bag {b : Addr} {H H1 : Hp} {o : HO} (k : Kp b H H1) : Kp b H (upd H1 b o) := fun a u n e => by
  rw [upd_ne n]
  exact k a u n e
theorem Kp.free {b p : Addr} {H H1 : Hp} (k : Kp b H H1) (h : H1 p = none) (n : p ≠ b) : H p = none := by
  cases q : H p with
  | none => rfl
  | some o =>
    rw [k p o n q] at h
    cases h
theorem same_kp {b : Addr} {H H' : Hp} (s : Same H H') : Kp b H H' := fun a o _ h => s a o h
/-! ### the way on, construct by construct -/
section
variable {σ : L2.St} {H : Hp} {Q : VK} {K : Frag}
theorem n_add {i j : Int} (q : Q (.int (i + j)) H) : rAdd K (.int i) (.int j) H Q := .inl ⟨i, j, rfl, rfl, q⟩
theorem n_cat {l m : Addr} {xs ys : List V} (h1 : H l = some (.lst xs)) (h2 : H m = some (.lst ys)) (z : xs.length + ys.length ≤ sizeLine) (q : ∀ p, H p = none → Q (.ref p) (upd H p (.lst (xs ++ ys)))) : rAdd K (.ref l) (.ref m) H Q :=
  .inr (.inl ⟨l, m, xs, ys, rfl, rfl, h1, h2, z, q⟩)
theorem n_mul {i j : Int} (c : CMul i j) (q : Q (.int (i * j)) H) : rMul (.int i) (.int j) H Q := .inl ⟨i, j, rfl, rfl, c, q⟩
theorem n_eq {x y : V} (s : scal x y = true) (q : Q (.bl (decide (x = y))) H) : rEqU K x y H Q := .inl ⟨s, q⟩
theorem n_ne {x y : V} (s : scal x y = true) (q : Q (.bl (!decide (x = y))) H) : rNeU K x y H Q := .inl ⟨s, q⟩
theorem n_eqD {x y : V} {d e : PyData} (hd : Dp K H x d) (he : Dp K H y e) (sd : SeqAt.shaped d = true) (se : SeqAt.shaped e = true) (q : Q (.bl (PyData.eqv d e)) H) : rEqU K x y H Q := .inr ⟨d, e, hd, he, sd, se, q⟩
theorem n_neD {x y : V} {d e : PyData} (hd : Dp K H x d) (he : Dp K H y e) (sd : SeqAt.shaped d = true) (se : SeqAt.shaped e = true) (q : Q (.bl (!PyData.eqv d e)) H) : rNeU K x y H Q := .inr ⟨d, e, hd, he, sd, se, q⟩
theorem n_isi {x : V} {n m : String} {b : Bool} (ty : TyX K H x (.type n)) (h : kitB n m = some b) (q : Q (.bl b) H) : rIsiU K [x, .ty m] H Q := .inl ⟨x, .ty m, _, _, b, rfl, .ty m, ty, kit_ty h, q⟩
theorem n_isiX {x : V} {t : Value} {m : String} {b : Bool} (ty : TyX K H x t) (h : PySem.W.kitOne K t (.type m) = some b) (q : Q (.bl b) H) : rIsiU K [x, .ty m] H Q := .inl ⟨x, .ty m, _, _, b, rfl, .ty m, ty, h, q⟩
theorem n_len {p : Addr} {ys : List V} (h : SqL K H p ys ∨ SqT K H p ys) (q : Q (.int ys.length) H) : rLen K [.ref p] H Q := ⟨p, ys, rfl, h, q⟩
theorem n_int {i : Int} (q : Q (.int i) H) : rInt [.int i] H Q := .inl ⟨i, rfl, q⟩
theorem n_ib {k : Bool} (q : Q (.int (if k then 1 else 0)) H) : rInt [.bl k] H Q := .inr ⟨k, rfl, q⟩
theorem n_ixL {p : Addr} {xs : List V} {i : Int} {v : V} (h : SqL K H p xs) (hi : atI xs i = some v) (q : Q v H) : rIx K (.ref p) (.int i) H Q := .inl ⟨p, xs, i, v, rfl, rfl, h, hi, q⟩
theorem n_ixT {p : Addr} {xs : List V} {i : Int} {v : V} (h : SqT K H p xs) (hi : atI xs i = some v) (q : Q v H) : rIx K (.ref p) (.int i) H Q := .inr (.inl ⟨p, xs, i, v, rfl, rfl, h, hi, q⟩)
theorem n_inT {x : V} {p : Addr} {xs : List V} (h : H p = some (.tup xs)) (f1 : flatV x = true) (f2 : xs.all flatV = true) (q : Q (.bl (inV x xs)) H) : rIn K false x (.ref p) H Q := ⟨p, xs, rfl, .inr (SqT.of h), f1, f2, q⟩
theorem n_inL {x : V} {p : Addr} {xs : List V} (h : H p = some (.lst xs)) (f1 : flatV x = true) (f2 : xs.all flatV = true) (q : Q (.bl (inV x xs)) H) : rIn K false x (.ref p) H Q := ⟨p, xs, rfl, .inl (SqL.of h), f1, f2, q⟩
theorem n_isN {x : V} (q : Q (.bl (decide (x = .non))) H) : rIsU x .non H Q := .inl ⟨rfl, q⟩
theorem n_notN {x : V} (q : Q (.bl (!decide (x = .non))) H) : rNotU x .non H Q := .inl ⟨rfl, q⟩
theorem n_isB {a b : Bool} (q : Q (.bl (decide (a = b))) H) : rIsU (.bl a) (.bl b) H Q := .inr (.inl ⟨a, b, rfl, rfl, q⟩)
theorem n_isBI {i : Int} {b : Bool} (q : Q (.bl false) H) : rIsU (.int i) (.bl b) H Q := .inr (.inr ⟨i, b, rfl, rfl, q⟩)
theorem n_notB {a b : Bool} (q : Q (.bl (!decide (a = b))) H) : rNotU (.bl a) (.bl b) H Q := .inr (.inl ⟨a, b, rfl, rfl, q⟩)
theorem n_notBI {i : Int} {b : Bool} (q : Q (.bl true) H) : rNotU (.int i) (.bl b) H Q := .inr (.inr ⟨i, b, rfl, rfl, q⟩)
end
end EL

/- part V -/
/-! the administrative steps of a reading -/
namespace EL
open PySem PySem.Spec PyProof.Rows L2
open PySem.W (Frag)
section
variable {σ : L2.St} {H : Hp} {Q : VK} {K : Frag} {i : Nat} {v : V} {D : Ends} {ta tb te tc : TE} {t u t1 t2 : TS} {c c2 : TT} {tl tr : TA} {g : TG}
theorem a_var (h : σ[i]? = some (some v)) (q : Q v H) : tVar i σ H Q := ⟨v, h, q⟩
theorem a_c (q : Q v H) : tC v σ H Q := q
theorem a_op {r : R2} (q : ta σ H fun x H1 => tb σ H1 fun y H2 => r x y H2 Q) : tOp r ta tb σ H Q := q
theorem a_un {r : V → Hp → VK → Prop} (q : ta σ H fun x H1 => r x H1 Q) : tUn r ta σ H Q := q
theorem a_U {j : Int} {f : Int → V} (q : Q (f j) H) : rU f (.int j) H Q := ⟨j, rfl, q⟩
theorem a_nil {R : List V → Hp → Prop} (q : R [] H) : tNil σ H R := q
theorem a_cons {R : List V → Hp → Prop} (q : te σ H fun x H1 => tl σ H1 fun xs H2 => R (x :: xs) H2) : tCons te tl σ H R := q
theorem a_cb {r : List V → Hp → VK → Prop} (q : tl σ H fun vs H1 => r vs H1 Q) : tCB r tl σ H Q := q
theorem a_call {sp : Sp} {E : XK} (q : tl σ H fun vs H1 => sp vs H1 Q E) : tCall sp [] E tl σ H Q := by
  show tl σ H fun vs H1 => sp (vs ++ []) H1 Q E
  simpa only [List.append_nil] using q
theorem a_I0 {f : Int → Int → V} {a b : Int} (q : Q (f a b) H) : rI0 f (.int a) (.int b) H Q := ⟨a, b, rfl, rfl, q⟩
theorem a_I {C : Int → Int → Prop} {f : Int → Int → V} {a b : Int} (hc : C a b) (q : Q (f a b) H) : rI C f (.int a) (.int b) H Q := ⟨a, b, rfl, rfl, hc, q⟩
theorem a_seq (q : t { D with nx := u D } σ H) : tSeq t u D σ H := q
theorem a_asg (q : te σ H fun x H1 => g x σ H1 D.nx) : tAsg te g D σ H := q
theorem a_sasg (q : te σ H fun x H1 => g x σ H1 (u D)) : tSeq (tAsg te g) u D σ H := q
theorem a_gn {R : L2.St → Hp → Prop} (q : R (σ.set i (some v)) H) : gName i v σ H R := q
theorem a_drop (q : te σ H fun _ H1 => D.nx σ H1) : tDrop te D σ H := q
theorem a_sdrop (q : te σ H fun _ H1 => u D σ H1) : tSeq (tDrop te) u D σ H := q
theorem a_ret (q : te σ H D.rt) : tRet te D σ H := q
theorem a_if (q : c σ H fun b H1 => if b = true then t1 D σ H1 else t2 D σ H1) : tIfS c t1 t2 D σ H := q
theorem a_next (q : D.nx σ H) : tNext D σ H := q
theorem a_nx {f k1 k2 : L2.St → Hp → Prop} {r : VK} (q : f σ H) : (Ends.mk f r k1 k2).nx σ H := q
theorem a_rt {f k1 k2 : L2.St → Hp → Prop} {r : VK} (q : r v H) : (Ends.mk f r k1 k2).rt v H := q
theorem a_test {R : Bool → Hp → Prop} (q : te σ H fun x H' => ∃ k, x = .bl k ∧ R k H') : tTest te σ H R := q
theorem a_B {R : Bool → Hp → Prop} (q : te σ H fun x H' => ∃ k, x = .bl k ∧ R k H') : tB te σ H R := q
theorem a_bl {R : Bool → Prop} {b : Bool} (q : R b) : ∃ k, V.bl b = V.bl k ∧ R k := ⟨b, rfl, q⟩
theorem a_and {R : Bool → Hp → Prop} (q : c σ H fun b H1 => if b = true then c2 σ H1 R else R false H1) : tAnd c c2 σ H R := q
theorem a_or {R : Bool → Hp → Prop} (q : c σ H fun b H1 => if b = true then R true H1 else c2 σ H1 R) : tOr c c2 σ H R := q
theorem a_not {R : Bool → Hp → Prop} (q : c σ H fun b H1 => R (!b) H1) : tNot c σ H R := q
theorem a_andV (q : ta σ H fun x H1 => ∃ b, x = .bl b ∧ if b = true then tb σ H1 Q else Q (.bl false) H1) : tAndV ta tb σ H Q := q
theorem a_orV (q : ta σ H fun x H1 => ∃ b, x = .bl b ∧ if b = true then Q (.bl true) H1 else tb σ H1 Q) : tOrV ta tb σ H Q := q
theorem a_notV (q : ta σ H fun x H1 => ∃ b, x = .bl b ∧ Q (.bl (!b)) H1) : tNotV ta σ H Q := q
theorem a_ifx (q : c σ H fun b H1 => if b = true then ta σ H1 Q else tb σ H1 Q) : tIf c ta tb σ H Q := q
theorem a_chain {r r' : R2} (q : ta σ H fun x H1 => tb σ H1 fun y H2 => r x y H2 fun z H3 => ∃ k, z = .bl k ∧ (if k = true then tc σ H3 fun w' H4 => r' y w' H4 Q else Q (.bl false) H3)) : tChain r r' ta tb tc σ H Q := q
theorem a_T {A B : Prop} (q : A) : if true = true then A else B := by rw [if_pos rfl]; exact q
theorem a_F {A B : Prop} (q : B) : if false = true then A else B := by rw [if_neg Bool.false_ne_true]; exact q
theorem a_nT {A B : Prop} (q : B) : if (!true) = true then A else B := q
theorem a_nF {A B : Prop} (q : A) : if (!false) = true then A else B := q
theorem a_fld {tv : TE} {f : Str} (q : tv σ H fun y H1 => ta σ H1 fun x H2 => ∃ a C dx fs, x = .ref a ∧ H2 a = some (.ins C dx fs) ∧ Cls K C ∧ NoAttr K C f ∧ fs.length < 1000 ∧ D.nx σ (upd H2 a (.ins C dx (putF f y fs)))) : sFld K ta tv f D σ H := q
theorem a_getF {f : Str} (q : ta σ H fun x H1 => ∃ a C dx fs v, x = .ref a ∧ H1 a = some (.ins C dx fs) ∧ Cls K C ∧ NoAttr K C f ∧ List.lookup f fs = some v ∧ Q v H1) : tFld K ta f σ H Q := q
theorem a_tup {es : TA} (q : es σ H fun xs H1 => xs.length ≤ sizeLine ∧ ∀ p, H1 p = none → Q (.ref p) (upd H1 p (.tup xs))) : tTup es σ H Q := q
theorem a_lst {es : TA} (q : es σ H fun xs H1 => xs.length ≤ sizeLine ∧ ∀ p, H1 p = none → Q (.ref p) (upd H1 p (.lst xs))) : tLst es σ H Q := q
theorem a_ntup {xs : List V} (z : xs.length ≤ sizeLine) (q : ∀ p, H p = none → Q (.ref p) (upd H p (.tup xs))) : xs.length ≤ sizeLine ∧ ∀ p, H p = none → Q (.ref p) (upd H p (.tup xs)) := ⟨z, q⟩
theorem a_nlst {xs : List V} (z : xs.length ≤ sizeLine) (q : ∀ p, H p = none → Q (.ref p) (upd H p (.lst xs))) : xs.length ≤ sizeLine ∧ ∀ p, H p = none → Q (.ref p) (upd H p (.lst xs)) := ⟨z, q⟩
theorem a_sub {to ti : TE} {ts : TSet} {R : L2.St → Hp → Prop} (q : to σ H fun o H1 => ti σ H1 fun j H2 => ts o j v H2 fun H3 => R σ H3) : gSub to ti ts v σ H R := q
theorem a_set {p : Addr} {xs : List V} {k : Int} {j : Nat} {R : Hp → Prop} (h : H p = some (.lst xs)) (hj : ixN xs.length k = some j) (q : R (upd H p (.lst (xs.set j v)))) : rSetL (.ref p) (.int k) v H R := ⟨p, xs, k, j, rfl, rfl, h, hj, q⟩
theorem a_augS {to ti te : TE} {tget : V → V → Hp → VK → Prop} {tip : TIp} {ts : TSet} (q : to σ H fun o H1 => ti σ H1 fun j H2 => tget o j H2 fun x H3 => te σ H3 fun y H4 => tip x y H4 fun z H5 => ts o j z H5 fun H6 => D.nx σ H6) :
    tAugS to ti te tget tip ts D σ H := q
theorem a_saugS {to ti te : TE} {tget : V → V → Hp → VK → Prop} {tip : TIp} {ts : TSet} (q : to σ H fun o H1 => ti σ H1 fun j H2 => tget o j H2 fun x H3 => te σ H3 fun y H4 => tip x y H4 fun z H5 => ts o j z H5 fun H6 => u D σ H6) :
    tSeq (tAugS to ti te tget tip ts) u D σ H := q
theorem a_getL {p : Addr} {xs : List V} {k : Int} (h : SqL K H p xs) (hk : atI xs k = some v) (q : Q v H) : rIxL K (.ref p) (.int k) H Q := ⟨p, xs, k, v, rfl, rfl, h, hk, q⟩
theorem a_ip {f : Int → Int → Int} {a b : Int} (q : Q (.int (f a b)) H) : ipI f (.int a) (.int b) H Q := ⟨a, b, rfl, rfl, q⟩
theorem a_aug {ti : TIp} {x : V} (h : σ[i]? = some (some x)) (q : te σ H fun y H1 => ti x y H1 fun z H2 => D.nx (σ.set i (some z)) H2) : tAug i te ti D σ H := ⟨x, h, q⟩
theorem a_saug {ti : TIp} {x : V} (h : σ[i]? = some (some x)) (q : te σ H fun y H1 => ti x y H1 fun z H2 => u D (σ.set i (some z)) H2) : tSeq (tAug i te ti) u D σ H := ⟨x, h, q⟩
theorem a_par {j : Nat} {a b : V} (q : tl σ H fun vs H1 => ∃ x y, vs = [x, y] ∧ D.nx ((σ.set i (some x)).set j (some y)) H1) : tPar i j tl D σ H := q
theorem a_spar {j : Nat} (q : tl σ H fun vs H1 => ∃ x y, vs = [x, y] ∧ u D ((σ.set i (some x)).set j (some y)) H1) : tSeq (tPar i j tl) u D σ H := q
theorem a_two {R : V → V → Prop} {a b : V} (q : R a b) : ∃ x y, [a, b] = [x, y] ∧ R x y := ⟨a, b, rfl, q⟩
theorem a_cut (M : L2.St → Hp → Prop) (h : t { D with nx := M } σ H) (k : ∀ σ' H', M σ' H' → u D σ' H') : Evl.tCut t u D σ H := ⟨M, h, k⟩
theorem a_abs {j : Int} {R : Int → Prop} (q : R j) : ∃ i, [V.int j] = [V.int i] ∧ R i := ⟨j, rfl, q⟩
theorem a_gtup {n : Nat} {ts : TGs} {a : Addr} {xs : List V} {R : L2.St → Hp → Prop} (h : SqT K H a xs) (z : xs.length = n) (q : ts xs σ H R) : gTup K n ts (.ref a) σ H R := ⟨a, xs, rfl, h, z, q⟩
theorem a_gcons {ts : TGs} {xs : List V} {R : L2.St → Hp → Prop} (q : g v σ H fun σ' H' => ts xs σ' H' R) : gCons g ts (v :: xs) σ H R := ⟨v, xs, rfl, q⟩
theorem a_gnil {R : L2.St → Hp → Prop} (q : R σ H) : gNil [] σ H R := ⟨rfl, q⟩
end
theorem a_pairs {tk tv : TE} {r : List (TE × TE)} {σ : L2.St} {H : Hp} {R : List (V × V) → Hp → Prop} (q : tk σ H fun k H1 => tv σ H1 fun v H2 => tPairs r σ H2 fun ps H3 => R ((k, v) :: ps) H3) : tPairs ((tk, tv) :: r) σ H R := q
theorem a_pairs0 {σ : L2.St} {H : Hp} {R : List (V × V) → Hp → Prop} (q : R [] H) : tPairs [] σ H R := q
theorem a_bm {K : Frag} {T : String} {r : V → List V → Hp → VK → Prop} {to : TE} {t : TA} {σ : L2.St} {H : Hp} {Q : VK} (q : to σ H fun x H1 => tyV K T x H1 ∧ t σ H1 fun xs H2 => r x xs H2 Q) : tBM K T r to t σ H Q := q
end EL

/- part W -/
/-! values by what they are: numbers, texts, tracked lists, tuples, dicts, books -/
namespace EL
open PySem PySem.Spec PyProof.Rows L2
open PySem.W (Frag)
/-- the built-in names that stand for themselves -/
structure Bi (mg : Str → Option Value) : Prop where
  len_ : mg "len" = none
  isinstance_ : mg "isinstance" = none
  int_ : mg "int" = none
  bool_ : mg "bool" = none
  str_ : mg "str" = none
  list_ : mg "list" = none
  tuple_ : mg "tuple" = none
  range_ : mg "range" = none
  enumerate_ : mg "enumerate" = none
  zip_ : mg "zip" = none
  abs_ : mg "abs" = none
  repr_ : mg "repr" = none
  min_ : mg "min" = none
  max_ : mg "max" = none
  sum_ : mg "sum" = none
  all_ : mg "all" = none
/-- a constant of the program -/
theorem pe_gc {X : Cx} {x : Str} {v : V} {pos : Pos} (hg : Gl X x) (h : ∃ u, X.mg x = some u ∧ L2.RelV v u) (hdb : (x == ("__debug__" : Str)) = false := by decide) : PE X (.Name x pos) (tC v) := by
  obtain ⟨u, h1, h2⟩ := h
  exact pe_glob hg h1 h2 hdb
/-- what isinstance asks of an own class -/
structure OwnC (K : Frag) (C : Addr) : Prop where
  cl : Cls K C
  cls : PySem.W.findIn K (.ref C) "__class__" = some (some (.builtin "object.__class__"))
  get : PySem.W.specialIn K (.builtin "object.__class__") "__get__" = some (some (.builtin "getset_descriptor.__get__"))
  tak : PySem.W.takesIn K (.builtin "object.__class__") = some true
  obj : PySem.W.mroIn K C (.type "object") = some true
  kInt : PySem.W.kitOne K (.ref C) (.type "int") = some false
  kBool : PySem.W.kitOne K (.ref C) (.type "bool") = some false
  kStr : PySem.W.kitOne K (.ref C) (.type "str") = some false
  kTup : PySem.W.kitOne K (.ref C) (.type "tuple") = some false
  kLst : PySem.W.kitOne K (.ref C) (.type "list") = some false
/-- a value that is known -/
inductive Th (K : Frag) (H : Hp) : V → Prop
  | non : Th K H .non
  | bl (b : Bool) : Th K H (.bl b)
  | int (i : Int) : Th K H (.int i)
  | str (x : Str) : Th K H (.str x)
  | lst {a : Addr} {xs : List V} (h : H a = some (.lst xs)) : Th K H (.ref a)
  | tup {a : Addr} {xs : List V} (h : H a = some (.tup xs)) : Th K H (.ref a)
  | dct {a : Addr} {kvs : List (Key × V)} (h : H a = some (.dK kvs)) : Th K H (.ref a)
  | ins {a C dx : Addr} {fs : List (Str × V)} (h : H a = some (.ins C dx fs)) (c : OwnC K C) : Th K H (.ref a)
  | dtt {a : Addr} {kvs : List (List Key × V)} (h : H a = some (.dT kvs)) : Th K H (.ref a)
def isI : V → Bool | .int _ => true | .bl _ => true | _ => false
def isB : V → Bool | .bl _ => true | _ => false
def isS : V → Bool | .str _ => true | _ => false
def obT : Option HO → Bool | some (.tup _) => true | _ => false
def obL : Option HO → Bool | some (.lst _) => true | _ => false
def isT (H : Hp) : V → Bool | .ref a => obT (H a) | _ => false
def isL (H : Hp) : V → Bool | .ref a => obL (H a) | _ => false
structure KitOf (K : Frag) (H : Hp) (x : V) (t : Value) : Prop where
  ty : TyX K H x t
  int : PySem.W.kitOne K t (.type "int") = some (isI x)
  bool : PySem.W.kitOne K t (.type "bool") = some (isB x)
  str : PySem.W.kitOne K t (.type "str") = some (isS x)
  tup : PySem.W.kitOne K t (.type "tuple") = some (isT H x)
  lst : PySem.W.kitOne K t (.type "list") = some (isL H x)
theorem Th.kit {K : Frag} {H : Hp} {x : V} (h : Th K H x) : ∃ t, KitOf K H x t := by
  cases h with
  | non => exact ⟨_, .base .non, kit_ty (by show _ = some false; decide +kernel), kit_ty (by show _ = some false; decide +kernel), kit_ty (by show _ = some false; decide +kernel), kit_ty (by show _ = some false; decide +kernel), kit_ty (by show _ = some false; decide +kernel)⟩
  | bl b => exact ⟨_, .base (.bl b), kit_ty (by show _ = some true; decide +kernel), kit_ty (by show _ = some true; decide +kernel), kit_ty (by show _ = some false; decide +kernel), kit_ty (by show _ = some false; decide +kernel), kit_ty (by show _ = some false; decide +kernel)⟩
  | int i => exact ⟨_, .base (.int i), kit_ty (by show _ = some true; decide +kernel), kit_ty (by show _ = some false; decide +kernel), kit_ty (by show _ = some false; decide +kernel), kit_ty (by show _ = some false; decide +kernel), kit_ty (by show _ = some false; decide +kernel)⟩
  | str s => exact ⟨_, .base (.str s), kit_ty (by show _ = some false; decide +kernel), kit_ty (by show _ = some false; decide +kernel), kit_ty (by show _ = some true; decide +kernel), kit_ty (by show _ = some false; decide +kernel), kit_ty (by show _ = some false; decide +kernel)⟩
  | @lst a xs h =>
    have e1 : isT H (.ref a) = false := by show obT (H a) = _; rw [h]; rfl
    have e2 : isL H (.ref a) = true := by show obL (H a) = _; rw [h]; rfl
    refine ⟨_, .base (.lst h), kit_ty (by show _ = some false; decide +kernel), kit_ty (by show _ = some false; decide +kernel), kit_ty (by show _ = some false; decide +kernel), ?_, ?_⟩
    · rw [e1]; exact kit_ty (by show _ = some _; decide +kernel)
    · rw [e2]; exact kit_ty (by show _ = some _; decide +kernel)
  | @tup a xs h =>
    have e1 : isT H (.ref a) = true := by show obT (H a) = _; rw [h]; rfl
    have e2 : isL H (.ref a) = false := by show obL (H a) = _; rw [h]; rfl
    refine ⟨_, .base (.tup h), kit_ty (by show _ = some false; decide +kernel), kit_ty (by show _ = some false; decide +kernel), kit_ty (by show _ = some false; decide +kernel), ?_, ?_⟩
    · rw [e1]; exact kit_ty (by show _ = some _; decide +kernel)
    · rw [e2]; exact kit_ty (by show _ = some _; decide +kernel)
  | @dct a kvs h =>
    have e1 : isT H (.ref a) = false := by show obT (H a) = _; rw [h]; rfl
    have e2 : isL H (.ref a) = false := by show obL (H a) = _; rw [h]; rfl
    refine ⟨_, .base (.dK h), kit_ty (by show _ = some false; decide +kernel), kit_ty (by show _ = some false; decide +kernel), kit_ty (by show _ = some false; decide +kernel), ?_, ?_⟩
    · rw [e1]; exact kit_ty (by show _ = some _; decide +kernel)
    · rw [e2]; exact kit_ty (by show _ = some _; decide +kernel)
  | @dtt a kvs h =>
    have e1 : isT H (.ref a) = false := by show obT (H a) = _; rw [h]; rfl
    have e2 : isL H (.ref a) = false := by show obL (H a) = _; rw [h]; rfl
    refine ⟨_, .base (.dT h), kit_ty (by show _ = some false; decide +kernel), kit_ty (by show _ = some false; decide +kernel), kit_ty (by show _ = some false; decide +kernel), ?_, ?_⟩
    · rw [e1]; exact kit_ty (by show _ = some _; decide +kernel)
    · rw [e2]; exact kit_ty (by show _ = some _; decide +kernel)
  | @ins a C dx fs h c =>
    have e1 : isT H (.ref a) = false := by show obT (H a) = _; rw [h]; rfl
    have e2 : isL H (.ref a) = false := by show obL (H a) = _; rw [h]; rfl
    refine ⟨_, .base (.ins h c.cl c.cls c.get c.tak c.obj), c.kInt, c.kBool, c.kStr, ?_, ?_⟩
    · rw [e1]; exact c.kTup
    · rw [e2]; exact c.kLst
/-- a known value stays known -/
theorem Th.stay {K : Frag} {b : Addr} {l : List V} {H H' : Hp} {x : V} (h : Th K H x) (hb : H b = some (.lst l)) {l' : List V} (hb' : H' b = some (.lst l')) (k : Kp b H H') : Th K H' x := by
  cases h with
  | non => exact .non
  | bl b => exact .bl b
  | int i => exact .int i
  | str s => exact .str s
  | @lst a xs h =>
    by_cases e : a = b
    · subst e; exact .lst hb'
    · exact .lst (k _ _ e h)
  | @tup a xs h => exact .tup (k _ _ (fun z => by subst z; rw [hb] at h; cases h) h)
  | @dct a xs h => exact .dct (k _ _ (fun z => by subst z; rw [hb] at h; cases h) h)
  | @ins a C dx fs h c => exact .ins (k _ _ (fun z => by subst z; rw [hb] at h; cases h) h) c
  | @dtt a kvs h => exact .dtt (k _ _ (fun z => by subst z; rw [hb] at h; cases h) h)
section
variable {K : Frag} {H : Hp} {Q : VK} {x : V} {t : Value}
theorem n_isT {m : String} {b : Bool} (k : TyX K H x t) (h : PySem.W.kitOne K t (.type m) = some b) (q : Q (.bl b) H) : rIsiU K [x, .ty m] H Q := n_isiX k h q
theorem n_isInt (k : KitOf K H x t) (q : Q (.bl (isI x)) H) : rIsiU K [x, .ty "int"] H Q := n_isT k.ty k.int q
theorem n_isBool (k : KitOf K H x t) (q : Q (.bl (isB x)) H) : rIsiU K [x, .ty "bool"] H Q := n_isT k.ty k.bool q
theorem n_isStr (k : KitOf K H x t) (q : Q (.bl (isS x)) H) : rIsiU K [x, .ty "str"] H Q := n_isT k.ty k.str q
theorem n_isTup (k : KitOf K H x t) (q : Q (.bl (isT H x)) H) : rIsiU K [x, .ty "tuple"] H Q := n_isT k.ty k.tup q
theorem n_isLst (k : KitOf K H x t) (q : Q (.bl (isL H x)) H) : rIsiU K [x, .ty "list"] H Q := n_isT k.ty k.lst q
/-- isinstance(x, (list, tuple)), the tuple just laid -/
theorem n_isLT {p : Addr} (k : KitOf K H x t) (hp : H p = some (.tup [.ty "list", .ty "tuple"])) (q : Q (.bl (isL H x || isT H x)) H) : rIsiU K [x, .ref p] H Q := by
  refine .inr ⟨x, p, _, t, [.type "list", .type "tuple"], isL H x || isT H x, rfl, hp, .cons (.ty "list") (.cons (.ty "tuple") .nil), k.ty, ?_, q⟩
  refine kitAny_cons k.lst (fun e => ?_) (fun e => by rw [e]; rfl)
  rw [e]
  refine kitAny_cons k.tup (fun e2 => ?_) (fun e2 => by rw [e2]; rfl)
  rw [e2]
  rfl
end
theorem _root_.L2.Same.nw {H H1 : Hp} {p : Addr} {o : HO} (k : Same H H1) (h : H1 p = none) : Same H (upd H1 p o) := fun a u e => by
  have q := k a u e
  rw [upd_ne (ne_of_none q h)]
  exact q
/-- an object that is new since H may change -/
theorem _root_.L2.Same.mu {H H1 : Hp} {p : Addr} {o : HO} (k : Same H H1) (h : H p = none) : Same H (upd H1 p o) := fun a u e => by
  rw [upd_ne (ne_of_none e h)]
  exact k a u e
theorem Th.same {K : Frag} {H H' : Hp} {x : V} (h : Th K H x) (k : Same H H') : Th K H' x := by
  cases h with
  | non => exact .non
  | bl b => exact .bl b
  | int i => exact .int i
  | str s => exact .str s
  | lst h => exact .lst (k _ _ h)
  | tup h => exact .tup (k _ _ h)
  | dct h => exact .dct (k _ _ h)
  | ins h c => exact .ins (k _ _ h) c
  | dtt h => exact .dtt (k _ _ h)
/-! ### the class of a sequence; isinstance(x, (list, tuple)) of one -/
theorem _root_.L2.SqT.ty {K : Frag} {H : Hp} {a : Addr} {xs : List V} (h : SqT K H a xs) : TyX K H (.ref a) (.type "tuple") := by
  rcases h with (h | ⟨o, h⟩) | ⟨o, its, n, h, c, _⟩
  · exact .base (.tup h)
  · exact .fTuple h
  · exact .kTuple h c
theorem n_isLTl {K : Frag} {H : Hp} {Q : VK} {x : V} {p : Addr} (ty : TyX K H x (.type "list")) (hp : H p = some (.tup [.ty "list", .ty "tuple"])) (q : Q (.bl true) H) : rIsiU K [x, .ref p] H Q :=
  .inr ⟨x, p, _, _, [.type "list", .type "tuple"], true, rfl, hp, .cons (.ty "list") (.cons (.ty "tuple") .nil), ty, kitAny_cons (b := true) (kit_ty (by decide +kernel)) (fun e => nomatch e) (fun _ => rfl), q⟩
theorem n_isLTt {K : Frag} {H : Hp} {Q : VK} {x : V} {p : Addr} (ty : TyX K H x (.type "tuple")) (hp : H p = some (.tup [.ty "list", .ty "tuple"])) (q : Q (.bl true) H) : rIsiU K [x, .ref p] H Q :=
  .inr ⟨x, p, _, _, [.type "list", .type "tuple"], true, rfl, hp, .cons (.ty "list") (.cons (.ty "tuple") .nil), ty,
    kitAny_cons (b := false) (kit_ty (by decide +kernel)) (fun _ => kitAny_cons (b := true) (kit_ty (by decide +kernel)) (fun e => nomatch e) (fun _ => rfl)) (fun e => nomatch e), q⟩
/-- a list or a tuple, tracked or of the program's top -/
def SqA (K : Frag) (H : Hp) (a : Addr) (xs : List V) : Prop := H a = some (.lst xs) ∨ SqT K H a xs
theorem _root_.L2.SqT.same {K : Frag} {H H' : Hp} {a : Addr} {xs : List V} (h : SqT K H a xs) (s : Same H H') : SqT K H' a xs := by
  rcases h with (h | ⟨o, h⟩) | h
  · exact .inl (.inl (s _ _ h))
  · exact .inl (.inr ⟨o, s _ _ h⟩)
  · exact .inr h
theorem SqA.same {K : Frag} {H H' : Hp} {a : Addr} {xs : List V} (h : SqA K H a xs) (s : Same H H') : SqA K H' a xs := by
  rcases h with h | (h | ⟨o, h⟩) | h
  · exact .inl (s _ _ h)
  · exact .inr (.inl (.inl (s _ _ h)))
  · exact .inr (.inl (.inr ⟨o, s _ _ h⟩))
  · exact .inr (.inr h)
theorem SqA.isLT {K : Frag} {H : Hp} {Q : VK} {a p : Addr} {xs : List V} (h : SqA K H a xs) (hp : H p = some (.tup [.ty "list", .ty "tuple"])) (q : Q (.bl true) H) : rIsiU K [.ref a, .ref p] H Q := by
  rcases h with h | h
  · exact n_isLTl (.base (.lst h)) hp q
  · exact n_isLTt h.ty hp q
theorem SqA.len {K : Frag} {H : Hp} {a : Addr} {xs : List V} (h : SqA K H a xs) : SqL K H a xs ∨ SqT K H a xs := h.elim (fun h => .inl (SqL.of h)) .inr
theorem n_tuple {K : Frag} {H : Hp} {Q : VK} {a : Addr} {xs : List V} (h : SqA K H a xs) (q : ∀ r H', Same H H' → SqT K H' r xs → Q (.ref r) H') : rTuple K [.ref a] H Q := by
  rcases h with h | h
  · exact ⟨a, xs, rfl, .inl ⟨SqL.of h, fun l hl => q l _ (L2.Same.nw (Same.refl _) hl) (SqT.of upd_same)⟩⟩
  · exact ⟨a, xs, rfl, .inr ⟨h, q a H (Same.refl _) h⟩⟩
theorem SqT.kp {K : Frag} {H H' : Hp} {a o : Addr} {xs : List V} {C dx : Addr} {fs : List (Str × V)} (h : SqT K H a xs) (ho : H o = some (.ins C dx fs)) (k : Kp o H H') : SqT K H' a xs := by
  rcases h with (h | ⟨o, h⟩) | h
  · exact .inl (.inl (k _ _ (fun z => by subst z; rw [ho] at h; cases h) h))
  · exact .inl (.inr ⟨_, k _ _ (fun z => by subst z; rw [ho] at h; cases h) h⟩)
  · exact .inr h
theorem SqA.kp {K : Frag} {H H' : Hp} {a o : Addr} {xs : List V} {C dx : Addr} {fs : List (Str × V)} (h : SqA K H a xs) (ho : H o = some (.ins C dx fs)) (k : Kp o H H') : SqA K H' a xs := by
  rcases h with h | h
  · exact .inl (k _ _ (fun z => by subst z; rw [ho] at h; cases h) h)
  · exact .inr (SqT.kp h ho k)
theorem n_ixA {K : Frag} {H : Hp} {Q : VK} {p : Addr} {xs : List V} {i : Int} {v : V} (h : SqA K H p xs) (hi : atI xs i = some v) (q : Q v H) : rIx K (.ref p) (.int i) H Q := h.elim (fun h => n_ixL (SqL.of h) hi q) fun h => n_ixT h hi q
/-! ### loops -/
/-- the loop itself, its walk made -/
def Lp (J : It) (g : TG) (tb : TS) (D : Ends) (σ : L2.St) (H : Hp) : Prop := ∃ W : Nat → Nat → L2.St → Hp → Prop, (∃ m, W 0 m σ H) ∧ ∀ (i m : Nat) (σ : L2.St) (H : Hp), W i m σ H →
  (J.stop i H ∧ D.nx σ H) ∨ (J.go i H ∧ ∃ N : L2.St → Hp → Prop, (∀ σ' H', N σ' H' → ∃ m', m' < m ∧ W (i + 1) m' σ' H') ∧ ∀ x H', J.yld i H x H' → g x σ H' fun σ2 H2 => tb { nx := N, rt := D.rt, bk := D.nx, ct := N } σ2 H2)
section
variable {σ : L2.St} {H : Hp} {K : Frag} {D : Ends} {g : TG} {tb u : TS} {wi : TI} {ta : TA} {te : TE} {R : It → Hp → Prop}
theorem a_for (q : wi σ H fun J H1 => Lp J g tb D σ H1) : tFor wi g tb D σ H := q
theorem a_sfor (q : wi σ H fun J H1 => Lp J g tb { D with nx := u D } σ H1) : tSeq (tFor wi g tb) u D σ H := q
theorem a_iE1 (q : ta σ H fun vs H1 => ∃ a xs, vs = [.ref a] ∧ SqT K H1 a xs ∧ R (Ites K a 0) H1) : iE1 K ta σ H R := q
theorem a_iEs {k : Int} (q : ta σ H fun vs H1 => ∃ a xs, vs = [.ref a] ∧ SqT K H1 a xs ∧ R (Ites K a k) H1) : iEs K k ta σ H R := q
theorem a_iEz {k : Int} (q : ta σ H fun vs H1 => ∃ a b xs ys, vs = [.ref a, .ref b] ∧ SqT K H1 a xs ∧ SqT K H1 b ys ∧ R (Itez K a b k) H1) : iEz K k ta σ H R := q
theorem a_iEnum (q : ta σ H fun vs H1 => ∃ a xs, vs = [.ref a] ∧ SqL K H1 a xs ∧ R (Ite K a) H1) : iEnum K ta σ H R := q
theorem a_iSeq (q : iList K te σ H R ∨ iTup K te σ H R) : iSeq K te σ H R := q
theorem a_iTup (q : te σ H fun x H1 => ∃ a, x = .ref a ∧ (∃ xs, SqT K H1 a xs) ∧ R (Itt K a) H1) : iTup K te σ H R := q
theorem a_iList (q : te σ H fun x H1 => ∃ a, x = .ref a ∧ (∃ xs, SqL K H1 a xs) ∧ R (Itl K a) H1) : iList K te σ H R := q
theorem lp_it {J : It} {n : Nat} {G : Hp → Prop} {Y : Nat → Hp → V → Hp → Prop} (w : Walk J n G Y) (Pv : Nat → L2.St → Hp → Prop) (h0 : Pv 0 σ H) (hG : ∀ i σ H, i ≤ n → Pv i σ H → G H)
    (hs : ∀ i x σ H H', i < n → Pv i σ H → Y i H x H' → g x σ H' fun σ2 H2 => tb { nx := Pv (i + 1), rt := D.rt, bk := D.nx, ct := Pv (i + 1) } σ2 H2) (hd : ∀ σ H, Pv n σ H → D.nx σ H) : Lp J g tb D σ H := for_it w Pv h0 hG hs hd
theorem lp_range {lo : Int} {n : Nat} (Pv : Nat → L2.St → Hp → Prop) (h0 : Pv 0 σ H) (hs : ∀ i σ H, i < n → Pv i σ H → g (.int (lo + i)) σ H fun σ2 H2 => tb { nx := Pv (i + 1), rt := D.rt, bk := D.nx, ct := Pv (i + 1) } σ2 H2) (hd : ∀ σ H, Pv n σ H → D.nx σ H) :
    Lp (Itr lo n) g tb D σ H := for_range Pv h0 hs hd
end
/-! ### comprehensions -/
def Lc (J : It) (g : TG) (tt : TT) (te : TE) (vs : List Nat) (σ : L2.St) (H1 : Hp) (D : Addr) (Qd : Hp → Prop) : Prop := ∃ W : Nat → Nat → Hp → Prop, (∃ m, W 0 m (upd H1 D (.lst []))) ∧ ∀ (i m : Nat) (H : Hp), W i m H →
  (J.stop i H ∧ Qd H) ∨ (J.go i H ∧ ∃ Nx : Hp → Prop, (∀ H', Nx H' → ∃ m', m' < m ∧ W (i + 1) m' H') ∧ ∀ (x : V) (H' : Hp), J.yld i H x H' → g x (wipe σ vs) H' fun σ2 H2 => wipe σ2 vs = wipe σ vs ∧
    tt σ2 H2 fun b H3 => if b = true then te σ2 H3 fun y H4 => ∃ acc, H4 D = some (.lst acc) ∧ acc.length < sizeLine ∧ Nx (upd H4 D (.lst (acc ++ [y]))) else Nx H3)
section
variable {σ : L2.St} {H : Hp} {Q : VK} {g : TG} {tt : TT} {te : TE} {wi : TI} {vs : List Nat}
theorem a_lc (q : wi σ H fun J H1 => ∀ D, H1 D = none → Lc J g tt te vs σ H1 D fun H2 => Q (.ref D) H2) : tLc wi g tt te vs σ H Q := q
theorem lc_of {J : It} {n : Nat} {G : Hp → Prop} {Y : Nat → Hp → V → Hp → Prop} (w : Walk J n G Y) {H1 : Hp} {D : Addr} {Qd : Hp → Prop} (Pv : Nat → Hp → Prop) (h0 : Pv 0 (upd H1 D (.lst []))) (hG : ∀ i H, i ≤ n → Pv i H → G H)
    (hs : ∀ i x H H', i < n → Pv i H → Y i H x H' → g x (wipe σ vs) H' fun σ2 H2 => wipe σ2 vs = wipe σ vs ∧ tt σ2 H2 fun b H3 => if b = true then te σ2 H3 fun y H4 => ∃ acc, H4 D = some (.lst acc) ∧ acc.length < sizeLine ∧ Pv (i + 1) (upd H4 D (.lst (acc ++ [y]))) else Pv (i + 1) H3)
    (hd : ∀ H, Pv n H → Qd H) : Lc J g tt te vs σ H1 D Qd := lc_it w Pv h0 hG hs hd
theorem a_yes {R : Bool → Hp → Prop} (q : R true H) : tYes σ H R := q
theorem a_wp {A B : Prop} (a : A) (b : B) : A ∧ B := ⟨a, b⟩
theorem a_sl {r : V → Option Int → Option Int → Hp → VK → Prop} {tl th : TO} (q : te σ H fun x H1 => tl σ H1 fun l H2 => th σ H2 fun u H3 => r x l u H3 Q) : tSl r te tl th σ H Q := q
theorem a_nop {R : Option Int → Hp → Prop} (q : R none H) : tNoPart σ H R := q
theorem a_prt {R : Option Int → Hp → Prop} (q : te σ H fun x H1 => ∃ i, x = .int i ∧ R (some i) H1) : tPart te σ H R := q
theorem a_ex1 {R : Int → Prop} {i : Int} (q : R i) : ∃ j, V.int i = V.int j ∧ R j := ⟨i, rfl, q⟩
end
section
variable {σ : L2.St} {H : Hp} {ta : TA} {R : It → Hp → Prop}
theorem a_rng1 (q : ta σ H fun vs H1 => ∃ j : Int, vs = [.int j] ∧ -2 ^ 62 ≤ j ∧ j < 2 ^ 62 ∧ R (Itr 0 j.toNat) H1) : iRng1 ta σ H R := q
theorem a_rng2 (q : ta σ H fun vs H1 => ∃ i j : Int, vs = [.int i, .int j] ∧ (-2 ^ 62 ≤ i ∧ i < 2 ^ 62 ∧ -2 ^ 62 ≤ j ∧ j < 2 ^ 62) ∧ R (Itr i (j - i).toNat) H1) : iRng2 ta σ H R := q
end
end EL

/- part T -/
/-! tracked data: what is laid and known, with empty dicts; repr of it; t[::-1] of a tuple -/
namespace EL
open PySem PySem.Spec PyProof.Rows L2
open PySem.W (Frag)
mutual
inductive Tk (H : Hp) : V → PyData → Prop
  | non : Tk H .non .none
  | bl (b : Bool) : Tk H (.bl b) (.bool b)
  | int (i : Int) : Tk H (.int i) (.int i)
  | str (x : Str) : Tk H (.str x) (.str x)
  | lst {a : Addr} {xs : List V} {ds : List PyData} (h : H a = some (.lst xs)) (t : TkAll H xs ds) : Tk H (.ref a) (.list ds)
  | tup {a : Addr} {xs : List V} {ds : List PyData} (h : H a = some (.tup xs)) (t : TkAll H xs ds) : Tk H (.ref a) (.tuple ds)
  | dct {a : Addr} (h : H a = some (.dK [])) : Tk H (.ref a) (.dict [])
inductive TkAll (H : Hp) : List V → List PyData → Prop
  | nil : TkAll H [] []
  | cons {v : V} {vs : List V} {d : PyData} {ds : List PyData} (h : Tk H v d) (t : TkAll H vs ds) : TkAll H (v :: vs) (d :: ds)
end
mutual
theorem tk_same {H H' : Hp} (s : Same H H') : ∀ (d : PyData) (v : V), Tk H v d → Tk H' v d
  | .none, _, h => by cases h; exact .non
  | .bool _, _, h => by cases h; exact .bl _
  | .int _, _, h => by cases h; exact .int _
  | .str _, _, h => by cases h; exact .str _
  | .list ds, _, h => by
    cases h with
    | lst a t => exact .lst (s _ _ a) (tk_sameAll s ds _ t)
  | .tuple ds, _, h => by
    cases h with
    | tup a t => exact .tup (s _ _ a) (tk_sameAll s ds _ t)
  | .dict _, _, h => by
    cases h with
    | dct a => exact .dct (s _ _ a)
theorem tk_sameAll {H H' : Hp} (s : Same H H') : ∀ (ds : List PyData) (vs : List V), TkAll H vs ds → TkAll H' vs ds
  | [], _, h => by cases h; exact .nil
  | d :: ds, _, h => by
    cases h with
    | cons h1 h2 => exact .cons (tk_same s d _ h1) (tk_sameAll s ds _ h2)
end
theorem Tk.same {H H' : Hp} {v : V} {d : PyData} (h : Tk H v d) (s : Same H H') : Tk H' v d := tk_same s d v h
theorem TkAll.same {H H' : Hp} {v : List V} {d : List PyData} (h : TkAll H v d) (s : Same H H') : TkAll H' v d := tk_sameAll s d v h
theorem TkAll.mem {H : Hp} : ∀ {vs : List V} {ds : List PyData}, TkAll H vs ds → ∀ y ∈ vs, ∃ e, e ∈ ds ∧ Tk H y e
  | [], _, _, _, h => nomatch h
  | v :: vs, _, .cons h t, y, hy => by
    rcases List.mem_cons.mp hy with rfl | q
    · exact ⟨_, List.mem_cons_self .., h⟩
    · obtain ⟨e, m, k⟩ := TkAll.mem t y q
      exact ⟨e, List.mem_cons_of_mem _ m, k⟩
theorem TkAll.app {H : Hp} : ∀ {vs ws : List V} {ds es : List PyData}, TkAll H vs ds → TkAll H ws es → TkAll H (vs ++ ws) (ds ++ es)
  | [], _, _, _, .nil, h => h
  | _ :: _, _, _, _, .cons h t, k => .cons h (TkAll.app t k)
theorem TkAll.at_ {H : Hp} {vs : List V} {ds : List PyData} (h : TkAll H vs ds) : ∀ (i : Nat) (v : V), vs[i]? = some v → ∃ d, ds[i]? = some d ∧ Tk H v d := by
  induction vs generalizing ds with
  | nil => intro i v e; cases i <;> cases e
  | cons w ws ih =>
    intro i v e
    cases h with
    | cons h1 h2 =>
      cases i with
      | zero => cases e; exact ⟨_, rfl, h1⟩
      | succ i => exact ih h2 i v e
theorem tk_ints {H : Hp} : ∀ (js : List Int), TkAll H (js.map V.int) (js.map PyData.int)
  | [] => .nil
  | j :: r => .cons (.int j) (tk_ints r)
theorem Tk.th {K : Frag} {H : Hp} {v : V} {d : PyData} (h : Tk H v d) : Th K H v := by
  cases h with
  | non => exact .non
  | bl b => exact .bl b
  | int i => exact .int i
  | str x => exact .str x
  | lst h _ => exact .lst h
  | tup h _ => exact .tup h
  | dct h => exact .dct h
theorem Tk.el {H : Hp} {q : Addr} {d : PyData} {xs : List V} (h : Tk H (.ref q) d) (e : H q = some (.tup xs)) : ∃ ds, d = .tuple ds ∧ TkAll H xs ds := by
  cases h with
  | lst h _ => rw [h] at e; cases e
  | tup h t => rw [h] at e; cases e; exact ⟨_, rfl, t⟩
  | dct h => rw [h] at e; cases e
theorem Tk.elL {H : Hp} {q : Addr} {d : PyData} {xs : List V} (h : Tk H (.ref q) d) (e : H q = some (.lst xs)) : ∃ ds, d = .list ds ∧ TkAll H xs ds := by
  cases h with
  | lst h t => rw [h] at e; cases e; exact ⟨_, rfl, t⟩
  | tup h _ => rw [h] at e; cases e
  | dct h => rw [h] at e; cases e
theorem Tk.els {K : Frag} {H : Hp} {x : V} {d : PyData} (h : Tk H x d) (q : Addr) (xs : List V) (ex : x = .ref q) (e : H q = some (.tup xs)) : ∀ y ∈ xs, Th K H y := fun y hy => by
  subst ex
  obtain ⟨ds, _, t⟩ := h.el e
  obtain ⟨e, _, k⟩ := t.mem y hy
  exact k.th
/-! ### the heap without the bag -/
def wo (b : Addr) (H : Hp) : Hp := fun a => if a = b then none else H a
theorem wo_ne {b a : Addr} {H : Hp} {o : HO} (n : a ≠ b) (h : H a = some o) : wo b H a = some o := by unfold wo; rw [if_neg n]; exact h
theorem wo_same {b : Addr} {H : Hp} : Same (wo b H) H := fun a o h => by
  unfold wo at h
  by_cases e : a = b
  · rw [if_pos e] at h; cases h
  · rw [if_neg e] at h; exact h
theorem wo_kp {b : Addr} {H H' : Hp} (k : Kp b H H') : Same (wo b H) (wo b H') := fun a o h => by
  unfold wo at h
  by_cases e : a = b
  · rw [if_pos e] at h; cases h
  · rw [if_neg e] at h; exact wo_ne e (k a o e h)
theorem wo_sm {b : Addr} {H H' : Hp} (s : Same H H') : Same (wo b H) (wo b H') := wo_kp (same_kp s)
/-- known apart from the bag -/
abbrev TkB (b : Addr) (H : Hp) (v : V) (d : PyData) : Prop := Tk (wo b H) v d
theorem TkB.tk {b : Addr} {H : Hp} {v : V} {d : PyData} (h : TkB b H v d) : Tk H v d := h.same wo_same
theorem TkB.kp {b : Addr} {H H' : Hp} {v : V} {d : PyData} (h : TkB b H v d) (k : Kp b H H') : TkB b H' v d := h.same (wo_kp k)
/-! ### what can be shown -/
mutual
def gd : PyData → Bool
  | .none | .bool _ => true
  | .int i => decide (i.natAbs < 10 ^ 40)
  | .str x => x.cps.toList.all fun c => decide (c < 16 ^ 8)
  | .list xs | .tuple xs => gdAll xs
  | .dict kvs => kvs.isEmpty
def gdAll : List PyData → Bool
  | [] => true
  | x :: xs => gd x && gdAll xs
end
mutual
def noL : PyData → Bool
  | .list _ => false
  | .tuple xs => noLAll xs
  | _ => true
def noLAll : List PyData → Bool
  | [] => true
  | x :: xs => noL x && noLAll xs
end
structure Fine (d : PyData) : Prop where
  good : gd d = true
  bulk : d.bulk ≤ 300000
  depth : d.depth ≤ 40
  mix : d.hasDict = true → noL d = true
theorem pow10 : (10 : Nat) ^ 40 ≤ 2 ^ 1920 := by decide +kernel
mutual
theorem gd_showable : ∀ (d : PyData), gd d = true → d.showable = true
  | .none, _ => rfl
  | .bool _, _ => rfl
  | .str _, _ => rfl
  | .int i, h => by
    have q : i.natAbs < 10 ^ 40 := by simpa [gd] using h
    have q2 : i.natAbs < 2 ^ 1920 := Nat.lt_of_lt_of_le q pow10
    show decide (i.natAbs.log2 < 1920) = true
    rw [decide_eq_true_iff]
    by_cases e : i.natAbs = 0
    · rw [e]; decide
    · exact (Nat.log2_lt e).mpr q2
  | .list xs, h => gd_showableAll xs h
  | .tuple xs, h => gd_showableAll xs h
  | .dict [], _ => rfl
  | .dict (_ :: _), h => by cases h
theorem gd_showableAll : ∀ (ds : List PyData), gdAll ds = true → PyData.showableAll ds = true
  | [], _ => rfl
  | d :: ds, h => by
    have q : gd d = true ∧ gdAll ds = true := by simpa [gdAll] using h
    show (d.showable && PyData.showableAll ds) = true
    rw [gd_showable d q.1, gd_showableAll ds q.2]
    rfl
end
theorem int_shown {i : Int} (h : i.natAbs < 10 ^ 40) : (PyData.shown (.int i)).length ≤ 42 := by
  have q := int_text_length_le10 (a := i) (k := 40) (by decide) h
  have e : (PyData.shown (.int i)).length = (toString i).length := by
    show (Str.ofString (toString i)).length = _
    exact PySem.ofString_length _
  omega
mutual
theorem gd_short : ∀ (d : PyData), gd d = true → d.leavesShort 42 = true
  | .none, _ => rfl
  | .bool _, _ => rfl
  | .str _, h => h
  | .int i, h => by
    have q : i.natAbs < 10 ^ 40 := by simpa [gd] using h
    show decide (_ ≤ 42) = true
    rw [decide_eq_true_iff]
    exact int_shown q
  | .list xs, h => gd_shortAll xs h
  | .tuple xs, h => gd_shortAll xs h
  | .dict [], _ => rfl
  | .dict (_ :: _), h => by cases h
theorem gd_shortAll : ∀ (ds : List PyData), gdAll ds = true → PyData.leavesShortAll 42 ds = true
  | [], _ => rfl
  | d :: ds, h => by
    have q : gd d = true ∧ gdAll ds = true := by simpa [gdAll] using h
    show (d.leavesShort 42 && PyData.leavesShortAll 42 ds) = true
    rw [gd_short d q.1, gd_shortAll ds q.2]
    rfl
end
theorem Fine.len {d : PyData} (h : Fine d) : d.shown.length ≤ sizeLine := by
  have q := PyData.shown_le_bulk 42 (by decide) d (gd_short d h.good)
  have e : sizeLine = 16777216 := rfl
  have := h.bulk
  omega
/-! ### what the real heap has of it -/
section
variable {X : Cx} {pins : List (Addr × Obj)} {σ : L2.St} {H : Hp} {s : Shared}
mutual
theorem tk_reads (I : Inv X pins σ H s) : ∀ (d : PyData) (v : V) (u : Value), Tk H v d → RelV v u → ∃ as, Reads s.heap u d as ∧ (noL d = true → sysModules ∉ as)
  | .none, _, _, h, r => by
    cases h
    cases r
    exact ⟨_, Reads.none, fun _ => List.not_mem_nil⟩
  | .bool b, _, _, h, r => by
    cases h
    cases r
    exact ⟨_, Reads.bool b, fun _ => List.not_mem_nil⟩
  | .int i, _, _, h, r => by
    cases h
    obtain ⟨t, rfl⟩ := r
    exact ⟨_, Reads.int i t, fun _ => List.not_mem_nil⟩
  | .str x, _, _, h, r => by
    cases h
    obtain ⟨t, rfl⟩ := r
    exact ⟨_, Reads.str x t, fun _ => List.not_mem_nil⟩
  | .list ds, _, _, h, r => by
    cases h with
    | lst hs ha =>
      cases r
      obtain ⟨its, rv, ⟨o, n, ho, hc, _, hd⟩, _⟩ := I.list (SqL.of hs)
      obtain ⟨as, hr, _⟩ := tk_readsAll I ds _ its ha rv
      exact ⟨_, Reads.list ho hc hd hr, fun z => nomatch z⟩
  | .tuple ds, _, _, h, r => by
    cases h with
    | tup hs ha =>
      cases r
      obtain ⟨its, rv, ⟨o, ho, hc, n, hd⟩, _⟩ := I.tuple (SqT.of hs)
      obtain ⟨as, hr, hm⟩ := tk_readsAll I ds _ its ha rv
      exact ⟨_, Reads.tuple ho hc hd hr, hm⟩
  | .dict _, _, _, h, r => by
    cases h with
    | @dct p hp =>
      cases r
      obtain ⟨_, ns, vs, kv, o, es, ep, ho, ex, hd, _, pr, _⟩ := I.hok p _ hp
      cases kv
      have e0 : es.toList = [] := by
        generalize es.toList = l at pr
        cases pr
        rfl
      have e1 : es = #[] := Array.toList_inj.mp e0
      subst e1
      refine ⟨_, .dict ho ex.1 hd .nil .nil, fun _ z => ?_⟩
      have z' : sysModules = p := by simpa using z
      rw [← z'] at ns
      exact absurd ns (by decide)
theorem tk_readsAll (I : Inv X pins σ H s) : ∀ (ds : List PyData) (vs : List V) (us : List Value), TkAll H vs ds → Vals vs us → ∃ as, ReadsAll s.heap us ds as ∧ (noLAll ds = true → sysModules ∉ as)
  | [], _, _, h, r => by
    cases h
    cases r
    exact ⟨_, ReadsAll.nil, fun _ => List.not_mem_nil⟩
  | d :: ds, _, _, h, r => by
    cases h with
    | cons h1 h2 =>
      cases r with
      | cons r1 r2 =>
        obtain ⟨as, q1, m1⟩ := tk_reads I d _ _ h1 r1
        obtain ⟨bs, q2, m2⟩ := tk_readsAll I ds _ _ h2 r2
        refine ⟨_, ReadsAll.cons q1 q2, fun z => ?_⟩
        have q : noL d = true ∧ noLAll ds = true := by simpa [noLAll] using z
        exact fun w => (List.mem_append.mp w).elim (m1 q.1) (m2 q.2)
end
end
def rShowT : List V → Hp → VK → Prop := fun xs H Q => ∃ x d, xs = [x] ∧ Tk H x d ∧ Fine d ∧ Q (.str d.shown) H
theorem u_showT {X : Cx} (hq : Quiet X.A) (hu : X.A.units + 64 < cLine) : CallR X (.builtin "repr") rShowT := by
  rintro pins s σ H xs us Q I r ⟨x, d, rfl, hd, hf, q⟩
  have hlen := hf.len
  have hs := gd_showable d hf.good
  have hdep := hf.depth
  have hm := hf.mix
  cases r with
  | cons rx rn =>
    rename_i u us
    cases rn
    obtain ⟨as, rd, ns⟩ := tk_reads I d x u hd rx
    have ns2 : d.hasDict = true → sysModules ∉ as := fun z => ns (hm z)
    have fin : ∀ t k, EP X pins σ Q (.str d.shown t) { s with toks := k } := fun t k => ⟨V.str d.shown, H, I.tok _, ⟨t, rfl⟩, q⟩
    have fin2 : ∀ h' t k, (∀ b o, s.heap.get? b = some o → h'.get? b = some o) → EP X pins σ Q (.str d.shown t) { s with heap := h', toks := k } := fun h' t tk k => ⟨V.str _, H, I.kept k, ⟨t, rfl⟩, q⟩
    cases rd with
    | none => exact PySem.P.repr_of_none (fin _ _)
    | bool b => exact PySem.P.repr_of_bool (fin _ _)
    | int i t => exact PySem.P.repr_of_int (by simpa [PyData.showable] using hs) (fin _ _)
    | str y t => exact PySem.P.repr_of_str (fin _ _) hlen
    | list h1 h2 h3 h4 => exact repr_of_reads' (h₀ := s.heap) (.list h1 h2 h3 h4) hs ns2 hq (by omega) (fun _ _ e => e) fin2 hlen
    | tuple h1 h2 h3 h4 => exact repr_of_reads' (h₀ := s.heap) (.tuple h1 h2 h3 h4) hs ns2 hq (by omega) (fun _ _ e => e) fin2 hlen
    | dict h1 h2 h3 h4 h5 => exact repr_of_reads' (h₀ := s.heap) (.dict h1 h2 h3 h4 h5) hs ns2 hq (by omega) (fun _ _ e => e) fin2 hlen
end EL

/- part T2 -/
/-! t[::-1] of a tuple -/
namespace EL
open PySem PySem.Spec PyProof.Rows L2
open PySem.W (Frag)
theorem rev_adjust (n : Nat) : Builtin.Slice.sliceAdjust none none (-1) (n : Int) = ((n : Int) - 1, -1) := by
  unfold Builtin.Slice.sliceAdjust
  rfl
theorem rev_places (n : Nat) : Builtin.Slice.slicePlaces ((n : Int) - 1) (-1) (-1) = n := by
  unfold Builtin.Slice.slicePlaces
  have h1 : ¬ ((-1 : Int) > 0) := by omega
  rw [if_neg h1]
  by_cases h : (n : Int) - 1 > -1
  · rw [if_pos h, show (- -1 : Int) = 1 by decide, Int.ediv_one]
    omega
  · rw [if_neg h]
    omega
theorem fm_congr {α β : Type} {f g : α → Option β} : ∀ (l : List α), (∀ x ∈ l, f x = g x) → l.filterMap f = l.filterMap g
  | [], _ => rfl
  | a :: l, h => by rw [List.filterMap_cons, List.filterMap_cons, h a (List.mem_cons_self ..), fm_congr l fun x hx => h x (List.mem_cons_of_mem _ hx)]
theorem rev_pick (xs : Array Value) : ((List.range xs.size).filterMap fun (k : Nat) => xs[((xs.size : Int) - 1 + (k : Int) * (-1)).toNat]?).toArray = xs.toList.reverse.toArray := by
  have e : (List.range xs.size).filterMap (fun (k : Nat) => xs[((xs.size : Int) - 1 + (k : Int) * (-1)).toNat]?) = ((List.range xs.size).map fun k => xs.size - 1 - k).filterMap (xs[·]?) := by
    rw [List.filterMap_map]
    apply fm_congr
    intro k hk
    have := List.mem_range.mp hk
    have q : ((xs.size : Int) - 1 + (k : Int) * (-1)).toNat = xs.size - 1 - k := by omega
    show xs[((xs.size : Int) - 1 + (k : Int) * (-1)).toNat]? = xs[xs.size - 1 - k]?
    rw [q]
  rw [e, PySem.W.krv_range, List.filterMap_reverse, PySem.W.krv_all]
section
variable {prog : Program} {w : World} {A : Around} {E : Value → Shared → Prop} {s : Shared}
open HT in
theorem getItem_tuple_rev {t sl : Addr} {items : Array Value} {vl vu vs : Value} {Q : Value → Shared → Prop} (ht : IsTup s.heap t items) (hs : s.heap.IsSliceOf sl vl vu vs) (pl : IsPart vl none) (pu : IsPart vu none) (ps : IsPart vs (some (-1)))
    (h : Q (.ref s.heap.objs.size) { s with heap := s.heap.push { cls := .type "tuple", data := .seq items.toList.reverse.toArray } }) (hsz : items.size ≤ sizeLine) : wpAny (model prog w) A (getItem (.ref t) (.ref sl)) Q E s := by
  have htake : sizeOk (.seq items.toList.reverse.toArray) := by
    show items.toList.reverse.toArray.size ≤ sizeLine
    rw [List.size_toArray, List.length_reverse, Array.length_toList]
    exact hsz
  obtain ⟨os, hos, hcs, hds⟩ := id hs
  have hTs : s.TypeIs (.ref sl) "slice" := ⟨os, hos, hcs⟩
  unfold getItem
  try with_reducible refine wpAny_holding ?_
  first | refine wpAny_bind (wpAny_pure ?_) | skip
  refine wpAny_bind (wpAny_sequenceKey ht.typeIs (by decide) ?_)
  refine wpAny_bind (wpAny_callSpecial?_slot (name := Str.ofString "__getitem__") ht.typeIs PyProof.Rows.slot_tuple_getitem
    (wpAny_call_entry PyProof.Rows.slot_tuple_getitem ht.typeIs entry_tuple_getitem ?_ (args_tuple_getitem _ _)))
  show wpAny _ _ (Builtin.Tuple.tupleItemsOf (.ref t) >>= _) _ _ s
  refine wpAny_bind (tupleItemsOf_ ht ?_)
  refine wpAny_bind (wpAny_typeOf hTs ?_)
  rw [if_pos (by decide)]
  have ap : ∀ {R : Int × Int × Nat → Shared → Prop}, R ((items.size : Int) - 1, -1, items.size) s → wpAny (model prog w) A.in1 (Builtin.Slice.sliceApplied (.ref sl) (pure (items.size : Int))) R E s := by
    intro R hR
    unfold Builtin.Slice.sliceApplied Builtin.Slice.sliceFields
    refine wpAny_bind (wpAny_bind (wpAny_field hos hds (x := vl) rfl (wpAny_bind (wpAny_field hos hds (x := vu) rfl (wpAny_bind (wpAny_field hos hds (x := vs) rfl (wpAny_pure ?_)))))))
    refine wpAny_bind (slicePart_ ps ?_)
    show wpAny _ _ (if ((-1 : Int) == 0) = true then _ else _) _ _ s
    rw [if_neg (by decide)]
    refine wpAny_bind (slicePart_ pl (wpAny_bind (slicePart_ pu (wpAny_bind (wpAny_pure ?_)))))
    show wpAny _ _ (match Builtin.Slice.sliceAdjust none none (-1) (items.size : Int) with | (lo, hi) => pure (lo, (-1 : Int), Builtin.Slice.slicePlaces lo hi (-1))) _ _ s
    rw [rev_adjust]
    show wpAny _ _ (pure ((items.size : Int) - 1, (-1 : Int), Builtin.Slice.slicePlaces ((items.size : Int) - 1) (-1) (-1))) _ _ s
    rw [rev_places]
    exact wpAny_pure hR
  refine wpAny_bind (ap ?_)
  have hno : ¬ ((((items.size : Int) - 1) == 0 && (-1 : Int) == 1 && items.size == items.size) = true) := by
    intro q
    rw [Bool.and_eq_true, Bool.and_eq_true] at q
    exact absurd q.1.2 (by decide)
  show wpAny _ _ (if (((items.size : Int) - 1) == 0 && (-1 : Int) == 1 && items.size == items.size) = true then _ else _) _ _ s
  rw [if_neg hno, rev_pick]
  first
    | exact wpAny_bind (m := Builtin.Tuple.tupleExact _) (wpAny_newObj_type (wpAny_pure ⟨_, rfl, wpAny_pure h⟩) htake)
    | exact wpAny_bind (m := Builtin.Tuple.tupleExact _) (wpAny_newObj_type (wpAny_bind (wpAny_pure (wpAny_pure ⟨_, rfl, wpAny_pure h⟩))) htake)
    | exact wpAny_bind (wpAny_bind (m := Builtin.Tuple.tupleExact _) (wpAny_newObj_type (wpAny_pure (wpAny_pure ⟨_, rfl, wpAny_pure h⟩)) htake))
    | exact wpAny_bind (wpAny_bind (m := Builtin.Tuple.tupleExact _) (wpAny_newObj_type (wpAny_pure ⟨_, rfl, wpAny_pure h⟩) htake))
end
section
variable {X : Cx}
def tRevT (K : Frag) (te : TE) : TE := fun σ H Q => te σ H fun x H1 => ∃ a xs, x = .ref a ∧ SqT K H1 a xs ∧ ∀ p, H1 p = none → Q (.ref p) (upd H1 p (.tup xs.reverse))
theorem pe_revT {e : Expr} {te : TE} {k : Nat} {p1 p2 p3 pos : Pos} (he : PE X e te) : PE X (.Subscript e (.Slice none none (some (.UnaryOp .USub (.Constant (.int 1) k p1) p2)) p3) pos) (tRevT X.K te) := by
  refine ⟨fun pins s σ H Q I h => ?_⟩
  refine Subscript_ (thn (he.run pins s σ H _ I h) fun v s1 ⟨x, H1, I1, r1, q1⟩ => ?_)
  obtain ⟨a, xs, ex, hx, q⟩ := q1
  subst ex
  cases r1
  have hst : PO X (some (.UnaryOp .USub (.Constant (.int 1) k p1) p2)) (tPart (tUn (rU fun i => .int (-i)) (tC (.int 1)))) := po_some (pe_un un_neg pe_int)
  refine wpAny_Slice (thn (po_none.run pins s1 σ H1 (fun o H2 => o = none ∧ H2 = H1) I1 ⟨rfl, rfl⟩) fun vl s2 ⟨l, H2, I2, pl, el, e2⟩ => ?_)
  subst el e2
  refine thn (po_none.run pins s2 σ H2 (fun o H3 => o = none ∧ H3 = H2) I2 ⟨rfl, rfl⟩) fun vu s3 ⟨u, H3, I3, pu, eu, e3⟩ => ?_
  subst eu e3
  refine thn (hst.run pins s3 σ H3 (fun o H4 => o = some (-1) ∧ H4 = H3) I3 ⟨1, rfl, -1, rfl, rfl, rfl⟩) fun vs s4 ⟨o, H4, I4, ps, eo, e4⟩ => ?_
  subst eo e4
  have I5 : Inv X pins σ H4 { s4 with heap := s4.heap.push { cls := .type "slice", data := .fields #[vl, vu, vs] } } := I4.kept (t' := s4.toks) fun b ob q => Heap.get?_push_of_some _ q
  obtain ⟨its, r, ht, hz⟩ := I5.tuple hx
  have hlen := r.length
  show wpAny (model X.prog X.w) X.A (subscriptTail e (.Slice none none (some (.UnaryOp .USub (.Constant (.int 1) k p1) p2)) p3) (.ref a) (.ref s4.heap.objs.size)) (EP X pins σ Q) X.xe { s4 with heap := s4.heap.push { cls := .type "slice", data := .fields #[vl, vu, vs] } }
  refine tail_any (ops := [.ref a, .ref s4.heap.objs.size]) ht.typeIs (PyProof.Rows.slot_tuple_getitem.lookup) ?_ (by with_unfolding_all rfl)
  refine getItem_tuple_rev ht (Heap.IsSliceOf.new _ vl vu vs) pl pu ps ?_ (by rw [List.size_toArray]; omega)
  refine ⟨.ref _, _, I5.laid (t' := s4.toks) (o := .tup xs.reverse) (fun b ob q => Heap.get?_push_of_some _ q) (Nat.le_refl _) ?_, rfl, q _ (I5.hok.fresh (Nat.le_refl _))⟩
  exact ⟨by rw [List.length_reverse]; exact hz, _, r.reverse, IsTup.new _ _⟩
end
end EL

/- part T3 -/
/-! data of a size; parts of tuples -/
namespace EL
open PySem PySem.Spec PyProof.Rows L2
open PySem.W (Frag)
/-- no dict, so big, so deep -/
structure Sz (n k : Nat) (d : PyData) : Prop where
  good : gd d = true
  bulk : d.bulk ≤ n
  depth : d.depth ≤ k
  nod : d.hasDict = false
theorem Sz.le {n k n' k' : Nat} {d : PyData} (h : Sz n k d) (a : n ≤ n') (b : k ≤ k') : Sz n' k' d := ⟨h.good, Nat.le_trans h.bulk a, Nat.le_trans h.depth b, h.nod⟩
theorem Sz.fine {n k : Nat} {d : PyData} (h : Sz n k d) (a : n ≤ 300000) (b : k ≤ 40) : Fine d := ⟨h.good, Nat.le_trans h.bulk a, Nat.le_trans h.depth b, fun z => by rw [h.nod] at z; cases z⟩
theorem sz_all {n k : Nat} : ∀ {ds : List PyData}, (∀ d ∈ ds, Sz n k d) → gdAll ds = true ∧ PyData.bulkAll ds ≤ ds.length * (n + 1) ∧ PyData.depthAll ds ≤ k ∧ PyData.hasDictAll ds = false
  | [], _ => ⟨rfl, Nat.zero_le _, Nat.zero_le _, rfl⟩
  | d :: ds, h => by
    have q := h d (List.mem_cons_self ..)
    obtain ⟨a, b, c, e⟩ := sz_all fun x hx => h x (List.mem_cons_of_mem _ hx)
    refine ⟨?_, ?_, ?_, ?_⟩
    · show (gd d && gdAll ds) = true
      rw [q.good, a]; rfl
    · show d.bulk + 1 + PyData.bulkAll ds ≤ (ds.length + 1) * (n + 1)
      have := q.bulk
      rw [Nat.add_mul, Nat.one_mul]
      omega
    · show max d.depth (PyData.depthAll ds) ≤ k
      exact Nat.max_le.mpr ⟨q.depth, c⟩
    · show (d.hasDict || PyData.hasDictAll ds) = false
      rw [q.nod, e]; rfl
theorem sz_tup {n k : Nat} {ds : List PyData} (h : ∀ d ∈ ds, Sz n k d) : Sz (ds.length * (n + 1)) (k + 1) (.tuple ds) := by
  obtain ⟨a, b, c, e⟩ := sz_all h
  exact ⟨a, b, Nat.succ_le_succ c, e⟩
theorem sz_lst {n k : Nat} {ds : List PyData} (h : ∀ d ∈ ds, Sz n k d) : Sz (ds.length * (n + 1)) (k + 1) (.list ds) := by
  obtain ⟨a, b, c, e⟩ := sz_all h
  exact ⟨a, b, Nat.succ_le_succ c, e⟩
theorem sz_non : Sz 0 0 .none := ⟨rfl, Nat.le_refl _, Nat.le_refl _, rfl⟩
theorem sz_bl {b : Bool} : Sz 0 0 (.bool b) := ⟨rfl, Nat.le_refl _, Nat.le_refl _, rfl⟩
theorem sz_int {i : Int} (h : i.natAbs < 10 ^ 40) : Sz 0 0 (.int i) := ⟨by show decide _ = true; exact decide_eq_true h, Nat.le_refl _, Nat.le_refl _, rfl⟩
theorem sz_str {s : Str} (h : gd (.str s) = true) : Sz s.cps.size 0 (.str s) := ⟨h, Nat.le_refl _, Nat.le_refl _, rfl⟩
/-- a value that is known apart from the bag, of a size -/
def NiS (n k : Nat) (b : Addr) (H : Hp) (v : V) : Prop := ∃ d, TkB b H v d ∧ Sz n k d
/-- a value that is known apart from the bag, and can be shown -/
def Nice (b : Addr) (H : Hp) (v : V) : Prop := ∃ d, TkB b H v d ∧ Fine d
section
variable {n k : Nat} {b : Addr} {H H' : Hp} {v : V}
theorem NiS.le {n' k' : Nat} (h : NiS n k b H v) (a : n ≤ n') (c : k ≤ k') : NiS n' k' b H v := by
  obtain ⟨d, t, z⟩ := h
  exact ⟨d, t, z.le a c⟩
theorem NiS.nice (h : NiS n k b H v) (a : n ≤ 300000) (c : k ≤ 40) : Nice b H v := by
  obtain ⟨d, t, z⟩ := h
  exact ⟨d, t, z.fine a c⟩
theorem NiS.kp (h : NiS n k b H v) (q : Kp b H H') : NiS n k b H' v := by
  obtain ⟨d, t, z⟩ := h
  exact ⟨d, t.kp q, z⟩
theorem Nice.kp (h : Nice b H v) (q : Kp b H H') : Nice b H' v := by
  obtain ⟨d, t, z⟩ := h
  exact ⟨d, t.kp q, z⟩
theorem NiS.same (h : NiS n k b H v) (q : Same H H') : NiS n k b H' v := h.kp (same_kp q)
theorem Nice.same (h : Nice b H v) (q : Same H H') : Nice b H' v := h.kp (same_kp q)
theorem ni_non : NiS 0 0 b H .non := ⟨_, .non, sz_non⟩
theorem ni_bl {x : Bool} : NiS 0 0 b H (.bl x) := ⟨_, .bl x, sz_bl⟩
theorem ni_int {i : Int} (h : i.natAbs < 10 ^ 40) : NiS 0 0 b H (.int i) := ⟨_, .int i, sz_int h⟩
theorem ni_str {s : Str} (h : gd (.str s) = true := by decide +kernel) : NiS s.cps.size 0 b H (.str s) := ⟨_, .str s, sz_str h⟩
theorem tk_pick {P : PyData → Prop} : ∀ {xs : List V}, (∀ v ∈ xs, ∃ d, TkB b H v d ∧ P d) → ∃ ds, TkAll (wo b H) xs ds ∧ ds.length = xs.length ∧ ∀ d ∈ ds, P d
  | [], _ => ⟨[], .nil, rfl, fun _ h => nomatch h⟩
  | x :: xs, h => by
    obtain ⟨ds, t, l, p⟩ := tk_pick fun v hv => h v (List.mem_cons_of_mem _ hv)
    obtain ⟨d, t1, p1⟩ := h x (List.mem_cons_self ..)
    exact ⟨d :: ds, .cons t1 t, by rw [List.length_cons, List.length_cons, l], fun y hy => (List.mem_cons.mp hy).elim (fun e => e ▸ p1) (p y)⟩
theorem ni_tup {p : Addr} {xs : List V} (hp : H p = some (.tup xs)) (nb : p ≠ b) (h : ∀ v ∈ xs, NiS n k b H v) : NiS (xs.length * (n + 1)) (k + 1) b H (.ref p) := by
  obtain ⟨ds, t, l, q⟩ := tk_pick (P := Sz n k) h
  exact ⟨.tuple ds, .tup (wo_ne nb hp) t, l ▸ sz_tup q⟩
theorem ni_lst {p : Addr} {xs : List V} (hp : H p = some (.lst xs)) (nb : p ≠ b) (h : ∀ v ∈ xs, NiS n k b H v) : NiS (xs.length * (n + 1)) (k + 1) b H (.ref p) := by
  obtain ⟨ds, t, l, q⟩ := tk_pick (P := Sz n k) h
  exact ⟨.list ds, .lst (wo_ne nb hp) t, l ▸ sz_lst q⟩
theorem nice_dct {p : Addr} (hp : H p = some (.dK [])) (nb : p ≠ b) : Nice b H (.ref p) := ⟨_, .dct (wo_ne nb hp), ⟨rfl, by decide, by decide, fun _ => rfl⟩⟩
/-- the items of a known tuple -/
theorem ni_at {p : Addr} {xs : List V} (h : NiS n (k + 1) b H (.ref p)) (hp : H p = some (.tup xs)) : ∀ v ∈ xs, NiS n k b H v := by
  obtain ⟨d, t, z⟩ := h
  cases t with
  | lst e _ => rw [wo_same _ _ e] at hp; cases hp
  | dct e => rw [wo_same _ _ e] at hp; cases hp
  | @tup _ ys ds e t =>
    rw [wo_same _ _ e] at hp
    cases hp
    intro v hv
    obtain ⟨d, hd, q⟩ := t.mem v hv
    refine ⟨d, q, ?_⟩
    have a : ∀ {ds : List PyData}, d ∈ ds → gdAll ds = true → PyData.bulkAll ds ≤ n → PyData.depthAll ds ≤ k → PyData.hasDictAll ds = false → Sz n k d := by
      intro ds
      induction ds with
      | nil => intro h; cases h
      | cons e r ih =>
        intro hm h1 h2 h3 h4
        have g1 : gd e = true ∧ gdAll r = true := by simpa [gdAll] using h1
        have g2 : e.bulk + 1 + PyData.bulkAll r ≤ n := h2
        have g3 : max e.depth (PyData.depthAll r) ≤ k := h3
        have g4 : e.hasDict = false ∧ PyData.hasDictAll r = false := by simpa [PyData.hasDictAll] using h4
        have g5 := Nat.max_le.mp g3
        rcases List.mem_cons.mp hm with rfl | hm
        · exact ⟨g1.1, by omega, g5.1, g4.1⟩
        · exact ih hm g1.2 (by omega) g5.2 g4.2
    have z3 : PyData.depthAll ds + 1 ≤ k + 1 := z.depth
    exact a hd z.good z.bulk (by omega) z.nod
end
/-! ### parts of tuples, joined tuples -/
section
variable {K : Frag} {H : Hp} {Q : VK}
theorem n_catT {a b : Addr} {xs ys : List V} (ha : H a = some (.tup xs)) (hb : H b = some (.tup ys)) (z : xs.length + ys.length ≤ sizeLine) (q : ∀ p H', Same H H' → H' p = some (.tup (xs ++ ys)) → Q (.ref p) H') : rAdd K (.ref a) (.ref b) H Q := by
  refine .inr (.inr ⟨a, b, xs, ys, rfl, rfl, SqT.of ha, SqT.of hb, z, fun e => ?_, fun e1 e2 => ?_, fun _ _ p hp => q p _ (L2.Same.nw (Same.refl _) hp) upd_same⟩)
  · subst e
    exact q b H (Same.refl _) hb
  · subst e2
    exact q a H (Same.refl _) (by rw [List.append_nil]; exact ha)
theorem n_slT {a : Addr} {xs : List V} {lo hi : Option Int} (ha : H a = some (.tup xs)) (q : ∀ p H', Same H H' → H' p = some (.tup (cutV xs lo hi)) → Q (.ref p) H') : rSlice K (.ref a) lo hi H Q := by
  refine .inr ⟨a, xs, rfl, SqT.of ha, fun e => ?_, fun _ p hp => q p _ (L2.Same.nw (Same.refl _) hp) upd_same⟩
  refine q a H (Same.refl _) ?_
  have w : cutV xs lo hi = xs := by
    unfold cutV
    rw [e.1, e.2, List.drop_zero, Nat.sub_zero, List.take_length]
  rw [w]
  exact ha
theorem a_spar3 {σ : L2.St} {D : Ends} {u : TS} {ta : TA} {i j l : Nat} (q : ta σ H fun vs H1 => ∃ x y z, vs = [x, y, z] ∧ u D (((σ.set i (some x)).set j (some y)).set l (some z)) H1) : tSeq (tPar3 i j l ta) u D σ H := q
theorem a_par3 {σ : L2.St} {D : Ends} {ta : TA} {i j l : Nat} (q : ta σ H fun vs H1 => ∃ x y z, vs = [x, y, z] ∧ D.nx (((σ.set i (some x)).set j (some y)).set l (some z)) H1) : tPar3 i j l ta D σ H := q
theorem a_three {R : V → V → V → Prop} {a b c : V} (q : R a b c) : ∃ x y z, [a, b, c] = [x, y, z] ∧ R x y z := ⟨a, b, c, rfl, q⟩
theorem a_revT {σ : L2.St} {te : TE} (q : te σ H fun x H1 => ∃ a xs, x = .ref a ∧ SqT K H1 a xs ∧ ∀ p, H1 p = none → Q (.ref p) (upd H1 p (.tup xs.reverse))) : tRevT K te σ H Q := q
end
theorem cut_mem {xs : List V} {lo hi : Option Int} {v : V} (h : v ∈ cutV xs lo hi) : v ∈ xs := by
  unfold cutV at h
  exact List.mem_of_mem_drop (List.mem_of_mem_take h)
theorem cut_le (xs : List V) (lo hi : Option Int) : (cutV xs lo hi).length ≤ xs.length := by
  unfold cutV
  rw [List.length_take, List.length_drop]
  omega
end EL

/- part A -/
namespace EL
open PySem PySem.Spec PyProof.Rows L2
open PySem.W (Frag)
def top (i : Nat) : Stmt := PySem.Challenge.pw_earlyorlate_k92_whole_books_read.main.body.getD i (.Pass ⟨0, 0, 0, 0⟩)
abbrev s_take : Stmt := top 46
abbrev N_take : List Str := ["_law_bag_here", "_law_many", "_law_cell", "_law_mixed", "_law_drawn", "_law_early", "_law_second"]
theorem sc_take : FnScope N_take ["_law_bag_here", "_law_many"] (defScope s_take) := ⟨rfl, rfl, rfl, by decide +kernel, rfl, by decide +kernel, by decide +kernel⟩
structure Tb (mg : Str → Option Value) : Prop where
  b : Bi mg
local macro_rules | `(tactic| walk_at "el1") => `(tactic| with_reducible first
  | refine a_sasg ?_ | refine a_sdrop ?_ | refine a_saugS ?_ | refine a_spar ?_ | refine a_seq ?_ | refine a_asg ?_ | refine a_drop ?_ | refine a_ret ?_ | refine a_if ?_ | refine a_next ?_
  | refine a_op ?_ | refine a_cons ?_ | refine a_nil ?_ | refine a_cb ?_ | refine a_call ?_ | refine a_c ?_ | refine a_gn ?_ | refine a_nx ?_ | refine a_rt ?_ | refine a_un ?_
  | refine a_test ?_ | refine a_B ?_ | refine a_bl ?_ | refine a_and ?_ | refine a_or ?_ | refine a_not ?_ | refine a_andV ?_ | refine a_orV ?_ | refine a_notV ?_ | refine a_ifx ?_ | refine a_chain ?_
  | refine a_nT ?_ | refine a_nF ?_ | refine a_fld ?_ | refine a_getF ?_ | refine a_T ?_ | refine a_F ?_ | refine a_tup ?_ | refine a_lst ?_ | refine a_sub ?_ | refine a_augS ?_ | refine a_two ?_ | refine a_I0 ?_ | refine a_U ?_ | refine n_add ?_ | refine n_int ?_ | refine n_ib ?_ | refine a_ip ?_ | refine a_rng1 ?_ | refine a_rng2 ?_ | refine a_bm ?_ | refine a_abs ?_ | refine a_pairs ?_ | refine a_pairs0 ?_ | refine a_bk ?_ | refine a_prp ?_ | refine a_lc ?_ | refine a_yes ?_ | refine a_sl ?_ | refine a_nop ?_ | refine a_prt ?_ | refine a_ex1 ?_ | refine a_for ?_ | refine a_sfor ?_ | refine a_iE1 ?_ | refine a_iEs ?_ | refine a_iEz ?_ | refine a_iEnum ?_ | refine a_iTup ?_ | refine a_iList ?_ | refine a_gcons ?_ | refine a_gnil ?_ | refine a_revT ?_ | refine a_spar3 ?_ | refine a_par3 ?_ | refine a_three ?_)
local macro_rules | `(tactic| walk_at "el2") => `(tactic| first
  | (refine a_var (by rfl) ?_)
  | (refine n_ixL (SqL.of (by assumption)) (by rfl) ?_) | (refine n_ixT (SqT.of (by assumption)) (by rfl) ?_) | (refine n_eq (by rfl) ?_) | (refine n_ne (by rfl) ?_)
  | (refine n_isN ?_) | (refine n_notN ?_) | (refine n_isB ?_) | (refine n_notB ?_) | (refine n_isBI ?_) | (refine n_notBI ?_) | (refine n_len (.inl (SqL.of (by assumption))) ?_) | (refine n_len (.inr (SqT.of (by assumption))) ?_)
  | (refine a_getL (SqL.of (by assumption)) (by rfl) ?_)
  | (refine n_isInt (by assumption) ?_) | (refine n_isBool (by assumption) ?_) | (refine n_isStr (by assumption) ?_) | (refine n_isTup (by assumption) ?_) | (refine n_isLst (by assumption) ?_))
local macro_rules | `(tactic| walk_at "el") => `(tactic| repeat (first | walk_at "el1" | walk_at "el2"))

/-! ### the bag -/
def Bag (H : Hp) (b c : Addr) : Prop := ∃ (i j k : Int) (cs : List Int), H b = some (.lst [.int i, .int j, .int k, .ref c]) ∧ H c = some (.lst (cs.map V.int)) ∧ c ≠ b ∧ 0 ≤ i ∧ 0 ≤ j ∧ j < 2147483647 ∧ 0 ≤ k ∧ ∀ x ∈ cs, 0 ≤ x
/-- a draw: a number from 0 to many - 1, the bag changed -/
def spTake : Sp := fun vs H Q _ => ∃ (b c : Addr) (m : Int), vs = [.ref b, .int m] ∧ Bag H b c ∧ 0 < m ∧ m ≤ 1000000000 ∧ ∀ (r : Int) H', 0 ≤ r → r < m → Bag H' b c → Kp b H H' → Q (.int r) H'
theorem cell_at {cs : List Int} {k : Int} (h0 : 0 ≤ k) (h1 : k < (cs.map V.int).length) (hc : ∀ x ∈ cs, (0 : Int) ≤ x) : ∃ x, atI (cs.map V.int) k = some (V.int x) ∧ 0 ≤ x := by
  obtain ⟨n, rfl⟩ : ∃ n : Nat, k = n := ⟨k.toNat, by omega⟩
  have hn : n < cs.length := by rw [List.length_map] at h1; omega
  refine ⟨cs[n], atI_nat (by rw [List.getElem?_map, List.getElem?_eq_getElem hn]; rfl), hc _ (List.getElem_mem hn)⟩
section
variable {P : Program} {w : World} {K : Frag} {mg : Str → Option Value} {base : Heap} {f : Addr} {fd : FuncData}
theorem ok_take (F : Fun K "_law_take" "_law_take" s_take f fd) (T : Tb mg) : FnOk P w K mg base CX0 1 f fd ["_law_bag_here", "_law_many"] spTake := by
  refine F.ok sc_take (fun vs H Q E h => ?_) (fun cdv A outer s H vs Q E hr h => ?_)
  · obtain ⟨b, c, m, rfl, _⟩ := h
    rfl
  · obtain ⟨b, c, m, rfl, hB, hm0, hm1, k⟩ := h
    refine ⟨_, (Evl.pss_cut (ps_if (pt_cmpR (u_eq hr.units) (pe_ix ix_seq (pv 0) pe_int (fun _ _ => rfl)) pe_int (nomark _))
    (pss_cons (ps_set (i := 2) sc_take.nd rfl (Or.inl rfl) pe_int)
  (Evl.pss_cut (ps_if (pt_cmpR op_lt (pe_ix ix_seq (pv 0) pe_int (fun _ _ => rfl)) (pe_callB u_len rfl T.b.len_ boot_len (pa_cons (pe_ix ix_seq (pv 0) pe_int (fun _ _ => rfl)) pa_nil)) (nomark _))
    (pss_one (ps_set (i := 2) sc_take.nd rfl (Or.inl rfl) (pe_ix ix_seq (pe_ix ix_seq (pv 0) pe_int (fun _ _ => rfl)) (pe_ix ix_seq (pv 0) pe_int (fun _ _ => rfl)) (fun _ _ => rfl))))
    pss_nil)
  (pss_cons (ps_augS (pv 0) pe_int get_list pe_int ip_add set_list)
  (Evl.pss_cut (ps_if (pt_cmpR op_ge (pv 2) pe_int (nomark _))
    (pss_one (ps_asg (pv 2) (pg_sub (pv 0) pe_int set_list)))
    pss_nil)
  (pss_cons (ps_set (i := 3) sc_take.nd rfl (Or.inl rfl) (pe_op u_add (pe_op u_add (pe_op u_mul (pe_ix ix_seq (pv 0) pe_int (fun _ _ => rfl)) pe_int) (pe_op op_mod (pe_callTy u_int rfl T.b.int_ (by decide +kernel) (pa_cons (pv 2) pa_nil)) pe_int)) (pe_op u_mul pe_int (pe_ix ix_seq (pv 0) pe_int (fun _ _ => rfl)))))
  (pss_one (ps_asg (pe_op op_mod (pe_callTy u_int rfl T.b.int_ (by decide +kernel) (pa_cons (pv 3) pa_nil)) pe_int) (pg_sub (pv 0) pe_int set_list))))))))
    pss_nil)
  (pss_cons (ps_if (pt_cmpR op_gt (pe_ix ix_seq (pv 0) pe_int (fun _ _ => rfl)) pe_int (nomark _))
    (pss_cons (ps_set (i := 4) sc_take.nd rfl (Or.inl rfl) (pe_op op_mod (pe_callTy u_int rfl T.b.int_ (by decide +kernel) (pa_cons (pe_ix ix_seq (pv 0) pe_int (fun _ _ => rfl)) pa_nil)) (pv 1)))
  (pss_cons (ps_asg (pe_op op_fdiv (pe_callTy u_int rfl T.b.int_ (by decide +kernel) (pa_cons (pe_ix ix_seq (pv 0) pe_int (fun _ _ => rfl)) pa_nil)) (pv 1)) (pg_sub (pv 0) pe_int set_list))
  (pss_one (ps_ret (pv 4)))))
    pss_nil)
  (pss_cons (ps_set (i := 5) sc_take.nd rfl (Or.inl rfl) (pe_op op_mod (pe_callTy u_int rfl T.b.int_ (by decide +kernel) (pa_cons (pe_op u_mul (pe_op u_add (pe_ix ix_seq (pv 0) pe_int (fun _ _ => rfl)) pe_int) pe_int) pa_nil)) pe_int))
  (pss_cons (ps_set (i := 6) sc_take.nd rfl (Or.inl rfl) (pe_op op_mod (pe_callTy u_int rfl T.b.int_ (by decide +kernel) (pa_cons (pe_op u_mul (pe_op op_mod (pe_callTy u_int rfl T.b.int_ (by decide +kernel) (pa_cons (pe_op u_mul (pv 5) (pv 5)) pa_nil)) pe_int) pe_int) pa_nil)) pe_int))
  (pss_one (ps_ret (pe_op op_mod (pe_callTy u_int rfl T.b.int_ (by decide +kernel) (pa_cons (pe_op op_fdiv (pv 6) pe_int) pa_nil)) (pv 1)))))))), ?_⟩
    obtain ⟨i, j, n, cs, hb, hc, hcb, hi, hj, hj2, hn, hcs⟩ := hB
    -- the bag fed, or not
    refine a_cut (fun σ' H' => ∃ v2 v3, σ' = [some (.ref b), some (.int m), v2, v3, none, none, none] ∧ Bag H' b c ∧ Kp b H H') ?_ ?_
    · walk_at "el"
      walk_at "el"
      refine ite2 (fun h0 => ?_) (fun h0 => ?_)
      · walk_at "el"
        refine a_cut (fun σ' H' => ∃ x : Int, 0 ≤ x ∧ σ' = [some (.ref b), some (.int m), some (.int x), none, none, none, none] ∧ H' = H) ?_ ?_
        · walk_at "el"
          walk_at "el"
          refine ite2 (fun h1 => ?_) (fun h1 => ?_)
          · obtain ⟨x, hx, x0⟩ := cell_at hn (of_decide_eq_true h1) hcs
            walk_at "el"
            refine n_ixL (SqL.of hc) hx ?_
            walk_at "el"
            exact ⟨x, x0, rfl, rfl⟩
          · walk_at "el"
            exact ⟨0, by decide, rfl, rfl⟩
        · rintro σ' H' ⟨x, x0, rfl, rfl⟩
          walk_at "el"
          refine a_set hb rfl ?_
          refine a_cut (fun σ' H1 => ∃ i', 0 ≤ i' ∧ σ' = [some (.ref b), some (.int m), some (.int x), none, none, none, none] ∧ H1 b = some (.lst [.int i', .int j, .int (n + 1), .ref c]) ∧ ∀ a, a ≠ b → H1 a = H' a) ?_ ?_
          · walk_at "el"
            refine ite2 (fun h1 => ?_) (fun h1 => ?_)
            · walk_at "el"
              refine a_set upd_same rfl ?_
              walk_at "el"
              exact ⟨x, x0, rfl, upd_same, fun a h => by rw [upd_ne h, upd_ne h]⟩
            · walk_at "el"
              exact ⟨i, hi, rfl, upd_same, fun a h => upd_ne h⟩
          · rintro σ' H1 ⟨i', hi', rfl, hb', ho⟩
            have hc' : H1 c = some (.lst (cs.map V.int)) := (ho c hcb).trans hc
            walk_at "el"
            refine n_mul (.inr (by decide)) ?_
            walk_at "el"
            refine a_I (by show (0 : Int) < 2147483647; decide) ?_
            walk_at "el"
            refine n_mul (.inl (by decide)) ?_
            walk_at "el"
            refine a_I (by show (0 : Int) < 2147483647; decide) ?_
            walk_at "el"
            refine a_set hb' rfl ?_
            walk_at "el"
            refine ⟨_, _, rfl, ⟨i', _, n + 1, cs, upd_same, by rw [upd_ne hcb]; exact hc', hcb, hi', Int.emod_nonneg _ (by decide), Int.emod_lt_of_pos _ (by decide), by omega, hcs⟩, fun a o h e => ?_⟩
            rw [upd_ne h, ho a h]
            exact e
      · walk_at "el"
        exact ⟨_, _, rfl, ⟨i, j, n, cs, hb, hc, hcb, hi, hj, hj2, hn, hcs⟩, Kp.refl b H⟩
    · clear hb hc hcb hi hj hj2 hn hcs
      rintro σ' H1 ⟨v2, v3, rfl, ⟨i, j, n, cs, hb, hc, hcb, hi, hj, hj2, hn, hcs⟩, k1⟩
      walk_at "el"
      refine ite2 (fun h0 => ?_) (fun h0 => ?_)
      · walk_at "el"
        walk_at "el"
        refine a_I hm0 ?_
        walk_at "el"
        refine a_I ⟨hm0, by omega⟩ ?_
        walk_at "el"
        refine a_set hb rfl ?_
        walk_at "el"
        refine k _ _ (Int.emod_nonneg _ (by omega)) (Int.emod_lt_of_pos _ hm0) ?_ k1.bag
        exact ⟨_, j, n, cs, upd_same, by rw [upd_ne hcb]; exact hc, hcb, Int.ediv_nonneg hi (by omega), hj, hj2, hn, hcs⟩
      · walk_at "el"
        walk_at "el"
        refine n_mul (.inr (by decide)) ?_
        walk_at "el"
        refine a_I (by show (0 : Int) < 1000000007; decide) ?_
        have e0 := Int.emod_nonneg ((j + 1) * 39373) (show (1000000007 : Int) ≠ 0 by decide)
        have e1 := Int.emod_lt_of_pos ((j + 1) * 39373) (show (0 : Int) < 1000000007 by decide)
        walk_at "el"
        refine n_mul (.inl ⟨by omega, by omega⟩) ?_
        walk_at "el"
        refine a_I (by show (0 : Int) < 998244353; decide) ?_
        walk_at "el"
        refine n_mul (.inr (by decide)) ?_
        walk_at "el"
        refine a_I (by show (0 : Int) < 998244353; decide) ?_
        walk_at "el"
        refine a_I ⟨by decide, by decide⟩ ?_
        walk_at "el"
        refine a_I hm0 ?_
        walk_at "el"
        exact k _ _ (Int.emod_nonneg _ (by omega)) (Int.emod_lt_of_pos _ hm0) ⟨i, j, n, cs, hb, hc, hcb, hi, hj, hj2, hn, hcs⟩ k1
end
end EL

/- part B -/
namespace EL
open PySem PySem.Spec PyProof.Rows L2
open PySem.W (Frag)
abbrev s_is_integer : Stmt := top 9
abbrev N_is_integer : List Str := ["thing"]
theorem sc_is_integer : FnScope N_is_integer ["thing"] (defScope s_is_integer) := ⟨rfl, rfl, rfl, by decide +kernel, rfl, by decide +kernel, by decide +kernel⟩
abbrev s_is_number : Stmt := top 10
abbrev N_is_number : List Str := ["thing"]
theorem sc_is_number : FnScope N_is_number ["thing"] (defScope s_is_number) := ⟨rfl, rfl, rfl, by decide +kernel, rfl, by decide +kernel, by decide +kernel⟩
abbrev s_is_kind : Stmt := top 11
abbrev N_is_kind : List Str := ["thing"]
theorem sc_is_kind : FnScope N_is_kind ["thing"] (defScope s_is_kind) := ⟨rfl, rfl, rfl, by decide +kernel, rfl, by decide +kernel, by decide +kernel⟩
abbrev s_is_tuple : Stmt := top 12
abbrev N_is_tuple : List Str := ["thing", "many"]
theorem sc_is_tuple : FnScope N_is_tuple ["thing", "many"] (defScope s_is_tuple) := ⟨rfl, rfl, rfl, by decide +kernel, rfl, by decide +kernel, by decide +kernel⟩
structure Wo (K : Frag) (mg : Str → Option Value) : Prop where
  b : Bi mg
  k_GREATEST_NUMBER : ∃ u, mg "GREATEST_NUMBER" = some u ∧ L2.RelV (.int 1000000000000000) u
local macro_rules | `(tactic| walk_at "el1") => `(tactic| with_reducible first
  | refine a_sasg ?_ | refine a_sdrop ?_ | refine a_saugS ?_ | refine a_spar ?_ | refine a_seq ?_ | refine a_asg ?_ | refine a_drop ?_ | refine a_ret ?_ | refine a_if ?_ | refine a_next ?_
  | refine a_op ?_ | refine a_cons ?_ | refine a_nil ?_ | refine a_cb ?_ | refine a_call ?_ | refine a_c ?_ | refine a_gn ?_ | refine a_nx ?_ | refine a_rt ?_ | refine a_un ?_
  | refine a_test ?_ | refine a_B ?_ | refine a_bl ?_ | refine a_and ?_ | refine a_or ?_ | refine a_not ?_ | refine a_andV ?_ | refine a_orV ?_ | refine a_notV ?_ | refine a_ifx ?_ | refine a_chain ?_
  | refine a_nT ?_ | refine a_nF ?_ | refine a_fld ?_ | refine a_getF ?_ | refine a_T ?_ | refine a_F ?_ | refine a_tup ?_ | refine a_lst ?_ | refine a_sub ?_ | refine a_augS ?_ | refine a_two ?_ | refine a_I0 ?_ | refine a_U ?_ | refine n_add ?_ | refine n_int ?_ | refine n_ib ?_ | refine a_ip ?_ | refine a_rng1 ?_ | refine a_rng2 ?_ | refine a_bm ?_ | refine a_abs ?_ | refine a_pairs ?_ | refine a_pairs0 ?_ | refine a_bk ?_ | refine a_prp ?_ | refine a_lc ?_ | refine a_yes ?_ | refine a_sl ?_ | refine a_nop ?_ | refine a_prt ?_ | refine a_ex1 ?_ | refine a_for ?_ | refine a_sfor ?_ | refine a_iE1 ?_ | refine a_iEs ?_ | refine a_iEz ?_ | refine a_iEnum ?_ | refine a_iTup ?_ | refine a_iList ?_ | refine a_gcons ?_ | refine a_gnil ?_ | refine a_revT ?_ | refine a_spar3 ?_ | refine a_par3 ?_ | refine a_three ?_)
local macro_rules | `(tactic| walk_at "el2") => `(tactic| first
  | (refine a_var (by rfl) ?_)
  | (refine n_ixL (SqL.of (by assumption)) (by rfl) ?_) | (refine n_ixT (SqT.of (by assumption)) (by rfl) ?_) | (refine n_eq (by rfl) ?_) | (refine n_ne (by rfl) ?_)
  | (refine n_isN ?_) | (refine n_notN ?_) | (refine n_isB ?_) | (refine n_notB ?_) | (refine n_isBI ?_) | (refine n_notBI ?_) | (refine n_len (.inl (SqL.of (by assumption))) ?_) | (refine n_len (.inr (SqT.of (by assumption))) ?_)
  | (refine a_getL (SqL.of (by assumption)) (by rfl) ?_)
  | (refine n_isInt (by assumption) ?_) | (refine n_isBool (by assumption) ?_) | (refine n_isStr (by assumption) ?_) | (refine n_isTup (by assumption) ?_) | (refine n_isLst (by assumption) ?_))
local macro_rules | `(tactic| walk_at "el") => `(tactic| repeat (first | walk_at "el1" | walk_at "el2"))

/-! ### what the words mean -/
def intB : V → Bool | .int _ => true | _ => false
def numB : V → Bool | .int i => decide (-1000000000000000 ≤ i) && decide (i ≤ 1000000000000000) | _ => false
def kindB : V → Bool | .str s => decide (s = "early") || decide (s = "late") | _ => false
def otherK (s : Str) : Str := if s = "early" then "late" else "early"
def spB (f : V → Bool) (K : Frag) : Sp := fun vs H Q _ => ∃ x, vs = [x] ∧ Th K H x ∧ ∀ H', Same H H' → Q (.bl (f x)) H'
theorem intB_eq (x : V) : (if isI x = true then !isB x else false) = intB x := by cases x <;> rfl
/-- a tuple of so many -/
def tupN (H : Hp) (x : V) (n : Int) : Prop := ∃ a xs, x = .ref a ∧ H a = some (.tup xs) ∧ (xs.length : Int) = n
def spTu (K : Frag) : Sp := fun vs H Q _ => ∃ (x : V) (n : Int), vs = [x, .int n] ∧ Th K H x ∧ ∀ b, (b = true ↔ tupN H x n) → Q (.bl b) H
theorem isT_tup {K : Frag} {H : Hp} {x : V} (th : Th K H x) (e : isT H x = true) : ∃ a xs, x = .ref a ∧ H a = some (.tup xs) := by
  cases th with
  | tup h => exact ⟨_, _, rfl, h⟩
  | @lst a xs h => (exfalso; have q : obT (H a) = true := e; rw [h] at q; cases q)
  | @dct a xs h => (exfalso; have q : obT (H a) = true := e; rw [h] at q; cases q)
  | @ins a C dx fs h c => (exfalso; have q : obT (H a) = true := e; rw [h] at q; cases q)
  | @dtt a kvs h => (exfalso; have q : obT (H a) = true := e; rw [h] at q; cases q)
  | _ => cases e
theorem isT_of {H : Hp} {a : Addr} {xs : List V} (h : H a = some (.tup xs)) : isT H (.ref a) = true := by show obT (H a) = true; rw [h]; rfl
section
variable {P : Program} {w : World} {K : Frag} {mg : Str → Option Value} {base : Heap} {f : Addr} {fd : FuncData}
theorem ok_is_tuple (F : Fun K "is_tuple" "is_tuple" s_is_tuple f fd) (T : Wo K mg) : FnOk P w K mg base CX0 1 f fd ["thing", "many"] (spTu K) := by
  refine F.ok sc_is_tuple (fun vs H Q E h => ?_) (fun cdv A outer s H vs Q E hr h => ?_)
  · obtain ⟨x, n, rfl, _⟩ := h
    rfl
  · obtain ⟨x, n, rfl, hx, k⟩ := h
    refine ⟨_, (pss_one (ps_ret (pe_and (pe_callB u_isi rfl T.b.isinstance_ boot_isinstance (pa_cons (pv 0) (pa_cons (pe_bltn (v := V.ty "tuple") rfl T.b.tuple_ (by decide +kernel) rfl) pa_nil))) (pe_one (pe_cmpR (u_eq hr.units) (pe_callB u_len rfl T.b.len_ boot_len (pa_cons (pv 0) pa_nil)) (pv 1) (nomark _)))))), ?_⟩
    obtain ⟨t, kt⟩ := hx.kit
    walk_at "el"
    refine ite2 (fun h0 => ?_) (fun h0 => ?_)
    · obtain ⟨a, xs, rfl, ha⟩ := isT_tup hx h0
      walk_at "el"
      refine k _ ⟨fun z => ⟨a, xs, rfl, ha, by simpa using z⟩, ?_⟩
      rintro ⟨a', xs', e, ha', hl⟩
      cases e
      rw [ha] at ha'
      cases ha'
      simpa using hl
    · walk_at "el"
      refine k _ ⟨(fun h => nomatch h), ?_⟩
      rintro ⟨a, xs, rfl, ha, _⟩
      rw [isT_of ha] at h0
      exact absurd rfl h0
/-- a tuple of this word and one value more -/
def spHd (K : Frag) : Sp := fun vs H Q _ => ∃ (x : V) (wd : Str), vs = [x, .str wd] ∧ Th K H x ∧ (∀ q xs, x = .ref q → H q = some (.tup xs) → ∀ y ∈ xs, Th K H y) ∧ ∀ b, (b = true ↔ ∃ a y, x = .ref a ∧ H a = some (.tup [.str wd, y])) → Q (.bl b) H
theorem ok_is_integer (F : Fun K "is_integer" "is_integer" s_is_integer f fd) (T : Wo K mg) : FnOk P w K mg base CX0 1 f fd ["thing"] (spB intB K) := by
  refine F.ok sc_is_integer (fun vs H Q E h => ?_) (fun cdv A outer s H vs Q E hr h => ?_)
  · obtain ⟨x, rfl, _⟩ := h
    rfl
  · obtain ⟨x, rfl, hx, k⟩ := h
    refine ⟨_, (pss_one (ps_ret (pe_and (pe_callB u_isi rfl T.b.isinstance_ boot_isinstance (pa_cons (pv 0) (pa_cons (pe_bltn (v := V.ty "int") rfl T.b.int_ (by decide +kernel) rfl) pa_nil))) (pe_one (pe_not (pe_callB u_isi rfl T.b.isinstance_ boot_isinstance (pa_cons (pv 0) (pa_cons (pe_bltn (v := V.ty "bool") rfl T.b.bool_ (by decide +kernel) rfl) pa_nil)))))))), ?_⟩
    obtain ⟨t, kt⟩ := hx.kit
    walk_at "el"
    refine ite2 (fun h0 => ?_) (fun h0 => ?_)
    · walk_at "el"
      rw [← intB_eq, if_pos h0] at k
      exact k _ (Same.refl _)
    · walk_at "el"
      rw [← intB_eq, if_neg h0] at k
      exact k _ (Same.refl _)
theorem ok_is_number (F : Fun K "is_number" "is_number" s_is_number f fd) (T : Wo K mg) (c_is_integer : Cal P w K mg base CX0 1 "is_integer" ["thing"] (spB intB K)) : FnOk P w K mg base CX0 2 f fd ["thing"] (spB numB K) := by
  refine F.ok sc_is_number (fun vs H Q E h => ?_) (fun cdv A outer s H vs Q E hr h => ?_)
  · obtain ⟨x, rfl, _⟩ := h
    rfl
  · obtain ⟨x, rfl, hx, k⟩ := h
    refine ⟨_, (pss_one (ps_ret (pe_and (pe_cal c_is_integer (hr.mono (by decide)) pass0 (pa_cons (pv 0) pa_nil)) (pe_one (pe_chain op_le op_le (pe_un un_neg (pe_gc (v := .int 1000000000000000) rfl T.k_GREATEST_NUMBER)) (pv 0) (pe_gc (v := .int 1000000000000000) rfl T.k_GREATEST_NUMBER)))))), ?_⟩
    walk_at "el"
    refine ⟨x, rfl, hx, fun H1 s1 => ?_⟩
    walk_at "el"
    refine ite2 (fun h0 => ?_) (fun h0 => ?_)
    · obtain ⟨i, rfl⟩ : ∃ i, x = .int i := by cases x <;> first | exact ⟨_, rfl⟩ | cases h0
      walk_at "el"
      refine ite2 (fun h1 => ?_) (fun h1 => ?_)
      · walk_at "el"
        have e : numB (.int i) = decide (i ≤ 1000000000000000) := by show (decide _ && decide _) = _; rw [h1]; rfl
        rw [e] at k
        exact k _ s1
      · walk_at "el"
        have e : numB (.int i) = false := by show (decide _ && decide _) = _; rw [Bool.not_eq_true _ |>.mp h1]; rfl
        rw [e] at k
        exact k _ s1
    · walk_at "el"
      have e : numB x = false := by cases x <;> first | rfl | exact absurd rfl h0
      rw [e] at k
      exact k _ s1
theorem ok_is_kind (F : Fun K "is_kind" "is_kind" s_is_kind f fd) (T : Wo K mg) : FnOk P w K mg base CX0 1 f fd ["thing"] (spB kindB K) := by
  refine F.ok sc_is_kind (fun vs H Q E h => ?_) (fun cdv A outer s H vs Q E hr h => ?_)
  · obtain ⟨x, rfl, _⟩ := h
    rfl
  · obtain ⟨x, rfl, hx, k⟩ := h
    refine ⟨_, (pss_one (ps_ret (pe_and (pe_callB u_isi rfl T.b.isinstance_ boot_isinstance (pa_cons (pv 0) (pa_cons (pe_bltn (v := V.ty "str") rfl T.b.str_ (by decide +kernel) rfl) pa_nil))) (pe_one (pe_cmpR u_in (pv 0) (pe_tup (pa_cons pe_str (pa_cons pe_str pa_nil))) rfl))))), ?_⟩
    obtain ⟨t, kt⟩ := hx.kit
    walk_at "el"
    refine ite2 (fun h0 => ?_) (fun h0 => ?_)
    · obtain ⟨i, rfl⟩ : ∃ i, x = .str i := by cases x <;> first | exact ⟨_, rfl⟩ | cases h0
      walk_at "el"
      refine ⟨by decide, fun p hp => n_inT upd_same rfl rfl ?_⟩
      walk_at "el"
      have e : kindB (.str i) = inV (.str i) [.str "early", .str "late"] := by
        show (decide _ || decide _) = (_ == _ || (_ == _ || false))
        rw [Bool.or_false]
        congr 1 <;> (rw [Bool.eq_iff_iff, decide_eq_true_iff, beq_iff_eq]; exact ⟨fun h => h.symm, fun h => h.symm⟩)
      rw [e] at k
      exact k _ (L2.Same.nw (Same.refl _) hp)
    · walk_at "el"
      have e : kindB x = false := by cases x <;> first | rfl | exact absurd rfl h0
      rw [e] at k
      exact k _ (Same.refl _)
def spTl : Sp := fun vs H Q _ => ∃ p x s, vs = [.ref p] ∧ H p = some (.tup [x, .str s]) ∧ ∀ r, H r = none → Q (.ref r) (upd H r (.tup [x, .str (otherK s)]))
end
end EL

/- part C -/
namespace EL
open PySem PySem.Spec PyProof.Rows L2
open PySem.W (Frag)
abbrev s_is_below : Stmt := top 16
abbrev N_is_below : List Str := ["thing", "many"]
theorem sc_is_below : FnScope N_is_below ["thing", "many"] (defScope s_is_below) := ⟨rfl, rfl, rfl, by decide +kernel, rfl, by decide +kernel, by decide +kernel⟩
abbrev s_is_side : Stmt := top 17
abbrev N_is_side : List Str := ["thing"]
theorem sc_is_side : FnScope N_is_side ["thing"] (defScope s_is_side) := ⟨rfl, rfl, rfl, by decide +kernel, rfl, by decide +kernel, by decide +kernel⟩
abbrev s_first_wrong : Stmt := top 18
abbrev N_first_wrong : List Str := ["part", "values", "events", "witnesses", "place", "word"]
theorem sc_first_wrong : FnScope N_first_wrong ["part", "values", "events", "witnesses"] (defScope s_first_wrong) := ⟨rfl, rfl, rfl, by decide +kernel, rfl, by decide +kernel, by decide +kernel⟩
abbrev s__can_stand : Stmt := top 19
abbrev N__can_stand : List Str := ["word", "values", "place", "events", "witnesses", "thing"]
theorem sc__can_stand : FnScope N__can_stand ["word", "values", "place", "events", "witnesses"] (defScope s__can_stand) := ⟨rfl, rfl, rfl, by decide +kernel, rfl, by decide +kernel, by decide +kernel⟩
abbrev s_is_item : Stmt := top 20
abbrev N_is_item : List Str := ["part", "thing", "events", "witnesses"]
theorem sc_is_item : FnScope N_is_item ["part", "thing", "events", "witnesses"] (defScope s_is_item) := ⟨rfl, rfl, rfl, by decide +kernel, rfl, by decide +kernel, by decide +kernel⟩
local macro_rules | `(tactic| walk_at "el1") => `(tactic| with_reducible first
  | refine a_sasg ?_ | refine a_sdrop ?_ | refine a_saugS ?_ | refine a_spar ?_ | refine a_seq ?_ | refine a_asg ?_ | refine a_drop ?_ | refine a_ret ?_ | refine a_if ?_ | refine a_next ?_
  | refine a_op ?_ | refine a_cons ?_ | refine a_nil ?_ | refine a_cb ?_ | refine a_call ?_ | refine a_c ?_ | refine a_gn ?_ | refine a_nx ?_ | refine a_rt ?_ | refine a_un ?_
  | refine a_test ?_ | refine a_B ?_ | refine a_bl ?_ | refine a_and ?_ | refine a_or ?_ | refine a_not ?_ | refine a_andV ?_ | refine a_orV ?_ | refine a_notV ?_ | refine a_ifx ?_ | refine a_chain ?_
  | refine a_nT ?_ | refine a_nF ?_ | refine a_fld ?_ | refine a_getF ?_ | refine a_T ?_ | refine a_F ?_ | refine a_tup ?_ | refine a_lst ?_ | refine a_sub ?_ | refine a_augS ?_ | refine a_two ?_ | refine a_I0 ?_ | refine a_U ?_ | refine n_add ?_ | refine n_int ?_ | refine n_ib ?_ | refine a_ip ?_ | refine a_rng1 ?_ | refine a_rng2 ?_ | refine a_bm ?_ | refine a_abs ?_ | refine a_pairs ?_ | refine a_pairs0 ?_ | refine a_bk ?_ | refine a_prp ?_ | refine a_lc ?_ | refine a_yes ?_ | refine a_sl ?_ | refine a_nop ?_ | refine a_prt ?_ | refine a_ex1 ?_ | refine a_for ?_ | refine a_sfor ?_ | refine a_iE1 ?_ | refine a_iEs ?_ | refine a_iEz ?_ | refine a_iEnum ?_ | refine a_iTup ?_ | refine a_iList ?_ | refine a_gcons ?_ | refine a_gnil ?_ | refine a_revT ?_ | refine a_spar3 ?_ | refine a_par3 ?_ | refine a_three ?_)
local macro_rules | `(tactic| walk_at "el2") => `(tactic| first
  | (refine a_var (by rfl) ?_)
  | (refine n_ixL (SqL.of (by assumption)) (by rfl) ?_) | (refine n_ixT (SqT.of (by assumption)) (by rfl) ?_) | (refine n_eq (by rfl) ?_) | (refine n_ne (by rfl) ?_)
  | (refine n_isN ?_) | (refine n_notN ?_) | (refine n_isB ?_) | (refine n_notB ?_) | (refine n_isBI ?_) | (refine n_notBI ?_) | (refine n_len (.inl (SqL.of (by assumption))) ?_) | (refine n_len (.inr (SqT.of (by assumption))) ?_)
  | (refine a_getL (SqL.of (by assumption)) (by rfl) ?_)
  | (refine n_isInt (by assumption) ?_) | (refine n_isBool (by assumption) ?_) | (refine n_isStr (by assumption) ?_) | (refine n_isTup (by assumption) ?_) | (refine n_isLst (by assumption) ?_))
local macro_rules | `(tactic| walk_at "el") => `(tactic| repeat (first | walk_at "el1" | walk_at "el2"))

/-! ### items -/
inductive Pt | tel | gap | sur | cla
  deriving DecidableEq
def Pt.name : Pt → Str | .tel => "tellings" | .gap => "gaps" | .sur => "sure" | .cla => "clauses"
def Pt.form : Pt → List Str
  | .tel => ["witness", "event", "number"]
  | .gap => ["event", "another event", "number"]
  | .sur => ["event", "side", "number"]
  | .cla => ["witness", "kind", "witness", "kind"]
def belowB (x : V) (n : Int) : Bool := match x with | .int i => decide (0 ≤ i) && decide (i < n) | _ => false
def sideB : V → Bool | .str s => decide (s = "least") || decide (s = "most") | _ => false
def turnS (s : Str) : Str := if s = "least" then "most" else "least"
structure It4 (K : Frag) (w : World) (mg : Str → Option Value) (aForms aParts : Addr) : Prop where
  b : Bi mg
  gForms : mg "FORMS" = some (.ref aForms)
  gParts : mg "PARTS" = some (.ref aParts)
  forms : ∀ p : Pt, ∃ a, KDct K w aForms p.name (.ref a) ∧ ∀ H, SqT K H a (p.form.map V.str)
  parts : ∀ H, SqT K H aParts [.str "tellings", .str "gaps", .str "sure", .str "clauses"]
def spBelow (K : Frag) : Sp := fun vs H Q _ => ∃ x n, vs = [x, .int n] ∧ Th K H x ∧ ∀ H', Same H H' → Q (.bl (belowB x n)) H'
section
variable {P : Program} {w : World} {K : Frag} {mg : Str → Option Value} {base : Heap} {f : Addr} {fd : FuncData} {aForms aParts : Addr}
theorem ok_is_below (F : Fun K "is_below" "is_below" s_is_below f fd) (c_is_integer : Cal P w K mg base CX0 1 "is_integer" ["thing"] (spB intB K)) : FnOk P w K mg base CX0 2 f fd ["thing", "many"] (spBelow K) := by
  refine F.ok sc_is_below (fun vs H Q E h => ?_) (fun cdv A outer s H vs Q E hr h => ?_)
  · obtain ⟨x, n, rfl, _⟩ := h
    rfl
  · obtain ⟨x, n, rfl, hx, k⟩ := h
    refine ⟨_, (pss_one (ps_ret (pe_and (pe_cal c_is_integer (hr.mono (by decide)) pass0 (pa_cons (pv 0) pa_nil)) (pe_one (pe_chain op_le op_lt pe_int (pv 0) (pv 1)))))), ?_⟩
    walk_at "el"
    refine ⟨x, rfl, hx, fun H1 s1 => ?_⟩
    walk_at "el"
    refine ite2 (fun h0 => ?_) (fun h0 => ?_)
    · obtain ⟨i, rfl⟩ : ∃ i, x = .int i := by cases x <;> first | exact ⟨_, rfl⟩ | cases h0
      walk_at "el"
      refine ite2 (fun h1 => ?_) (fun h1 => ?_)
      · walk_at "el"
        have e : belowB (.int i) n = decide (i < n) := by show (decide _ && decide _) = _; rw [h1]; rfl
        rw [e] at k
        exact k _ s1
      · walk_at "el"
        have e : belowB (.int i) n = false := by show (decide _ && decide _) = _; rw [Bool.not_eq_true _ |>.mp h1]; rfl
        rw [e] at k
        exact k _ s1
    · walk_at "el"
      have e : belowB x n = false := by cases x <;> first | rfl | exact absurd rfl h0
      rw [e] at k
      exact k _ s1
theorem ok_is_side (F : Fun K "is_side" "is_side" s_is_side f fd) (T : It4 K w mg aForms aParts) : FnOk P w K mg base CX0 1 f fd ["thing"] (spB sideB K) := by
  refine F.ok sc_is_side (fun vs H Q E h => ?_) (fun cdv A outer s H vs Q E hr h => ?_)
  · obtain ⟨x, rfl, _⟩ := h
    rfl
  · obtain ⟨x, rfl, hx, k⟩ := h
    refine ⟨_, (pss_one (ps_ret (pe_and (pe_callB u_isi rfl T.b.isinstance_ boot_isinstance (pa_cons (pv 0) (pa_cons (pe_bltn (v := V.ty "str") rfl T.b.str_ (by decide +kernel) rfl) pa_nil))) (pe_one (pe_cmpR u_in (pv 0) (pe_tup (pa_cons pe_str (pa_cons pe_str pa_nil))) rfl))))), ?_⟩
    obtain ⟨t, kt⟩ := hx.kit
    walk_at "el"
    refine ite2 (fun h0 => ?_) (fun h0 => ?_)
    · obtain ⟨i, rfl⟩ : ∃ i, x = .str i := by cases x <;> first | exact ⟨_, rfl⟩ | cases h0
      walk_at "el"
      refine ⟨by decide, fun p hp => n_inT upd_same rfl rfl ?_⟩
      walk_at "el"
      have e : sideB (.str i) = inV (.str i) [.str "least", .str "most"] := by
        show (decide _ || decide _) = (_ == _ || (_ == _ || false))
        rw [Bool.or_false]
        congr 1 <;> (rw [Bool.eq_iff_iff, decide_eq_true_iff, beq_iff_eq]; exact ⟨fun h => h.symm, fun h => h.symm⟩)
      rw [e] at k
      exact k _ (L2.Same.nw (Same.refl _) hp)
    · walk_at "el"
      have e : sideB x = false := by cases x <;> first | rfl | exact absurd rfl h0
      rw [e] at k
      exact k _ (Same.refl _)
/-- what may stand at a place -/
def standB (word : Str) (xs : List V) (i : Nat) (x : V) (ev wi : Int) : Bool :=
  if word = "witness" then belowB x wi else if word = "event" then belowB x ev else if word = "another event" then belowB x ev && !decide (some x = xs[i - 1]?)
  else if word = "side" then sideB x else if word = "kind" then kindB x else numB x
def spCan (K : Frag) : Sp := fun vs H Q _ => ∃ (word : Str) (a : Addr) (xs : List V) (i : Nat) (x : V) (ev wi : Int), vs = [.str word, .ref a, .int i, .int ev, .int wi] ∧ H a = some (.tup xs) ∧ xs[i]? = some x ∧ Th K H x ∧
  (word = "another event" → 1 ≤ i ∧ ∃ j, xs[i - 1]? = some (.int j)) ∧ ∀ H', Same H H' → Q (.bl (standB word xs i x ev wi)) H'
theorem ok_can_stand (F : Fun K "_can_stand" "_can_stand" s__can_stand f fd) (c_is_below : Cal P w K mg base CX0 2 "is_below" ["thing", "many"] (spBelow K)) (c_is_side : Cal P w K mg base CX0 1 "is_side" ["thing"] (spB sideB K))
    (c_is_kind : Cal P w K mg base CX0 1 "is_kind" ["thing"] (spB kindB K)) (c_is_number : Cal P w K mg base CX0 2 "is_number" ["thing"] (spB numB K)) :
    FnOk P w K mg base CX0 3 f fd ["word", "values", "place", "events", "witnesses"] (spCan K) := by
  refine F.ok sc__can_stand (fun vs H Q E h => ?_) (fun cdv A outer s H vs Q E hr h => ?_)
  · obtain ⟨_, _, _, _, _, _, _, rfl, _⟩ := h
    rfl
  · obtain ⟨word, a, xs, i, x, ev, wi, rfl, ha, hx, th, hp, k⟩ := h
    refine ⟨_, (pss_cons (ps_set (i := 5) sc__can_stand.nd rfl (Or.inl rfl) (pe_ix ix_seq (pv 1) (pv 2) (fun _ _ => rfl)))
  (pss_cons (ps_if (pt_cmpR (u_eq hr.units) (pv 0) pe_str (nomark _))
    (pss_one (ps_ret (pe_cal c_is_below (hr.mono (by decide)) pass0 (pa_cons (pv 5) (pa_cons (pv 4) pa_nil)))))
    pss_nil)
  (pss_cons (ps_if (pt_cmpR (u_eq hr.units) (pv 0) pe_str (nomark _))
    (pss_one (ps_ret (pe_cal c_is_below (hr.mono (by decide)) pass0 (pa_cons (pv 5) (pa_cons (pv 3) pa_nil)))))
    pss_nil)
  (pss_cons (ps_if (pt_cmpR (u_eq hr.units) (pv 0) pe_str (nomark _))
    (pss_one (ps_ret (pe_and (pe_cal c_is_below (hr.mono (by decide)) pass0 (pa_cons (pv 5) (pa_cons (pv 3) pa_nil))) (pe_one (pe_cmpR (u_ne hr.units) (pv 5) (pe_ix ix_seq (pv 1) (pe_op op_sub (pv 2) pe_int) (fun _ _ => rfl)) (nomark _))))))
    pss_nil)
  (pss_cons (ps_if (pt_cmpR (u_eq hr.units) (pv 0) pe_str (nomark _))
    (pss_one (ps_ret (pe_cal c_is_side (hr.mono (by decide)) pass0 (pa_cons (pv 5) pa_nil))))
    pss_nil)
  (pss_cons (ps_if (pt_cmpR (u_eq hr.units) (pv 0) pe_str (nomark _))
    (pss_one (ps_ret (pe_cal c_is_kind (hr.mono (by decide)) pass0 (pa_cons (pv 5) pa_nil))))
    pss_nil)
  (pss_one (ps_ret (pe_cal c_is_number (hr.mono (by decide)) pass0 (pa_cons (pv 5) pa_nil)))))))))), ?_⟩
    unfold standB at k
    walk_at "el"
    refine n_ixT (SqT.of ha) (atI_nat hx) ?_
    walk_at "el"
    refine ite2 (fun h0 => ?_) (fun h0 => ?_)
    · rw [if_pos (by simpa using h0)] at k
      walk_at "el"
      exact ⟨x, wi, rfl, th, fun H1 s1 => k _ s1⟩
    rw [if_neg (by simpa using h0)] at k
    walk_at "el"
    refine ite2 (fun h0 => ?_) (fun h0 => ?_)
    · rw [if_pos (by simpa using h0)] at k
      walk_at "el"
      exact ⟨x, ev, rfl, th, fun H1 s1 => k _ s1⟩
    rw [if_neg (by simpa using h0)] at k
    walk_at "el"
    refine ite2 (fun h0 => ?_) (fun h0 => ?_)
    · rw [if_pos (by simpa using h0)] at k
      obtain ⟨i1, j, hj⟩ := hp (by simpa using h0)
      walk_at "el"
      refine ⟨x, ev, rfl, th, fun H1 s1 => ?_⟩
      walk_at "el"
      refine ite2 (fun h1 => ?_) (fun h1 => ?_)
      · obtain ⟨z, rfl⟩ : ∃ z, x = .int z := by cases x <;> first | exact ⟨_, rfl⟩ | cases h1
        walk_at "el"
        have ei : (i : Int) - 1 = ((i - 1 : Nat) : Int) := by omega
        refine n_ixT (SqT.of (s1 _ _ ha)) (by rw [ei]; exact atI_nat hj) ?_
        walk_at "el"
        have e : (belowB (.int z) ev && !decide (some (.int z) = xs[i - 1]?)) = !decide (V.int z = V.int j) := by
          rw [h1, hj, Bool.true_and]
          congr 1
          rw [Bool.eq_iff_iff, decide_eq_true_iff, decide_eq_true_iff]
          exact ⟨fun h => Option.some.inj h, fun h => congrArg some h⟩
        rw [e] at k
        exact k _ s1
      · walk_at "el"
        rw [Bool.not_eq_true _ |>.mp h1, Bool.false_and] at k
        exact k _ s1
    rw [if_neg (by simpa using h0)] at k
    walk_at "el"
    refine ite2 (fun h0 => ?_) (fun h0 => ?_)
    · rw [if_pos (by simpa using h0)] at k
      walk_at "el"
      exact ⟨x, rfl, th, fun H1 s1 => k _ s1⟩
    rw [if_neg (by simpa using h0)] at k
    walk_at "el"
    refine ite2 (fun h0 => ?_) (fun h0 => ?_)
    · rw [if_pos (by simpa using h0)] at k
      walk_at "el"
      exact ⟨x, rfl, th, fun H1 s1 => k _ s1⟩
    rw [if_neg (by simpa using h0)] at k
    walk_at "el"
    exact ⟨x, rfl, th, fun H1 s1 => k _ s1⟩
/-- the values that may stand in an item -/
def StandsTo (p : Pt) (xs : List V) (ev wi : Int) (n : Nat) : Prop := ∀ j, j < n → ∀ wd x, p.form[j]? = some wd → xs[j]? = some x → standB wd xs j x ev wi = true
def spFw (K : Frag) : Sp := fun vs H Q _ => ∃ (p : Pt) (a : Addr) (xs : List V) (ev wi : Int), vs = [.str p.name, .ref a, .int ev, .int wi] ∧ H a = some (.tup xs) ∧ xs.length = p.form.length ∧ (∀ x ∈ xs, Th K H x) ∧
  (StandsTo p xs ev wi p.form.length → ∀ H', Same H H' → Q .non H') ∧
  (∀ i wd x, StandsTo p xs ev wi i → p.form[i]? = some wd → xs[i]? = some x → standB wd xs i x ev wi = false → ∀ H', Same H H' → Q (.int i) H')
theorem another_at {p : Pt} {i : Nat} (h : p.form[i]? = some ("another event" : Str)) : p = .gap ∧ i = 1 := by
  cases p <;> (rcases i with _ | _ | _ | _ | i) <;> first | exact ⟨rfl, rfl⟩ | (exfalso; revert h; decide) | cases h
theorem below_int {x : V} {n : Int} (h : belowB x n = true) : ∃ j, x = .int j ∧ 0 ≤ j ∧ j < n := by
  cases x with
  | int j =>
    have q : (decide (0 ≤ j) && decide (j < n)) = true := h
    rw [Bool.and_eq_true, decide_eq_true_iff, decide_eq_true_iff] at q
    exact ⟨j, rfl, q⟩
  | _ => cases h
theorem stands_prev {p : Pt} {xs : List V} {ev wi : Int} {i : Nat} (hl : xs.length = p.form.length) (h : StandsTo p xs ev wi i) (hw : p.form[i]? = some ("another event" : Str)) : 1 ≤ i ∧ ∃ j, xs[i - 1]? = some (.int j) := by
  obtain ⟨rfl, rfl⟩ := another_at hw
  have l0 : 0 < xs.length := by rw [hl]; decide
  have e0 : xs[0]? = some xs[0] := List.getElem?_eq_getElem l0
  have q := h 0 (by decide) "event" _ rfl e0
  obtain ⟨j, hj, _⟩ := below_int (x := xs[0]) (n := ev) (by
    unfold standB at q
    rw [if_neg (by decide), if_pos rfl] at q
    exact q)
  exact ⟨by decide, j, by rw [← hj]; exact e0⟩
theorem ok_first_wrong (F : Fun K "first_wrong" "first_wrong" s_first_wrong f fd) (T : It4 K w mg aForms aParts) (c__can_stand : Cal P w K mg base CX0 3 "_can_stand" ["word", "values", "place", "events", "witnesses"] (spCan K)) :
    FnOk P w K mg base CX0 4 f fd ["part", "values", "events", "witnesses"] (spFw K) := by
  refine F.ok sc_first_wrong (fun vs H Q E h => ?_) (fun cdv A outer s H vs Q E hr h => ?_)
  · obtain ⟨_, _, _, _, _, rfl, _⟩ := h
    rfl
  · obtain ⟨p, a, xs, ev, wi, rfl, ha, hl, th, kn, ki⟩ := h
    refine ⟨_, (pss_cons (ps_for PassesOwn.never rfl (pi_e1 rfl T.b.enumerate_ (pa_cons (pe_ix ix_kdict (pe_glob (v := .ref aForms) rfl T.gForms rfl) (pv 0) (fun _ _ => rfl)) pa_nil)) (pg_tup rfl (pgs_cons (pg_name (i := 4) sc_first_wrong.nd rfl (Or.inl rfl)) (pgs_cons (pg_name (i := 5) sc_first_wrong.nd rfl (Or.inl rfl)) pgs_nil)))
    (pss_one (ps_if (pt_not (pt_val (pe_cal c__can_stand (hr.mono (by decide)) pass0 (pa_cons (pv 5) (pa_cons (pv 1) (pa_cons (pv 4) (pa_cons (pv 2) (pa_cons (pv 3) pa_nil))))))))
    (pss_one (ps_ret (pv 4)))
    pss_nil)))
  (pss_one (ps_ret pe_non))), ?_⟩
    obtain ⟨aF, hF, sF⟩ := T.forms p
    walk_at "el"
    refine ⟨_, _, _, rfl, rfl, hF, ?_⟩
    walk_at "el"
    refine ⟨aF, _, rfl, sF _, ?_⟩
    refine lp_it (walk_es (xs := p.form.map V.str)) (fun i σ H1 => Same H H1 ∧ StandsTo p xs ev wi i ∧ ∃ v4 v5, σ = [some (.str p.name), some (.ref a), some (.int ev), some (.int wi), v4, v5]) ⟨Same.refl _, fun j h => absurd h (Nat.not_lt_zero j), _, _, rfl⟩ (fun i σ H1 hi h => sF _) ?_ ?_
    · rintro i x σ H1 H2 hi ⟨s1, hst, v4, v5, rfl⟩ ⟨t, _, rfl, ht, rfl, hwd⟩
      rw [List.length_map] at hi
      have hi2 : i < xs.length := by omega
      rw [List.getElem?_map, List.getElem?_eq_getElem hi] at hwd
      cases hwd
      have ew : p.form[i]? = some p.form[i] := List.getElem?_eq_getElem hi
      have ex : xs[i]? = some xs[i] := List.getElem?_eq_getElem hi2
      have s2 := L2.Same.nw (o := .tup [.int ((0 : Int) + i), .str p.form[i]]) s1 ht
      refine a_gtup (SqT.of upd_same) rfl ?_
      walk_at "el"
      refine ⟨p.form[i], a, xs, i, xs[i], ev, wi, by rw [Int.zero_add], s2 _ _ ha, ex, (th _ (List.getElem_mem hi2)).same s2, fun hn => stands_prev hl hst (by rw [ew, hn]), fun H3 s3 => ?_⟩
      walk_at "el"
      refine ite2 (fun h0 => ?_) (fun h0 => ?_)
      · walk_at "el"
        rw [Int.zero_add]
        exact ki i _ _ hst ew ex (by simpa using h0) _ (s2.trans s3)
      · walk_at "el"
        refine ⟨s2.trans s3, fun j hj wd x hw hx => ?_, _, _, rfl⟩
        by_cases e : j = i
        · subst e
          rw [ew] at hw; cases hw
          rw [ex] at hx; cases hx
          simpa using h0
        · exact hst j (by omega) wd x hw hx
    · rintro σ H1 ⟨s1, hst, v4, v5, rfl⟩
      rw [List.length_map] at hst
      walk_at "el"
      exact kn hst _ s1
/-- an item of a part -/
def ItemOk (p : Pt) (H : Hp) (x : V) (ev wi : Int) : Prop := ∃ a xs, x = .ref a ∧ H a = some (.tup xs) ∧ xs.length = p.form.length ∧ StandsTo p xs ev wi p.form.length
def spItem (K : Frag) : Sp := fun vs H Q _ => ∃ (p : Pt) (x : V) (ev wi : Int), vs = [.str p.name, x, .int ev, .int wi] ∧ Th K H x ∧ (∀ a xs, x = .ref a → H a = some (.tup xs) → ∀ y ∈ xs, Th K H y) ∧ ∀ H' b, Same H H' → (b = true ↔ ItemOk p H x ev wi) → Q (.bl b) H'
theorem ok_is_item (F : Fun K "is_item" "is_item" s_is_item f fd) (T : It4 K w mg aForms aParts) (c_is_tuple : Cal P w K mg base CX0 1 "is_tuple" ["thing", "many"] (spTu K)) (c_first_wrong : Cal P w K mg base CX0 4 "first_wrong" ["part", "values", "events", "witnesses"] (spFw K)) :
    FnOk P w K mg base CX0 5 f fd ["part", "thing", "events", "witnesses"] (spItem K) := by
  refine F.ok sc_is_item (fun vs H Q E h => ?_) (fun cdv A outer s H vs Q E hr h => ?_)
  · obtain ⟨_, _, _, _, rfl, _⟩ := h
    rfl
  · obtain ⟨p, x, ev, wi, rfl, th, te, k⟩ := h
    refine ⟨_, (pss_one (ps_ret (pe_and (pe_cal c_is_tuple (hr.mono (by decide)) pass0 (pa_cons (pv 1) (pa_cons (pe_callB u_len rfl T.b.len_ boot_len (pa_cons (pe_ix ix_kdict (pe_glob (v := .ref aForms) rfl T.gForms rfl) (pv 0) (fun _ _ => rfl)) pa_nil)) pa_nil))) (pe_one (pe_cmpR u_is (pe_cal c_first_wrong (hr.mono (by decide)) pass0 (pa_cons (pv 0) (pa_cons (pv 1) (pa_cons (pv 2) (pa_cons (pv 3) pa_nil))))) pe_non (nomark _)))))), ?_⟩
    obtain ⟨t, kt⟩ := th.kit
    obtain ⟨aF, hF, sF⟩ := T.forms p
    walk_at "el"
    refine ⟨_, _, _, rfl, rfl, hF, ?_⟩
    walk_at "el"
    refine n_len (.inr (sF _)) ?_
    walk_at "el"
    rw [List.length_map]
    refine ⟨x, _, rfl, th, fun b hb => ?_⟩
    rcases b with _ | _
    · walk_at "el"
      refine k _ false (Same.refl _) ⟨(fun h => nomatch h), ?_⟩
      rintro ⟨a, xs, rfl, ha, hl, _⟩
      exact absurd (hb.mpr ⟨a, xs, rfl, ha, by rw [hl]⟩) (by decide)
    · obtain ⟨a, xs, rfl, ha, hl'⟩ := hb.mp rfl
      have hl : xs.length = p.form.length := by omega
      walk_at "el"
      refine ⟨p, a, xs, ev, wi, rfl, ha, hl, te a xs rfl ha, fun hs H1 s1 => ?_, fun i wd x hs hw hx hb H1 s1 => ?_⟩
      · walk_at "el"
        exact k _ _ s1 ⟨fun _ => ⟨a, xs, rfl, ha, hl, hs⟩, fun _ => by decide⟩
      · walk_at "el"
        refine k _ _ s1 ⟨(fun h => by cases h), ?_⟩
        rintro ⟨a', xs', e, ha', hl', hs'⟩
        cases e
        rw [ha] at ha'
        cases ha'
        have hi : i < p.form.length := (List.getElem?_eq_some_iff.mp hw).1
        rw [hs' i hi wd x hw hx] at hb
        cases hb
end
end EL

/- part D -/
namespace EL
open PySem PySem.Spec PyProof.Rows L2
open PySem.W (Frag)
abbrev s__check_arguments : Stmt := top 25
abbrev N__check_arguments : List Str := ["events", "witnesses", "parts", "place", "items"]
theorem sc__check_arguments : FnScope N__check_arguments ["events", "witnesses", "parts"] (defScope s__check_arguments) := ⟨rfl, rfl, rfl, by decide +kernel, rfl, by decide +kernel, by decide +kernel⟩
abbrev s__check_items : Stmt := top 26
abbrev N__check_items : List Str := ["place", "part", "items", "events", "witnesses", "index", "item"]
theorem sc__check_items : FnScope N__check_items ["place", "part", "items", "events", "witnesses"] (defScope s__check_items) := ⟨rfl, rfl, rfl, by decide +kernel, rfl, by decide +kernel, by decide +kernel⟩
abbrev s_Book_init : Stmt := inClass (top 27) 0
abbrev N_Book_init : List Str := ["self", "events", "witnesses", "tellings", "gaps", "sure", "clauses", "parts", "place", "part", "items"]
theorem sc_Book_init : FnScope N_Book_init ["self", "events", "witnesses", "tellings", "gaps", "sure", "clauses"] (defScope s_Book_init) := ⟨rfl, rfl, rfl, by decide +kernel, rfl, by decide +kernel, by decide +kernel⟩
local macro_rules | `(tactic| walk_at "el1") => `(tactic| with_reducible first
  | refine a_sasg ?_ | refine a_sdrop ?_ | refine a_saugS ?_ | refine a_spar ?_ | refine a_seq ?_ | refine a_asg ?_ | refine a_drop ?_ | refine a_ret ?_ | refine a_if ?_ | refine a_next ?_
  | refine a_op ?_ | refine a_cons ?_ | refine a_nil ?_ | refine a_cb ?_ | refine a_call ?_ | refine a_c ?_ | refine a_gn ?_ | refine a_nx ?_ | refine a_rt ?_ | refine a_un ?_
  | refine a_test ?_ | refine a_B ?_ | refine a_bl ?_ | refine a_and ?_ | refine a_or ?_ | refine a_not ?_ | refine a_andV ?_ | refine a_orV ?_ | refine a_notV ?_ | refine a_ifx ?_ | refine a_chain ?_
  | refine a_nT ?_ | refine a_nF ?_ | refine a_fld ?_ | refine a_getF ?_ | refine a_T ?_ | refine a_F ?_ | refine a_tup ?_ | refine a_lst ?_ | refine a_sub ?_ | refine a_augS ?_ | refine a_two ?_ | refine a_I0 ?_ | refine a_U ?_ | refine n_add ?_ | refine n_int ?_ | refine n_ib ?_ | refine a_ip ?_ | refine a_rng1 ?_ | refine a_rng2 ?_ | refine a_bm ?_ | refine a_abs ?_ | refine a_pairs ?_ | refine a_pairs0 ?_ | refine a_bk ?_ | refine a_prp ?_ | refine a_lc ?_ | refine a_yes ?_ | refine a_sl ?_ | refine a_nop ?_ | refine a_prt ?_ | refine a_ex1 ?_ | refine a_for ?_ | refine a_sfor ?_ | refine a_iE1 ?_ | refine a_iEs ?_ | refine a_iEz ?_ | refine a_iEnum ?_ | refine a_iTup ?_ | refine a_iList ?_ | refine a_gcons ?_ | refine a_gnil ?_ | refine a_revT ?_ | refine a_spar3 ?_ | refine a_par3 ?_ | refine a_three ?_)
local macro_rules | `(tactic| walk_at "el2") => `(tactic| first
  | (refine a_var (by rfl) ?_)
  | (refine n_ixL (SqL.of (by assumption)) (by rfl) ?_) | (refine n_ixT (SqT.of (by assumption)) (by rfl) ?_) | (refine n_eq (by rfl) ?_) | (refine n_ne (by rfl) ?_)
  | (refine n_isN ?_) | (refine n_notN ?_) | (refine n_isB ?_) | (refine n_notB ?_) | (refine n_isBI ?_) | (refine n_notBI ?_) | (refine n_len (.inl (SqL.of (by assumption))) ?_) | (refine n_len (.inr (SqT.of (by assumption))) ?_)
  | (refine a_getL (SqL.of (by assumption)) (by rfl) ?_)
  | (refine n_isInt (by assumption) ?_) | (refine n_isBool (by assumption) ?_) | (refine n_isStr (by assumption) ?_) | (refine n_isTup (by assumption) ?_) | (refine n_isLst (by assumption) ?_))
local macro_rules | `(tactic| walk_at "el") => `(tactic| repeat (first | walk_at "el1" | walk_at "el2"))

/-! ### books -/
structure Bo (mg : Str → Option Value) : Prop where
  k_MOST_EVENTS : ∃ u, mg "MOST_EVENTS" = some u ∧ L2.RelV (.int 8) u
  k_MOST_WITNESSES : ∃ u, mg "MOST_WITNESSES" = some u ∧ L2.RelV (.int 8) u
  k_MOST_ITEMS : ∃ u, mg "MOST_ITEMS" = some u ∧ L2.RelV (.int 24) u
structure BoT (K : Frag) (w : World) (mg : Str → Option Value) (aForms aParts : Addr) : Prop extends It4 K w mg aForms aParts, Bo mg
theorem stand_th {K : Frag} {H : Hp} {wd : Str} {xs : List V} {j : Nat} {x : V} {ev wi : Int} (h : standB wd xs j x ev wi = true) : Th K H x := by
  cases x with
  | int i => exact .int i
  | str s => exact .str s
  | _ => (exfalso; simp [standB, belowB, sideB, kindB, numB] at h)
theorem ItemOk.th {K : Frag} {p : Pt} {H : Hp} {x : V} {ev wi : Int} (h : ItemOk p H x ev wi) : Th K H x ∧ ∀ a xs, x = .ref a → H a = some (.tup xs) → ∀ y ∈ xs, Th K H y := by
  obtain ⟨a, xs, rfl, ha, hl, hs⟩ := h
  refine ⟨.tup ha, fun a' xs' e ha' y hy => ?_⟩
  cases e
  rw [ha] at ha'
  cases ha'
  obtain ⟨j, hj, rfl⟩ := List.getElem_of_mem hy
  have h2 : j < p.form.length := by omega
  exact stand_th (hs j h2 _ _ (List.getElem?_eq_getElem h2) (List.getElem?_eq_getElem hj))
theorem ItemOk.same {p : Pt} {H H' : Hp} {x : V} {ev wi : Int} (h : ItemOk p H x ev wi) (s : Same H H') : ItemOk p H' x ev wi := by
  obtain ⟨a, xs, rfl, ha, hl, hs⟩ := h
  exact ⟨a, xs, rfl, s _ _ ha, hl, hs⟩
/-- a part that a book may have -/
structure PartOk (K : Frag) (p : Pt) (H : Hp) (a : Addr) (xs : List V) (ev wi : Int) : Prop where
  seq : SqA K H a xs
  len : xs.length ≤ 24
  items : ∀ x ∈ xs, ItemOk p H x ev wi
theorem PartOk.same {K : Frag} {p : Pt} {H H' : Hp} {a : Addr} {xs : List V} {ev wi : Int} (h : PartOk K p H a xs ev wi) (s : Same H H') : PartOk K p H' a xs ev wi := ⟨h.seq.same s, h.len, fun x hx => (h.items x hx).same s⟩
def spCa (K : Frag) : Sp := fun vs H Q _ => ∃ (ev wi : Int) (q t g s c : Addr) (ts gs ss cs : List V), vs = [.int ev, .int wi, .ref q] ∧ H q = some (.tup [.ref t, .ref g, .ref s, .ref c]) ∧ 0 ≤ ev ∧ ev ≤ 8 ∧ 0 ≤ wi ∧ wi ≤ 8 ∧ SqA K H t ts ∧ SqA K H g gs ∧ SqA K H s ss ∧ SqA K H c cs ∧ ∀ H', Same H H' → Q .non H'
def spCi (K : Frag) : Sp := fun vs H Q _ => ∃ (n : Int) (p : Pt) (a : Addr) (xs : List V) (ev wi : Int), vs = [.int n, .str p.name, .ref a, .int ev, .int wi] ∧ PartOk K p H a xs ev wi ∧ ∀ H', Same H H' → Q .non H'
section
variable {P : Program} {w : World} {K : Frag} {mg : Str → Option Value} {base : Heap} {f : Addr} {fd : FuncData} {aForms aParts : Addr}
theorem below_true {i n : Int} (h0 : 0 ≤ i) (h1 : i < n) : belowB (.int i) n = true := by show (decide _ && decide _) = true; rw [decide_eq_true h0, decide_eq_true h1]; rfl
theorem ok_check_arguments (F : Fun K "_check_arguments" "_check_arguments" s__check_arguments f fd) (T : BoT K w mg aForms aParts) (c_is_below : Cal P w K mg base CX0 2 "is_below" ["thing", "many"] (spBelow K)) :
    FnOk P w K mg base CX0 3 f fd ["events", "witnesses", "parts"] (spCa K) := by
  refine F.ok sc__check_arguments (fun vs H Q E h => ?_) (fun cdv A outer s H vs Q E hr h => ?_)
  · obtain ⟨_, _, _, _, _, _, _, _, _, _, _, rfl, _⟩ := h
    rfl
  · obtain ⟨ev, wi, q, t, g, s, c, ts, gs, ss, cs, rfl, hq, e0, e8, w0, w8, ht, hg, hs, hc, k⟩ := h
    refine ⟨_, (pss_cons (ps_if (pt_not (pt_val (pe_cal c_is_below (hr.mono (by decide)) pass0 (pa_cons (pv 0) (pa_cons (pe_op u_add (pe_gc (v := .int 8) rfl T.k_MOST_EVENTS) pe_int) pa_nil)))))
    (pss_one ps_never)
    pss_nil)
  (pss_cons (ps_if (pt_not (pt_val (pe_cal c_is_below (hr.mono (by decide)) pass0 (pa_cons (pv 1) (pa_cons (pe_op u_add (pe_gc (v := .int 8) rfl T.k_MOST_WITNESSES) pe_int) pa_nil)))))
    (pss_one ps_never)
    pss_nil)
  (pss_one (ps_for PassesOwn.never rfl (pi_es rfl T.b.enumerate_ (pa_cons (pv 2) pa_nil) (by decide) (by decide)) (pg_tup rfl (pgs_cons (pg_name (i := 3) sc__check_arguments.nd rfl (Or.inl rfl)) (pgs_cons (pg_name (i := 4) sc__check_arguments.nd rfl (Or.inl rfl)) pgs_nil)))
    (pss_one (ps_if (pt_not (pt_val (pe_callB u_isi rfl T.b.isinstance_ boot_isinstance (pa_cons (pv 4) (pa_cons (pe_tup (pa_cons (pe_bltn (v := V.ty "list") rfl T.b.list_ (by decide +kernel) rfl) (pa_cons (pe_bltn (v := V.ty "tuple") rfl T.b.tuple_ (by decide +kernel) rfl) pa_nil))) pa_nil)))))
    (pss_one ps_never)
    pss_nil)))))), ?_⟩
    walk_at "el"
    refine ⟨.int ev, 9, rfl, .int ev, fun H1 s1 => ?_⟩
    rw [below_true e0 (by omega)]
    walk_at "el"
    refine ⟨.int wi, 9, rfl, .int wi, fun H2 s2 => ?_⟩
    rw [below_true w0 (by omega)]
    walk_at "el"
    have s12 := s1.trans s2
    refine ⟨q, _, rfl, SqT.of (s12 _ _ hq), ?_⟩
    have all : ∀ (i : Nat) (x : V), [V.ref t, V.ref g, V.ref s, V.ref c][i]? = some x → ∃ a xs, x = .ref a ∧ SqA K H a xs := by
      intro i x hx
      rcases i with _ | _ | _ | _ | i <;> cases hx
      · exact ⟨_, _, rfl, ht⟩
      · exact ⟨_, _, rfl, hg⟩
      · exact ⟨_, _, rfl, hs⟩
      · exact ⟨_, _, rfl, hc⟩
    refine lp_it walk_es (fun i σ H3 => Same H H3 ∧ ∃ v3 v4, σ = [some (.int ev), some (.int wi), some (.ref q), v3, v4]) ⟨s12, _, _, rfl⟩ (fun i σ H3 hi h => SqT.of (h.1 _ _ hq)) ?_ ?_
    · rintro i x σ H3 H4 hi ⟨s3, v3, v4, rfl⟩ ⟨r, y, rfl, hr, rfl, hy⟩
      obtain ⟨a, xs, rfl, ha⟩ := all i y hy
      have s4 := L2.Same.nw (o := .tup [.int ((2 : Int) + i), .ref a]) s3 hr
      refine a_gtup (SqT.of upd_same) rfl ?_
      walk_at "el"
      refine ⟨by show 2 ≤ sizeLine; decide, fun r2 hr2 => ?_⟩
      have s5 := L2.Same.nw (o := .tup [.ty "list", .ty "tuple"]) s4 hr2
      walk_at "el"
      refine (ha.same s5).isLT upd_same ?_
      walk_at "el"
      exact ⟨s5, _, _, rfl⟩
    · rintro σ H3 ⟨s3, v3, v4, rfl⟩
      exact k _ s3
theorem ok_check_items (F : Fun K "_check_items" "_check_items" s__check_items f fd) (T : BoT K w mg aForms aParts) (c_is_item : Cal P w K mg base CX0 5 "is_item" ["part", "thing", "events", "witnesses"] (spItem K)) :
    FnOk P w K mg base CX0 6 f fd ["place", "part", "items", "events", "witnesses"] (spCi K) := by
  refine F.ok sc__check_items (fun vs H Q E h => ?_) (fun cdv A outer s H vs Q E hr h => ?_)
  · obtain ⟨_, _, _, _, _, _, rfl, _⟩ := h
    rfl
  · obtain ⟨n, p, a, xs, ev, wi, rfl, hp, k⟩ := h
    refine ⟨_, (pss_cons (ps_if (pt_cmpR op_gt (pe_callB u_len rfl T.b.len_ boot_len (pa_cons (pv 2) pa_nil)) (pe_gc (v := .int 24) rfl T.k_MOST_ITEMS) (nomark _))
    (pss_one ps_never)
    pss_nil)
  (pss_one (ps_for PassesOwn.never rfl (PI.alt (pi_enum rfl T.b.enumerate_ (pa_cons (pv 2) pa_nil)) (pi_e1 rfl T.b.enumerate_ (pa_cons (pv 2) pa_nil))) (pg_tup rfl (pgs_cons (pg_name (i := 5) sc__check_items.nd rfl (Or.inl rfl)) (pgs_cons (pg_name (i := 6) sc__check_items.nd rfl (Or.inl rfl)) pgs_nil)))
    (pss_one (ps_if (pt_not (pt_val (pe_cal c_is_item (hr.mono (by decide)) pass0 (pa_cons (pv 1) (pa_cons (pv 6) (pa_cons (pv 3) (pa_cons (pv 4) pa_nil)))))))
    (pss_one ps_never)
    pss_nil))))), ?_⟩
    walk_at "el"
    refine n_len hp.seq.len ?_
    walk_at "el"
    have hn : decide ((xs.length : Int) > 24) = false := decide_eq_false (by have q := hp.len; omega)
    rw [hn]
    walk_at "el"
    rcases hp.seq with ha | ha
    · refine Or.inl ?_
      walk_at "el"
      refine ⟨a, xs, rfl, SqL.of ha, ?_⟩
      refine lp_it walk_enum (fun i σ H3 => Same H H3 ∧ ∃ v3 v4, σ = [some (.int n), some (.str p.name), some (.ref a), some (.int ev), some (.int wi), v3, v4]) ⟨Same.refl _, _, _, rfl⟩ (fun i σ H3 hi h => SqL.of (h.1 _ _ ha)) ?_ ?_
      · rintro i x σ H3 H4 hi ⟨s3, v3, v4, rfl⟩ ⟨r, _, y, rfl, hr, rfl, ei, hy⟩
        cases ei
        have s4 := L2.Same.nw (o := .tup [.int i, y]) s3 hr
        have io := (hp.items y (List.mem_of_getElem? hy)).same s4
        refine a_gtup (SqT.of upd_same) rfl ?_
        walk_at "el"
        refine ⟨p, y, ev, wi, rfl, io.th.1, io.th.2, fun H5 b s5 hb => ?_⟩
        rw [hb.mpr io]
        walk_at "el"
        exact ⟨s4.trans s5, _, _, rfl⟩
      · rintro σ H3 ⟨s3, v3, v4, rfl⟩
        exact k _ s3
    · refine Or.inr ?_
      walk_at "el"
      refine ⟨a, xs, rfl, ha, ?_⟩
      refine lp_it walk_es (fun i σ H3 => Same H H3 ∧ ∃ v3 v4, σ = [some (.int n), some (.str p.name), some (.ref a), some (.int ev), some (.int wi), v3, v4]) ⟨Same.refl _, _, _, rfl⟩ (fun i σ H3 hi h => ha.same h.1) ?_ ?_
      · rintro i x σ H3 H4 hi ⟨s3, v3, v4, rfl⟩ ⟨r, y, rfl, hr, rfl, hy⟩
        have s4 := L2.Same.nw (o := .tup [.int ((0 : Int) + i), y]) s3 hr
        have io := (hp.items y (List.mem_of_getElem? hy)).same s4
        refine a_gtup (SqT.of upd_same) rfl ?_
        walk_at "el"
        refine ⟨p, y, ev, wi, rfl, io.th.1, io.th.2, fun H5 b s5 hb => ?_⟩
        rw [hb.mpr io]
        walk_at "el"
        exact ⟨s4.trans s5, _, _, rfl⟩
      · rintro σ H3 ⟨s3, v3, v4, rfl⟩
        exact k _ s3
/-- a book, its parts told by their addresses -/
def bookO (C dx : Addr) (ev wi : Int) (t g s c : Addr) : HO := .ins C dx [("_events", .int ev), ("_witnesses", .int wi), ("_tellings", .ref t), ("_gaps", .ref g), ("_sure", .ref s), ("_clauses", .ref c)]
structure BkC (K : Frag) (C : Addr) : Prop where
  own : OwnC K C
  n0 : NoAttr K C "_events"
  n1 : NoAttr K C "_witnesses"
  n2 : NoAttr K C "_tellings"
  n3 : NoAttr K C "_gaps"
  n4 : NoAttr K C "_sure"
  n5 : NoAttr K C "_clauses"
def spInit (K : Frag) (C : Addr) : Sp := fun vs H Q _ => ∃ (o dx : Addr) (ev wi : Int) (t g s c : Addr) (ts gs ss cs : List V), vs = [.ref o, .int ev, .int wi, .ref t, .ref g, .ref s, .ref c] ∧ H o = some (.ins C dx []) ∧ 0 ≤ ev ∧ ev ≤ 8 ∧ 0 ≤ wi ∧ wi ≤ 8 ∧
  PartOk K .tel H t ts ev wi ∧ PartOk K .gap H g gs ev wi ∧ PartOk K .sur H s ss ev wi ∧ PartOk K .cla H c cs ev wi ∧
  ∀ H' t' g' s' c', Kp o H H' → H' o = some (bookO C dx ev wi t' g' s' c') → SqT K H' t' ts → SqT K H' g' gs → SqT K H' s' ss → SqT K H' c' cs → Q .non H'
theorem ok_init {dvs : List V} {C : Addr} (F : FunD K "__init__" "Book.__init__" (defArgs s_Book_init) (defBody s_Book_init) (defScope s_Book_init) dvs [] f fd) (T : BoT K w mg aForms aParts) (B : BkC K C)
    (c__check_arguments : Cal P w K mg base CX0 3 "_check_arguments" ["events", "witnesses", "parts"] (spCa K)) (c__check_items : Cal P w K mg base CX0 6 "_check_items" ["place", "part", "items", "events", "witnesses"] (spCi K)) :
    FnOk P w K mg base CX0 7 f fd ["self", "events", "witnesses", "tellings", "gaps", "sure", "clauses"] (spInit K C) := by
  refine F.ok sc_Book_init (fun vs H Q E h => ?_) (fun cdv A outer s H vs Q E hr h => ?_)
  · obtain ⟨_, _, _, _, _, _, _, _, _, _, _, _, rfl, _⟩ := h
    rfl
  · obtain ⟨o, dx, ev, wi, t, g, s, c, ts, gs, ss, cs, rfl, ho, e0, e8, w0, w8, ht, hg, hs, hc, k⟩ := h
    refine ⟨_, PSs.nox (pss_cons (ps_set (i := 7) sc_Book_init.nd rfl (Or.inl rfl) (pe_tup (pa_cons (pv 3) (pa_cons (pv 4) (pa_cons (pv 5) (pa_cons (pv 6) pa_nil))))))
  (pss_cons (ps_expr (pe_cal c__check_arguments (hr.mono (by decide)) pass0 (pa_cons (pv 1) (pa_cons (pv 2) (pa_cons (pv 7) pa_nil)))))
  (pss_cons (ps_for PassesOwn.never rfl (pi_ez rfl T.b.enumerate_ rfl T.b.zip_ (pa_cons (pe_glob (v := .ref aParts) rfl T.gParts rfl) (pa_cons (pv 7) pa_nil)) (by decide) (by decide)) (pg_tup rfl (pgs_cons (pg_name (i := 8) sc_Book_init.nd rfl (Or.inl rfl)) (pgs_cons (pg_tup rfl (pgs_cons (pg_name (i := 9) sc_Book_init.nd rfl (Or.inl rfl)) (pgs_cons (pg_name (i := 10) sc_Book_init.nd rfl (Or.inl rfl)) pgs_nil))) pgs_nil)))
    (pss_one (ps_expr (pe_cal c__check_items (hr.mono (by decide)) pass0 (pa_cons (pv 8) (pa_cons (pv 9) (pa_cons (pv 10) (pa_cons (pv 1) (pa_cons (pv 2) pa_nil)))))))))
  (pss_cons (ps_fld (pv 0) (pv 1) rfl)
  (pss_cons (ps_fld (pv 0) (pv 2) rfl)
  (pss_cons (ps_fld (pv 0) (pe_callTy u_tuple rfl T.b.tuple_ (by decide +kernel) (pa_cons (pv 3) pa_nil)) rfl)
  (pss_cons (ps_fld (pv 0) (pe_callTy u_tuple rfl T.b.tuple_ (by decide +kernel) (pa_cons (pv 4) pa_nil)) rfl)
  (pss_cons (ps_fld (pv 0) (pe_callTy u_tuple rfl T.b.tuple_ (by decide +kernel) (pa_cons (pv 5) pa_nil)) rfl)
  (pss_one (ps_fld (pv 0) (pe_callTy u_tuple rfl T.b.tuple_ (by decide +kernel) (pa_cons (pv 6) pa_nil)) rfl)))))))))), ?_⟩
    walk_at "el"
    refine ⟨by show 4 ≤ sizeLine; decide, fun q hq => ?_⟩
    have s1 := L2.Same.nw (o := .tup [.ref t, .ref g, .ref s, .ref c]) (Same.refl H) hq
    walk_at "el"
    refine ⟨ev, wi, q, t, g, s, c, ts, gs, ss, cs, rfl, upd_same, e0, e8, w0, w8, ht.seq.same s1, hg.seq.same s1, hs.seq.same s1, hc.seq.same s1, fun H2 s2 => ?_⟩
    have hq2 : H2 q = some (.tup [.ref t, .ref g, .ref s, .ref c]) := s2 _ _ upd_same
    have s12 := s1.trans s2
    clear s1 s2
    walk_at "el"
    refine ⟨aParts, q, _, _, rfl, T.parts _, SqT.of hq2, ?_⟩
    have all : ∀ (i : Nat) (x y : V), [V.str "tellings", V.str "gaps", V.str "sure", V.str "clauses"][i]? = some x → [V.ref t, V.ref g, V.ref s, V.ref c][i]? = some y → ∃ p a xs, x = .str (Pt.name p) ∧ y = .ref a ∧ PartOk K p H a xs ev wi := by
      intro i x y hx hy
      rcases i with _ | _ | _ | _ | i <;> cases hx <;> cases hy
      · exact ⟨.tel, _, _, rfl, rfl, ht⟩
      · exact ⟨.gap, _, _, rfl, rfl, hg⟩
      · exact ⟨.sur, _, _, rfl, rfl, hs⟩
      · exact ⟨.cla, _, _, rfl, rfl, hc⟩
    refine lp_it (walk_ez (xs := [.str "tellings", .str "gaps", .str "sure", .str "clauses"]) (ys := [.ref t, .ref g, .ref s, .ref c]) rfl) (fun i σ H3 => Same H H3 ∧ H3 q = some (.tup [.ref t, .ref g, .ref s, .ref c]) ∧ ∃ v3 v4 v5, σ = [some (.ref o), some (.int ev), some (.int wi), some (.ref t), some (.ref g), some (.ref s), some (.ref c), some (.ref q), v3, v4, v5]) ⟨s12, hq2, _, _, _, rfl⟩ (fun i σ H3 hi h => ⟨T.parts _, SqT.of h.2.1⟩) ?_ ?_
    · rintro i x σ H3 H4 hi ⟨s3, hq3, v3, v4, v5, rfl⟩ ⟨r0, r1, x0, y0, rfl, hr0, hr1, ne, rfl, hx, hy⟩
      obtain ⟨p, a, xs, rfl, rfl, hp⟩ := all i _ _ hx hy
      have s4 := L2.Same.nw (o := .tup [.str p.name, .ref a]) (Same.refl H3) hr0
      have s5 := L2.Same.nw (H1 := upd H3 r0 (.tup [.str p.name, .ref a])) (o := .tup [.int ((2 : Int) + i), .ref r0]) s4 (by rw [upd_ne (Ne.symm ne)]; exact hr1)
      have s35 := s3.trans s5
      refine a_gtup (SqT.of upd_same) rfl ?_
      walk_at "el"
      refine a_gtup (SqT.of (by rw [upd_ne ne]; exact upd_same)) rfl ?_
      walk_at "el"
      refine ⟨_, p, a, xs, ev, wi, rfl, hp.same s35, fun H6 s6 => ?_⟩
      walk_at "el"
      exact ⟨s35.trans s6, s6 _ _ (s5 _ _ hq3), _, _, _, rfl⟩
    · rintro σ H3 ⟨s3, _, v3, v4, v5, rfl⟩
      have o3 := s3 _ _ ho
      have k0 : Kp o H H3 := same_kp s3
      clear all hq2 s12
      walk_at "el"
      refine ⟨o, C, dx, _, rfl, o3, B.own.cl, B.n0, by decide, ?_⟩
      walk_at "el"
      refine ⟨o, C, dx, _, rfl, upd_same, B.own.cl, B.n1, by show 1 < 1000; decide, ?_⟩
      walk_at "el"
      have k1 : Kp o H (upd (upd H3 o (.ins C dx (putF "_events" (.int ev) []))) o (.ins C dx (putF "_witnesses" (.int wi) (putF "_events" (.int ev) [])))) := k0.bag.bag
      refine n_tuple (ht.seq.kp ho k1) fun t' H4 s4 ht' => ?_
      have o4 := s4 _ _ upd_same
      have k2 := k1.trans (same_kp s4)
      clear k1 s4 o3 k0
      walk_at "el"
      refine ⟨o, C, dx, _, rfl, o4, B.own.cl, B.n2, by show 2 < 1000; decide, ?_⟩
      walk_at "el"
      have k3 := k2.bag (o := .ins C dx (putF "_tellings" (.ref t') (putF "_witnesses" (.int wi) (putF "_events" (.int ev) []))))
      have ht1 := SqT.kp ht' o4 (Kp.bag (Kp.refl o H4) (o := .ins C dx (putF "_tellings" (.ref t') (putF "_witnesses" (.int wi) (putF "_events" (.int ev) [])))))
      refine n_tuple (hg.seq.kp ho k3) fun g' H5 s5 hg' => ?_
      have o5 := s5 _ _ upd_same
      have k4 := k3.trans (same_kp s5)
      have ht2 := ht1.same s5
      clear k3 s5 o4 k2 ht1 ht'
      walk_at "el"
      refine ⟨o, C, dx, _, rfl, o5, B.own.cl, B.n3, by show 3 < 1000; decide, ?_⟩
      walk_at "el"
      generalize hfs : putF "_gaps" (.ref g') (putF "_tellings" (.ref t') (putF "_witnesses" (.int wi) (putF "_events" (.int ev) []))) = fs4
      have k5 := k4.bag (o := .ins C dx fs4)
      have kk := Kp.bag (Kp.refl o H5) (o := .ins C dx fs4)
      refine n_tuple (hs.seq.kp ho k5) fun s' H6 s6 hs' => ?_
      have o6 := s6 _ _ upd_same
      have k6 := k5.trans (same_kp s6)
      have ht3 := (SqT.kp ht2 o5 kk).same s6
      have hg3 := (SqT.kp hg' o5 kk).same s6
      clear k5 s6 o5 k4 ht2 hg' kk
      walk_at "el"
      refine ⟨o, C, dx, _, rfl, o6, B.own.cl, B.n4, by subst hfs; show 4 < 1000; decide, ?_⟩
      walk_at "el"
      generalize hfs5 : putF "_sure" (.ref s') fs4 = fs5
      have k7 := k6.bag (o := .ins C dx fs5)
      have kk := Kp.bag (Kp.refl o H6) (o := .ins C dx fs5)
      refine n_tuple (hc.seq.kp ho k7) fun c' H7 s7 hc' => ?_
      have o7 := s7 _ _ upd_same
      have k8 := k7.trans (same_kp s7)
      have ht4 := (SqT.kp ht3 o6 kk).same s7
      have hg4 := (SqT.kp hg3 o6 kk).same s7
      have hs4 := (SqT.kp hs' o6 kk).same s7
      clear k7 s7 o6 k6 ht3 hg3 hs' kk
      walk_at "el"
      refine ⟨o, C, dx, _, rfl, o7, B.own.cl, B.n5, by subst hfs5; subst hfs; show 5 < 1000; decide, ?_⟩
      walk_at "el"
      have kk := Kp.bag (Kp.refl o H7) (o := .ins C dx (putF "_clauses" (.ref c') fs5))
      refine k _ t' g' s' c' (k8.trans kk) ?_ (SqT.kp ht4 o7 kk) (SqT.kp hg4 o7 kk) (SqT.kp hs4 o7 kk) (SqT.kp hc' o7 kk)
      rw [upd_same]
      subst hfs5
      subst hfs
      rfl
end
end EL

/- part L -/
namespace EL
open PySem PySem.Spec PyProof.Rows L2
open PySem.W (Frag)
abbrev s_bag : Stmt := top 45
abbrev N_bag : List Str := ["_law_script", "_law_cell"]
theorem sc_bag : FnScope N_bag ["_law_script"] (defScope s_bag) := ⟨rfl, rfl, rfl, by decide +kernel, rfl, by decide +kernel, by decide +kernel⟩
abbrev s_one : Stmt := top 47
abbrev N_one : List Str := ["_law_bag_here", "_law_menu"]
theorem sc_one : FnScope N_one ["_law_bag_here", "_law_menu"] (defScope s_one) := ⟨rfl, rfl, rfl, by decide +kernel, rfl, by decide +kernel, by decide +kernel⟩
local macro_rules | `(tactic| walk_at "el1") => `(tactic| with_reducible first
  | refine a_sasg ?_ | refine a_sdrop ?_ | refine a_saugS ?_ | refine a_spar ?_ | refine a_seq ?_ | refine a_asg ?_ | refine a_drop ?_ | refine a_ret ?_ | refine a_if ?_ | refine a_next ?_
  | refine a_op ?_ | refine a_cons ?_ | refine a_nil ?_ | refine a_cb ?_ | refine a_call ?_ | refine a_c ?_ | refine a_gn ?_ | refine a_nx ?_ | refine a_rt ?_ | refine a_un ?_
  | refine a_test ?_ | refine a_B ?_ | refine a_bl ?_ | refine a_and ?_ | refine a_or ?_ | refine a_not ?_ | refine a_andV ?_ | refine a_orV ?_ | refine a_notV ?_ | refine a_ifx ?_ | refine a_chain ?_
  | refine a_nT ?_ | refine a_nF ?_ | refine a_fld ?_ | refine a_getF ?_ | refine a_T ?_ | refine a_F ?_ | refine a_tup ?_ | refine a_lst ?_ | refine a_sub ?_ | refine a_augS ?_ | refine a_two ?_ | refine a_I0 ?_ | refine a_U ?_ | refine n_add ?_ | refine n_int ?_ | refine n_ib ?_ | refine a_ip ?_ | refine a_rng1 ?_ | refine a_rng2 ?_ | refine a_bm ?_ | refine a_abs ?_ | refine a_pairs ?_ | refine a_pairs0 ?_ | refine a_bk ?_ | refine a_prp ?_ | refine a_lc ?_ | refine a_yes ?_ | refine a_sl ?_ | refine a_nop ?_ | refine a_prt ?_ | refine a_ex1 ?_ | refine a_for ?_ | refine a_sfor ?_ | refine a_iE1 ?_ | refine a_iEs ?_ | refine a_iEz ?_ | refine a_iEnum ?_ | refine a_iTup ?_ | refine a_iList ?_ | refine a_gcons ?_ | refine a_gnil ?_ | refine a_revT ?_ | refine a_spar3 ?_ | refine a_par3 ?_ | refine a_three ?_)
local macro_rules | `(tactic| walk_at "el2") => `(tactic| first
  | (refine a_var (by rfl) ?_)
  | (refine n_ixL (SqL.of (by assumption)) (by rfl) ?_) | (refine n_ixT (SqT.of (by assumption)) (by rfl) ?_) | (refine n_eq (by rfl) ?_) | (refine n_ne (by rfl) ?_)
  | (refine n_isN ?_) | (refine n_notN ?_) | (refine n_isB ?_) | (refine n_notB ?_) | (refine n_isBI ?_) | (refine n_notBI ?_) | (refine n_len (.inl (SqL.of (by assumption))) ?_) | (refine n_len (.inr (SqT.of (by assumption))) ?_)
  | (refine a_getL (SqL.of (by assumption)) (by rfl) ?_)
  | (refine n_isInt (by assumption) ?_) | (refine n_isBool (by assumption) ?_) | (refine n_isStr (by assumption) ?_) | (refine n_isTup (by assumption) ?_) | (refine n_isLst (by assumption) ?_))
local macro_rules | `(tactic| walk_at "el") => `(tactic| repeat (first | walk_at "el1" | walk_at "el2"))

/-! ### the bag is made; one of a menu -/
def spBag (K : Frag) : Sp := fun vs H Q _ => ∃ (a : Addr) (ns : List Int), vs = [.ref a] ∧ SqL K H a (ns.map V.int) ∧ ∀ b c H', H b = none → H c = none → Bag H' b c → Same H H' → Q (.ref b) H'
def spOne (K : Frag) : Sp := fun vs H Q _ => ∃ (b c m : Addr) (xs : List V), vs = [.ref b, .ref m] ∧ Bag H b c ∧ m ≠ b ∧ SqA K H m xs ∧ 0 < xs.length ∧ xs.length ≤ 1000000000 ∧ ∀ x H', x ∈ xs → Bag H' b c → Kp b H H' → Q x H'
theorem cut_map {α : Type} (f : α → V) (ns : List α) (lo hi : Option Int) : ∃ ms : List α, cutV (ns.map f) lo hi = ms.map f ∧ ms.length ≤ ns.length := by
  unfold cutV
  refine ⟨(ns.drop (HT.sIx (ns.map f).length 0 lo)).take (HT.sIx (ns.map f).length (ns.map f).length hi - HT.sIx (ns.map f).length 0 lo), by rw [List.map_take, List.map_drop], ?_⟩
  rw [List.length_take, List.length_drop]
  omega
theorem atI_mem {xs : List V} {k : Int} {x : V} (h : atI xs k = some x) : x ∈ xs := by
  obtain ⟨j, h1, h2, _⟩ := atI_get h
  exact List.mem_of_getElem? h2
theorem cut_len63 (xs : List V) : (cutV xs none (some 63)).length ≤ 63 := by
  unfold cutV
  rw [List.length_take]
  refine Nat.le_trans (Nat.min_le_left _ _) ?_
  show min (63 : Int).toNat xs.length - 0 ≤ 63
  have q : (63 : Int).toNat = 63 := rfl
  omega
section
variable {P : Program} {w : World} {K : Frag} {mg : Str → Option Value} {base : Heap} {f : Addr} {fd : FuncData}
theorem ok_bag (F : Fun K "_law_bag" "_law_bag" s_bag f fd) (T : Tb mg) : FnOk P w K mg base CX0 1 f fd ["_law_script"] (spBag K) := by
  refine F.ok sc_bag (fun vs H Q E h => ?_) (fun cdv A outer s H vs Q E hr h => ?_)
  · obtain ⟨_, _, rfl, _⟩ := h
    rfl
  · obtain ⟨a, ns, rfl, ha, k⟩ := h
    refine ⟨_, (pss_one (ps_ret (pe_lst (pa_cons pe_int (pa_cons pe_int (pa_cons pe_int (pa_cons (pe_lc (own := [("_law_cell", 1)]) rfl sc_bag.nd (u_iter (pe_slice u_slice (pv 0) po_none (po_some pe_int))) (blkOk_by (own := [("_law_cell", 1)]) (N := N_bag) (sc := defScope s_bag) (by decide +kernel)) (fun _ _ _ _ _ => (pg_name (i := 1) sc_bag.nd rfl (Or.inl rfl))) (fun _ _ _ _ _ => pts_nil) (fun _ _ _ _ _ => (pe_callB call_abs rfl T.b.abs_ (by decide +kernel) (pa_cons (pv 1) pa_nil)))) pa_nil))))))), ?_⟩
    walk_at "el"
    refine a_iSeq (.inl ?_)
    walk_at "el"
    refine .inl ⟨a, _, rfl, ha, fun p hp => ?_⟩
    obtain ⟨ms, em, lm⟩ := cut_map V.int ns none (some 63)
    have l63 := cut_len63 (ns.map V.int)
    rw [em] at l63 ⊢
    rw [List.length_map] at l63
    have s1 := L2.Same.nw (o := .lst (ms.map V.int)) (Same.refl H) hp
    refine ⟨p, rfl, ⟨_, SqL.of upd_same⟩, fun D hD => ?_⟩
    have hDp : D ≠ p := fun z => by subst z; rw [upd_same] at hD; cases hD
    have hD0 : H D = none := s1.free hD
    refine lc_of (walk_list (xs := ms.map V.int)) (fun i H3 => Same H H3 ∧ H3 p = some (.lst (ms.map V.int)) ∧ ∃ cs : List Int, H3 D = some (.lst (cs.map V.int)) ∧ cs.length = i ∧ ∀ x ∈ cs, 0 ≤ x) ⟨s1.nw hD, by rw [upd_ne hDp.symm]; exact upd_same, [], upd_same, rfl, fun _ h => nomatch h⟩ (fun i H3 hi h => SqL.of h.2.1) ?_ ?_
    · rintro i x H3 H4 hi ⟨s3, hp3, cs, hD3, hl, hc⟩ ⟨rfl, hx⟩
      rw [List.length_map] at hi
      rw [List.getElem?_map, List.getElem?_eq_getElem hi] at hx
      cases hx
      walk_at "el"
      refine ⟨rfl, ?_⟩
      walk_at "el"
      refine ⟨_, hD3, by rw [List.length_map, hl]; exact Nat.lt_of_lt_of_le (m := 63) (by omega) (by decide), ?_⟩
      refine ⟨s3.mu hD0, by rw [upd_ne hDp.symm]; exact hp3, cs ++ [if ms[i] < 0 then -ms[i] else ms[i]], by rw [upd_same, List.map_append]; rfl, by rw [List.length_append, hl]; rfl, ?_⟩
      intro x hx
      rcases List.mem_append.mp hx with h | h
      · exact hc x h
      · cases List.mem_singleton.mp h
        split <;> omega
    · rintro H3 ⟨s3, hp3, cs, hD3, hl, hc⟩
      walk_at "el"
      refine ⟨by show 4 ≤ sizeLine; decide, fun b hb => ?_⟩
      have hbD : D ≠ b := fun z => by subst z; rw [hD3] at hb; cases hb
      exact k b D _ (s3.free hb) hD0 ⟨0, 1234567891, 0, cs, upd_same, by rw [upd_ne hbD]; exact hD3, hbD, by decide, by decide, by decide, by decide, hc⟩ (s3.nw hb)
theorem ok_one (F : Fun K "_law_one" "_law_one" s_one f fd) (T : Tb mg) (c_take : Cal P w K mg base CX0 1 "_law_take" ["_law_bag_here", "_law_many"] spTake) : FnOk P w K mg base CX0 2 f fd ["_law_bag_here", "_law_menu"] (spOne K) := by
  refine F.ok sc_one (fun vs H Q E h => ?_) (fun cdv A outer s H vs Q E hr h => ?_)
  · obtain ⟨_, _, _, _, rfl, _⟩ := h
    rfl
  · obtain ⟨b, c, m, xs, rfl, hb, hm, hs, h0, h1, k⟩ := h
    refine ⟨_, (pss_one (ps_ret (pe_ix ix_seq (pv 1) (pe_cal c_take (hr.mono (by decide)) pass0 (pa_cons (pv 0) (pa_cons (pe_callB u_len rfl T.b.len_ boot_len (pa_cons (pv 1) pa_nil)) pa_nil))) (fun _ _ => rfl)))), ?_⟩
    walk_at "el"
    refine n_len hs.len ?_
    walk_at "el"
    refine ⟨b, c, xs.length, rfl, hb, by omega, by omega, fun r H1 r0 r1 hb1 k1 => ?_⟩
    obtain ⟨x, hx⟩ : ∃ x, atI xs r = some x := by
      obtain ⟨n, rfl⟩ : ∃ n : Nat, r = n := ⟨r.toNat, by omega⟩
      have hn : n < xs.length := by omega
      exact ⟨xs[n], atI_nat (List.getElem?_eq_getElem hn)⟩
    have hm1 : SqA K H1 m xs := by
      rcases hs with h | (h | ⟨o, h⟩) | h
      · exact .inl (k1 _ _ hm h)
      · exact .inr (.inl (.inl (k1 _ _ hm h)))
      · exact .inr (.inl (.inr ⟨o, k1 _ _ hm h⟩))
      · exact .inr (.inr h)
    walk_at "el"
    rcases hm1 with h | h
    · refine n_ixL (SqL.of h) hx ?_
      exact k x _ (atI_mem hx) hb1 k1
    · refine n_ixT h hx ?_
      exact k x _ (atI_mem hx) hb1 k1
end
end EL

/- part G -/
namespace EL
open PySem PySem.Spec PyProof.Rows L2
open PySem.W (Frag)
/-! ### Book(..) as a call -/
abbrev psBook : List Str := ["self", "events", "witnesses", "tellings", "gaps", "sure", "clauses"]
structure BookD where
  f : Addr
  fd : FuncData
  d1 : Addr
  d2 : Addr
  d3 : Addr
  d4 : Addr
  ds : List Value
  ds4 : List Value
  ds3 : List Value
structure BookG (P : Program) (w : World) (K : Frag) (mg : Str → Option Value) (base : Heap) (C : Addr) (D : BookD) : Prop where
  made : Mk K C D.f
  fn : FnOk P w K mg base CX0 7 D.f D.fd psBook (spInit K C)
  b6 : L2.Binds K D.fd psBook []
  v2 : Vals [.ref D.d1, .ref D.d2, .ref D.d3, .ref D.d4] D.ds
  b2 : L2.Binds K D.fd psBook D.ds
  v4 : Vals [.ref D.d3, .ref D.d4] D.ds4
  b4 : L2.Binds K D.fd psBook D.ds4
  v3 : Vals [.ref D.d2, .ref D.d3, .ref D.d4] D.ds3
  b3 : L2.Binds K D.fd psBook D.ds3
  dflt : ∀ H, SqT K H D.d1 [] ∧ SqT K H D.d2 [] ∧ SqT K H D.d3 [] ∧ SqT K H D.d4 []
  g : mg "Book" = some (.ref C)
  c : BkC K C
/-- a new book, its parts tuples -/
def NewBook (K : Frag) (C : Addr) (ev wi : Int) (ts gs ss cs : List V) (H1 : Hp) (Q : VK) : Prop :=
  ∀ o dx t g s c H', Same H1 H' → H1 o = none → H' o = some (bookO C dx ev wi t g s c) → SqT K H' t ts → SqT K H' g gs → SqT K H' s ss → SqT K H' c cs → Q (.ref o) H'
theorem made_same {H1 H' : Hp} {x dx C : Addr} (nx : H1 x = none) (nd : H1 dx = none) (k : Kp x (upd (upd H1 dx (.own x)) x (.ins C dx [])) H') : Same H1 H' := fun a o e =>
  k a o (ne_of_none e nx) (by rw [upd_ne (ne_of_none e nx), upd_ne (ne_of_none e nd)]; exact e)
/-- what a making asks -/
def MkB (K : Frag) (C : Addr) (dvs vs : List V) (H1 : Hp) (Q : VK) : Prop := ∀ x dx, H1 x = none → H1 dx = none → dx ≠ x → spInit K C (.ref x :: (vs ++ dvs)) (upd (upd H1 dx (.own x)) x (.ins C dx [])) (fun v H2 => v = .non ∧ Q (.ref x) H2) E0
def tBk (K : Frag) (C : Addr) (dvs : List V) (t : TA) : TE := fun σ H Q => t σ H fun vs H1 => MkB K C dvs vs H1 Q
section
variable {X : Cx} {C : Addr} {D : BookD} {pos p : Pos} {e : Expr} {es : List Expr} {t : TA}
theorem pe_bk2 (B : BookG X.prog X.w X.K X.mg X.base C D) (hr : Room 8 X.A) (hg : Gl X "Book") (ha : PA X (e :: es) t) (he : starEach (e :: es) X.env = (false, eval e X.env) :: starEach es X.env := by rfl) (hpl : (backTo pos (starEach es X.env)).any (·.1) = false := by rfl) :
    PE X (.Call (.Name "Book" p) (e :: es) [] pos) (tBk X.K C [.ref D.d1, .ref D.d2, .ref D.d3, .ref D.d4] t) := pe_make (p := p) (pos := pos) B.made B.fn hr hg B.g B.b2 B.v2 pass0 ha (by decide) he hpl
theorem pe_bk6 (B : BookG X.prog X.w X.K X.mg X.base C D) (hr : Room 8 X.A) (hg : Gl X "Book") (ha : PA X (e :: es) t) (he : starEach (e :: es) X.env = (false, eval e X.env) :: starEach es X.env := by rfl) (hpl : (backTo pos (starEach es X.env)).any (·.1) = false := by rfl) :
    PE X (.Call (.Name "Book" p) (e :: es) [] pos) (tBk X.K C [] t) := pe_make (p := p) (pos := pos) B.made B.fn hr hg B.g B.b6 .nil pass0 ha (by decide) he hpl
theorem pe_bk4 (B : BookG X.prog X.w X.K X.mg X.base C D) (hr : Room 8 X.A) (hg : Gl X "Book") (ha : PA X (e :: es) t) (he : starEach (e :: es) X.env = (false, eval e X.env) :: starEach es X.env := by rfl) (hpl : (backTo pos (starEach es X.env)).any (·.1) = false := by rfl) :
    PE X (.Call (.Name "Book" p) (e :: es) [] pos) (tBk X.K C [.ref D.d3, .ref D.d4] t) := pe_make (p := p) (pos := pos) B.made B.fn hr hg B.g B.b4 B.v4 pass0 ha (by decide) he hpl
theorem pe_bk3 (B : BookG X.prog X.w X.K X.mg X.base C D) (hr : Room 8 X.A) (hg : Gl X "Book") (ha : PA X (e :: es) t) (he : starEach (e :: es) X.env = (false, eval e X.env) :: starEach es X.env := by rfl) (hpl : (backTo pos (starEach es X.env)).any (·.1) = false := by rfl) :
    PE X (.Call (.Name "Book" p) (e :: es) [] pos) (tBk X.K C [.ref D.d2, .ref D.d3, .ref D.d4] t) := pe_make (p := p) (pos := pos) B.made B.fn hr hg B.g B.b3 B.v3 pass0 ha (by decide) he hpl
end
section
variable {K : Frag} {C : Addr} {σ : L2.St} {H : Hp} {Q : VK} {dvs : List V} {t : TA}
theorem a_bk (q : t σ H fun vs H1 => MkB K C dvs vs H1 Q) : tBk K C dvs t σ H Q := q
theorem PartOk.nil {p : Pt} {a : Addr} {ev wi : Int} (h : SqT K H a []) : PartOk K p H a [] ev wi := ⟨.inr h, by decide, fun _ h => nomatch h⟩
theorem new_same {x dx : Addr} (nx : H x = none) (nd : H dx = none) (ne : dx ≠ x) : Same H (upd (upd H dx (.own x)) x (.ins C dx [])) := L2.Same.nw (L2.Same.nw (Same.refl H) nd) (by rw [upd_ne ne.symm]; exact nx)
theorem n_bk6 {ev wi : Int} {t g s c : Addr} {ts gs ss cs : List V} (e0 : 0 ≤ ev) (e8 : ev ≤ 8) (w0 : 0 ≤ wi) (w8 : wi ≤ 8) (ht : PartOk K .tel H t ts ev wi) (hg : PartOk K .gap H g gs ev wi) (hs : PartOk K .sur H s ss ev wi) (hc : PartOk K .cla H c cs ev wi)
    (q : NewBook K C ev wi ts gs ss cs H Q) : MkB K C [] [.int ev, .int wi, .ref t, .ref g, .ref s, .ref c] H Q := fun x dx nx nd ne => by
  have s0 := new_same (C := C) nx nd ne
  exact ⟨x, dx, ev, wi, t, g, s, c, ts, gs, ss, cs, rfl, upd_same, e0, e8, w0, w8, ht.same s0, hg.same s0, hs.same s0, hc.same s0, fun H' t' g' s' c' k ho h1 h2 h3 h4 => ⟨rfl, q x dx t' g' s' c' H' (made_same nx nd k) nx ho h1 h2 h3 h4⟩⟩
theorem n_bk4 {D : BookD} {ev wi : Int} {t g : Addr} {ts gs : List V} (hd : ∀ H, SqT K H D.d1 [] ∧ SqT K H D.d2 [] ∧ SqT K H D.d3 [] ∧ SqT K H D.d4 []) (e0 : 0 ≤ ev) (e8 : ev ≤ 8) (w0 : 0 ≤ wi) (w8 : wi ≤ 8) (ht : PartOk K .tel H t ts ev wi) (hg : PartOk K .gap H g gs ev wi)
    (q : NewBook K C ev wi ts gs [] [] H Q) : MkB K C [.ref D.d3, .ref D.d4] [.int ev, .int wi, .ref t, .ref g] H Q := fun x dx nx nd ne => by
  have s0 := new_same (C := C) nx nd ne
  exact ⟨x, dx, ev, wi, t, g, D.d3, D.d4, ts, gs, [], [], rfl, upd_same, e0, e8, w0, w8, ht.same s0, hg.same s0, .nil (hd _).2.2.1, .nil (hd _).2.2.2,
    fun H' t' g' s' c' k ho h1 h2 h3 h4 => ⟨rfl, q x dx t' g' s' c' H' (made_same nx nd k) nx ho h1 h2 h3 h4⟩⟩
theorem n_bk3 {D : BookD} {ev wi : Int} {t : Addr} {ts : List V} (hd : ∀ H, SqT K H D.d1 [] ∧ SqT K H D.d2 [] ∧ SqT K H D.d3 [] ∧ SqT K H D.d4 []) (e0 : 0 ≤ ev) (e8 : ev ≤ 8) (w0 : 0 ≤ wi) (w8 : wi ≤ 8) (ht : PartOk K .tel H t ts ev wi)
    (q : NewBook K C ev wi ts [] [] [] H Q) : MkB K C [.ref D.d2, .ref D.d3, .ref D.d4] [.int ev, .int wi, .ref t] H Q := fun x dx nx nd ne => by
  have s0 := new_same (C := C) nx nd ne
  exact ⟨x, dx, ev, wi, t, D.d2, D.d3, D.d4, ts, [], [], [], rfl, upd_same, e0, e8, w0, w8, ht.same s0, .nil (hd _).2.1, .nil (hd _).2.2.1, .nil (hd _).2.2.2,
    fun H' t' g' s' c' k ho h1 h2 h3 h4 => ⟨rfl, q x dx t' g' s' c' H' (made_same nx nd k) nx ho h1 h2 h3 h4⟩⟩
theorem n_bk2 {D : BookD} {ev wi : Int} (hd : ∀ H, SqT K H D.d1 [] ∧ SqT K H D.d2 [] ∧ SqT K H D.d3 [] ∧ SqT K H D.d4 []) (e0 : 0 ≤ ev) (e8 : ev ≤ 8) (w0 : 0 ≤ wi) (w8 : wi ≤ 8)
    (q : NewBook K C ev wi [] [] [] [] H Q) : MkB K C [.ref D.d1, .ref D.d2, .ref D.d3, .ref D.d4] [.int ev, .int wi] H Q := fun x dx nx nd ne => by
  exact ⟨x, dx, ev, wi, D.d1, D.d2, D.d3, D.d4, [], [], [], [], rfl, upd_same, e0, e8, w0, w8, .nil (hd _).1, .nil (hd _).2.1, .nil (hd _).2.2.1, .nil (hd _).2.2.2,
    fun H' t' g' s' c' k ho h1 h2 h3 h4 => ⟨rfl, q x dx t' g' s' c' H' (made_same nx nd k) nx ho h1 h2 h3 h4⟩⟩
end
theorem Bag.same {H H' : Hp} {b c : Addr} (h : Bag H b c) (s : Same H H') : Bag H' b c := by
  obtain ⟨i, j, k, cs, h1, h2, r⟩ := h
  exact ⟨i, j, k, cs, s _ _ h1, s _ _ h2, r⟩
theorem Bag.ne {H : Hp} {b c p : Addr} (h : Bag H b c) (hp : H p = none) : p ≠ b := fun z => by
  obtain ⟨i, j, k, cs, h1, _⟩ := h
  subst z
  rw [h1] at hp
  cases hp
theorem Th.kp {K : Frag} {b c : Addr} {H H' : Hp} {x : V} (h : Th K H x) (hb : Bag H b c) (hb' : Bag H' b c) (k : Kp b H H') : Th K H' x := by
  obtain ⟨_, _, _, _, h1, _⟩ := hb
  obtain ⟨_, _, _, _, h2, _⟩ := hb'
  exact h.stay h1 h2 k
theorem all_nil {α : Type} {p : α → Prop} : ∀ x ∈ ([] : List α), p x := fun _ h => nomatch h
theorem all_cons {α : Type} {p : α → Prop} {a : α} {l : List α} (h : p a) (t : ∀ x ∈ l, p x) : ∀ x ∈ a :: l, p x := fun x hx => (List.mem_cons.mp hx).elim (fun e => e ▸ h) (t x)
theorem all_app {α : Type} {p : α → Prop} {l m : List α} (h : ∀ x ∈ l, p x) (t : ∀ x ∈ m, p x) : ∀ x ∈ l ++ m, p x := fun x hx => (List.mem_append.mp hx).elim (h x) (t x)
/-- what is new -/
def Nw (H : Hp) (p : Addr) : Prop := ∀ o, Same H (upd H p o)
theorem nw_of {H : Hp} {p : Addr} (h : H p = none) : Nw H p := fun o => L2.Same.nw (Same.refl H) h
theorem Nw.to {H : Hp} {p a : Addr} {o u : HO} (n : Nw H p) (h : H a = some u) : upd H p o a = some u := n o a u h
theorem Th.kpK {K : Frag} {b c : Addr} {H H' : Hp} {x : V} (k : Kp b H H') (hb' : Bag H' b c) (hb : Bag H b c) (h : Th K H x) : Th K H' x := h.kp hb hb' k
theorem Kp.into {b : Addr} {H H1 H2 : Hp} (q : Kp b H1 H2) (p : Same H H1) : Kp b H H2 := (same_kp p).trans q
theorem eqv_is (r : Int) (s : Str) : PyData.eqv (.tuple [.int r, .str s]) (.tuple [.int r, .str s]) = true := by simp [PyData.eqv, PyData.eqvAll]
theorem shp_is {r : Int} {s : Str} (h : PyData.strOk s = true) : SeqAt.shaped (.tuple [.int r, .str s]) = true := by
  simp [SeqAt.shaped, PyData.canLay0, PyData.canLayAll0, PyData.depth, PyData.depthAll]
  exact h
/-- what a law promises: True for each script -/
def spLaw (K : Frag) : Sp := fun vs H Q _ => ∃ (a : Addr) (ns : List Int), vs = [.ref a] ∧ SqL K H a (ns.map V.int) ∧ ∀ H', Q (.bl true) H'
theorem walk_all {l : PySem.W.OpenLaw} {k : Nat} {q : Program} {loose : List Str} {XP : (Str → Option Value) → Heap → Prop} {YP : World → Heap → Prop} {d : DefRec} {K : Params → Frag} (hn : l.most = some 63) (hdf : d.params.defaults = []) (hr : Room k PySem.callerA)
    (hY : ∀ (w : World) (h : Heap), YP w h → (K w.params).In h)
    (F : ∀ (w : World) (mg : Str → Option Value) (fa : Addr) (h : Heap), (K w.params).In h → h.Ns mainGlobals mg → mg d.name = some (.ref fa) →
      ∃ fd : FuncData, (∀ (s : Shared) (u : Value), BindsTo s fd ⟨[u], []⟩ [("_law_script", u)]) ∧ ∀ base : Heap, (K w.params).In base → base.Ns mainGlobals mg → FnG l.prog w (K w.params) mg base CX0 k fa fd ["_law_script"] (spLaw (K w.params))) :
    PySem.W.WalkO q loose XP YP l.row.toRowW d [] (fun f vs => PySem.call f vs) :=
  walk_law (n := 63) (x := "_law_script") (CX := fun _ => CX0) (sp := fun w => spLaw (K w.params)) hn (by decide) hdf hr hY F (fun _ _ a ns hl _ hS => ⟨a, ns, rfl, hS, fun _ => rfl⟩) fun _ _ _ _ _ z => z
theorem own_kit {K : PySem.W.Frag} {C : Addr} {T : String} (hm : PySem.W.kitMeta T = true) (h : PySem.W.mroIn K C (.type T) = some false) : PySem.W.kitOne K (.ref C) (.type T) = some false := by
  unfold PySem.W.kitOne
  rw [if_neg (by simp)]
  show (if PySem.W.kitMeta T = true then PySem.W.subIn K (.ref C) (.type T) else none) = _
  rw [if_pos hm]
  exact h
/-! ### the properties of a book -/
def spGet (C : Addr) (fld : Str) : Sp := fun vs H Q _ => ∃ (a dx : Addr) (fs : List (Str × V)) (v : V), vs = [.ref a] ∧ H a = some (.ins C dx fs) ∧ fs.lookup fld = some v ∧ Q v H
structure PrpG (P : Program) (w : World) (K : Frag) (mg : Str → Option Value) (base : Heap) (C : Addr) (f fld : Str) : Prop where
  ex : ∃ p g fd, PropOf K C f p g ∧ FnOk P w K mg base CX0 1 g fd ["self"] (spGet C fld) ∧ L2.Binds K fd ["self"] []
  cl : Cls K C
theorem pe_prp {X : Cx} {C : Addr} {f fld : Str} {e : Expr} {ta : TE} {pos : Pos} (G : PrpG X.prog X.w X.K X.mg X.base C f fld) (hr : Room 2 X.A) (ha : PE X e ta) (hab : attributeBase e f X.env (eval e X.env) = eval e X.env := by rfl) :
    PE X (.Attribute e f pos) (tProp C (spGet C fld) [] E0 ta) := by
  obtain ⟨p, g, fd, hp, F, hb⟩ := G.ex
  exact pe_prop ha G.cl hp F hr hb .nil pass0 hab
def PrpR (C : Addr) (fld : Str) (x : V) (H : Hp) (Q : VK) : Prop := ∃ a dx fs, x = V.ref a ∧ H a = some (.ins C dx fs) ∧ spGet C fld (V.ref a :: []) H Q E0
theorem a_prp {C : Addr} {fld : Str} {ta : TE} {σ : L2.St} {H : Hp} {Q : VK} (q : ta σ H fun x H1 => PrpR C fld x H1 Q) : tProp C (spGet C fld) [] E0 ta σ H Q := q
theorem n_prp {C a dx : Addr} {fld : Str} {fs : List (Str × V)} {v : V} {H : Hp} {Q : VK} (h : H a = some (.ins C dx fs)) (hv : fs.lookup fld = some v) (q : Q v H) : PrpR C fld (.ref a) H Q := ⟨a, dx, fs, rfl, h, a, dx, fs, v, rfl, h, hv, q⟩
theorem nn {H : Hp} {a q : Addr} {o : HO} (h : upd H a o q = none) : q ≠ a ∧ H q = none := by
  by_cases e : q = a
  · subst e
    rw [upd_same] at h
    cases h
  · rw [upd_ne e] at h
    exact ⟨e, h⟩
theorem isI_cases {x : V} (h : isI x = true) : (∃ z, x = .int z) ∨ ∃ z, x = .bl z := by
  cases x with
  | int z => exact .inl ⟨z, rfl⟩
  | bl z => exact .inr ⟨z, rfl⟩
  | _ => cases h
theorem shp_ints : ∀ (js : List Int), SeqAt.shaped (.list (js.map PyData.int)) = true := by
  intro js
  simp only [SeqAt.shaped, Bool.and_eq_true, decide_eq_true_iff]
  refine ⟨?_, ?_⟩
  · show PyData.canLayAll0 (js.map PyData.int) = true
    induction js with
    | nil => rfl
    | cons j r ih => simp only [List.map_cons, PyData.canLayAll0, PyData.canLay0, ih, Bool.and_true]
  · have q : PyData.depthAll (js.map PyData.int) ≤ 1 := by
      induction js with
      | nil => decide
      | cons j r ih => simp [PyData.depthAll, PyData.depth]; omega
    simp [PyData.depth]; omega
theorem eqv_nil (ds : List PyData) : PyData.eqv (.list ds) (.list []) = decide (ds = []) := by
  cases ds with
  | nil => simp [PyData.eqv, PyData.eqvAll]
  | cons d r => simp [PyData.eqv, PyData.eqvAll]
theorem dp_ints {K : Frag} {H : Hp} : ∀ (js : List Int), DpAll K H (js.map V.int) (js.map PyData.int)
  | [] => .nil
  | j :: r => .cons (.int j) (dp_ints r)
/-! ### data stays -/
mutual
theorem dp_same {K : Frag} {H H' : Hp} (s : Same H H') : ∀ (d : PyData) (v : V), Dp K H v d → Dp K H' v d
  | .none, _, h => by cases h; exact .non
  | .bool _, _, h => by cases h; exact .bl _
  | .int _, _, h => by cases h; exact .int _
  | .str _, _, h => by cases h; exact .str _
  | .list ds, _, h => by
    cases h with
    | lst a ha => exact .lst (Same.seq s a) (dp_sameAll s ds _ ha)
  | .tuple ds, _, h => by
    cases h with
    | tup a ha => exact .tup (a.same s) (dp_sameAll s ds _ ha)
  | .dict _, _, h => by cases h
theorem dp_sameAll {K : Frag} {H H' : Hp} (s : Same H H') : ∀ (ds : List PyData) (vs : List V), DpAll K H vs ds → DpAll K H' vs ds
  | [], _, h => by cases h; exact .nil
  | d :: ds, _, h => by
    cases h with
    | cons h1 h2 => exact .cons (dp_same s d _ h1) (dp_sameAll s ds _ h2)
end
end EL

/- part XC -/
/-! a caught error that keeps fields: isinstance of it, its fields; the class told by the reading -/
namespace EL
open PySem PySem.Spec PyProof.Rows L2
open PySem.W (Frag)
def rIsX (K : Frag) (a : Addr) (cls : Value) (d : Option Addr) : List V → Hp → VK → Prop := fun xs H Q => ∃ (D : Addr) (c : V) (cv : Value) (b : Bool) (dd : Addr) (fs : List (Str × V)), xs = [.ref a, c] ∧ cls = .ref D ∧ ExcC K D ∧ d = some dd ∧ H dd = some (.xd fs) ∧ (∀ u, RelV c u → u = cv) ∧ PySem.W.kitOne K (.ref D) cv = some b ∧ Q (.bl b) H
theorem call_isX {X : Cx} {a : Addr} {oe : Obj} {cls : Value} {d : Option Addr} {pn : List (Addr × Obj)} (hz : Zc cls d oe) (hf : ∃ vs, oe.data = .fields vs) : CallR (X.suite a ((a, oe) :: pn)) (.builtin "isinstance") (rIsX X.K a cls d) := by
  intro pins s σ H xs us Q I r h
  obtain ⟨D, c, cv, b, dd, fs, rfl, ecl, C, ed, ea, hcv, e, q⟩ := h
  cases r with
  | cons rx rr =>
    cases rr with
    | cons rt rr =>
      cases rr
      cases rx
      have ec := hcv _ rt
      subst ec
      subst ecl
      subst ed
      obtain ⟨hget, _⟩ := I.pin (a, oe) (List.mem_append.mpr (.inl List.mem_cons_self))
      obtain ⟨vs, hv⟩ := hf
      have hx : ObjOk X.prog X.w H s.heap dd (.xd fs) := I.hok dd _ ea
      obtain ⟨mA, hns, hr⟩ := hx
      obtain ⟨od, ho, hl⟩ := lookIn_ns hns
      have J : PySem.W.InstAt s.heap a oe D (some od) := ⟨hget, hz.1, by unfold PySem.W.notCls; rw [hv] <;> rfl, by rw [hz.2]; exact ho⟩
      have hcl : (PySem.W.clsIn X.K D).isSome = true := by
        obtain ⟨cd, hc, _⟩ := PySem.W.any_some C.hd
        rw [hc]; rfl
      exact PySem.W.kia_one (PySem.W.kitx_exc hcl C.hg C.hk C.hs C.ha C.hn C.ht C.hm) I.kIn J e (fun z => nomatch z) fun tk => ⟨.bl b, H, I.kept (t' := tk) fun _ _ z => z, rfl, q⟩
/-- the reading of e.f: a the caught error, cls its class, d its dict -/
def tXfR (K : Frag) (a : Addr) (cls : Value) (d : Option Addr) (f : Str) (te : TE) : TE := fun σ H Q => te σ H fun x H1 => x = .ref a ∧ ∃ (C dd : Addr) (fs : List (Str × V)) (v : V), cls = .ref C ∧ XfC K C ∧ PySem.W.findIn K (.ref C) f = some none ∧ d = some dd ∧ H1 dd = some (.xd fs) ∧ fs.lookup f = some v ∧ Q v H1
theorem pe_xfR {X : Cx} {a : Addr} {oe : Obj} {cls : Value} {d : Option Addr} {pn : List (Addr × Obj)} {e : Expr} {te : TE} {pos : Pos} {n : Str}
    (hz : Zc cls d oe) (hf : ∃ vs, oe.data = .fields vs) (he : PE (X.suite a ((a, oe) :: pn)) e te) (hb : attributeBase e n X.env (eval e X.env) = eval e X.env := by rfl) :
    PE (X.suite a ((a, oe) :: pn)) (.Attribute e n pos) (tXfR X.K a cls d n te) := by
  refine ⟨fun pins s σ H Q I h => ?_⟩
  refine attr_of hb (thn (he.run pins s σ H _ I h) fun u s1 hh => ?_)
  obtain ⟨x, H1, I1, rx, ex, C, dd, fs, v, ec, T, hno, ed, ea, l, q⟩ := hh
  subst ex
  obtain rfl : u = Value.ref a := rx
  subst ec
  subst ed
  obtain ⟨ha, _⟩ := I1.pin (a, oe) (List.mem_append_left _ List.mem_cons_self)
  obtain ⟨vs, hd⟩ := hf
  have hx : ObjOk X.prog X.w H1 s1.heap dd (.xd fs) := I1.hok dd _ ea
  obtain ⟨mA, hns, hr⟩ := hx
  obtain ⟨od, ho, hl⟩ := lookIn_ns hns
  obtain ⟨u, hu, ru⟩ := RelO.some_of (v := v) (o := mA n) (by rw [← l]; exact hr n)
  have J : PySem.W.InstAt s1.heap a oe C (some od) := ⟨ha, hz.1, by unfold PySem.W.notCls; rw [hd] <;> rfl, by rw [hz.2]; exact ho⟩
  exact HandSPX.exc_get I1.kIn J T.ga T.gg T.exC (PySem.W.findObj_own T.hdC hno rfl (by rw [hl, hu])) (handed_of ru) ⟨v, H1, I1.tok _, ru, q⟩
theorem a_xfR {K : Frag} {a : Addr} {cls : Value} {d : Option Addr} {f : Str} {te : TE} {σ : L2.St} {H : Hp} {Q : VK} (q : te σ H fun x H1 => x = .ref a ∧ ∃ (C dd : Addr) (fs : List (Str × V)) (v : V), cls = .ref C ∧ XfC K C ∧ PySem.W.findIn K (.ref C) f = some none ∧ d = some dd ∧ H1 dd = some (.xd fs) ∧ fs.lookup f = some v ∧ Q v H1) : tXfR K a cls d f te σ H Q := q
end EL

/- part TX -/
namespace TX
open PySem L2

theorem str_ext {a b : Str} (h : a.cps.toList = b.cps.toList) : a = b := by
  cases a; cases b; exact congrArg _ (Array.ext' h)

/-- the signs of a join with one sign between -/
def flat (c : Nat) : List (List Nat) → List Nat
  | [] => []
  | [x] => x
  | x :: y :: r => x ++ c :: flat c (y :: r)

theorem join_nil (s : Str) : s.join [] = Str.empty := rfl
theorem join_one (s x : Str) : s.join [x] = x := by rfl
theorem join_two (s x y : Str) (r : List Str) : s.join (x :: y :: r) = x ++ s ++ s.join (y :: r) := by rfl

theorem app_list (a b : Str) : (a ++ b).cps.toList = a.cps.toList ++ b.cps.toList := by
  rw [Str.cps_append]; simp

theorem flat_of (c : Nat) : ∀ ws : List Str, ((⟨#[c]⟩ : Str).join ws).cps.toList = flat c (ws.map (·.cps.toList))
  | [] => rfl
  | [x] => by rw [join_one]; rfl
  | x :: y :: r => by
    rw [join_two, app_list, app_list, flat_of c (y :: r)]
    simp [flat]

theorem cut_eq {c : Nat} : ∀ {x y r s : List Nat}, c ∉ x → c ∉ y → x ++ c :: r = y ++ c :: s → x = y ∧ r = s
  | [], [], r, s, _, _, h => ⟨rfl, by simpa using h⟩
  | [], b :: y, r, s, _, h2, h => by simp at h; exact absurd (by simp [h.1]) h2
  | a :: x, [], r, s, h1, _, h => by simp at h; exact absurd (by simp [h.1]) h1
  | a :: x, b :: y, r, s, h1, h2, h => by
    simp at h h1 h2
    have := cut_eq h1.2 h2.2 h.2
    exact ⟨by rw [h.1, this.1], this.2⟩

theorem flat_inj {c : Nat} : ∀ {a b : List (List Nat)}, a ≠ [] → b ≠ [] → (∀ x ∈ a, c ∉ x) → (∀ x ∈ b, c ∉ x) → flat c a = flat c b → a = b
  | [], _, h, _, _, _, _ => absurd rfl h
  | _, [], _, h, _, _, _ => absurd rfl h
  | [x], [y], _, _, _, _, h => by simp [flat] at h; rw [h]
  | [x], y :: z :: r, _, _, hx, hy, h => by
    simp [flat] at h; exact absurd (by simp [h]) (hx x (by simp))
  | x :: z :: r, [y], _, _, hx, hy, h => by
    simp [flat] at h; exact absurd (by simp [← h]) (hy y (by simp))
  | x :: z :: r, y :: w :: s, _, _, hx, hy, h => by
    simp only [flat] at h
    have := cut_eq (hx x (by simp)) (hy y (by simp)) h
    have e := flat_inj (a := z :: r) (b := w :: s) (by simp) (by simp) (fun u hu => hx u (List.mem_cons_of_mem _ hu)) (fun u hu => hy u (List.mem_cons_of_mem _ hu)) this.2
    rw [this.1, e]

theorem split_ne (x y : Str) : Txt.split x y ≠ [] := by
  unfold Txt.split
  split
  · simp
  · split
    · simp
    · rw [StrLaws.partsBetween_eq]
      obtain ⟨p, r, e⟩ := StrLaws.partsFrom_ne x y.length 0 (Builtin.Str.occurrences x y 0 x.length (x.length + 1))
      rw [e]; simp

theorem map_list_inj : ∀ {a b : List Str}, a.map (fun s => s.cps.toList) = b.map (fun s => s.cps.toList) → a = b
  | [], [], _ => rfl
  | [], _ :: _, h => by simp at h
  | _ :: _, [], h => by simp at h
  | x :: a, y :: b, h => by
    simp only [List.map_cons, List.cons.injEq] at h
    rw [str_ext h.1, map_list_inj h.2]

/-- what is joined with a sign that is in none is cut into the same again -/
theorem split_join {c : Nat} {ws : List Str} (h0 : ws ≠ []) (hf : ∀ w ∈ ws, c ∉ w.cps.toList) :
    Txt.split ((⟨#[c]⟩ : Str).join ws) ⟨#[c]⟩ = ws := by
  refine map_list_inj ?_
  refine flat_inj (c := c) ?_ ?_ ?_ ?_ ?_
  · intro h; exact split_ne _ _ (List.map_eq_nil_iff.mp h)
  · intro h; exact h0 (List.map_eq_nil_iff.mp h)
  · intro x hx
    obtain ⟨p, hp, rfl⟩ := List.mem_map.mp hx
    exact StrLaws.split_free _ c p hp
  · intro x hx
    obtain ⟨p, hp, rfl⟩ := List.mem_map.mp hx
    exact hf p hp
  · rw [← flat_of, ← flat_of, StrLaws.join_split]

theorem flat_len (c : Nat) : ∀ ws : List (List Nat), (ws.map List.length).sum + ws.length ≤ (flat c ws).length + 1
  | [] => by simp [flat]
  | [x] => by simp [flat]
  | x :: y :: r => by
    have := flat_len c (y :: r)
    simp [flat] at this ⊢; omega
theorem flat_len' (c : Nat) : ∀ ws : List (List Nat), (flat c ws).length ≤ (ws.map List.length).sum + ws.length
  | [] => by simp [flat]
  | [x] => by simp [flat]
  | x :: y :: r => by
    have := flat_len' c (y :: r)
    simp [flat] at this ⊢; omega

theorem len_list (s : Str) : s.cps.toList.length = s.length := by simp [Str.length]

/-- the parts of a text, all together -/
theorem split_len (x : Str) (c : Nat) : ((Txt.split x ⟨#[c]⟩).map (·.length)).sum + (Txt.split x ⟨#[c]⟩).length ≤ x.length + 1 := by
  have h := flat_len c ((Txt.split x ⟨#[c]⟩).map (·.cps.toList))
  rw [← flat_of, StrLaws.join_split, len_list] at h
  simp only [List.map_map, List.length_map] at h
  have e : (List.map (List.length ∘ fun x : Str => x.cps.toList) (Txt.split x ⟨#[c]⟩)) = (Txt.split x ⟨#[c]⟩).map (·.length) :=
    List.map_congr_left fun s _ => len_list s
  rw [e] at h; exact h

theorem le_sum : ∀ {l : List Nat} {n : Nat}, n ∈ l → n ≤ l.sum
  | a :: l, n, h => by
    rcases List.mem_cons.mp h with h | h
    · subst h; simp
    · have := le_sum h; simp; omega

theorem split_mem (x : Str) (c : Nat) {p : Str} (h : p ∈ Txt.split x ⟨#[c]⟩) : p.length ≤ x.length := by
  have h1 := split_len x c
  have h2 := le_sum (List.mem_map_of_mem (f := fun s : Str => s.length) h)
  have h3 : 0 < (Txt.split x ⟨#[c]⟩).length := List.length_pos_of_mem h
  omega


/-! numbers as texts -/
def figs (l : List Nat) : List Nat := match l with | 45 :: r => r | l => l
def negW (l : List Nat) : Bool := match l with | 45 :: _ => true | _ => false
def dig (c : Nat) : Bool := decide (48 ≤ c ∧ c ≤ 57)
def digs (w : Str) : Bool := !(figs w.cps.toList).isEmpty && (decide ((figs w.cps.toList).length ≤ 40) && (figs w.cps.toList).all dig)
def valW (w : Str) : Int := if negW w.cps.toList then - (NumText.digitsVal (figs w.cps.toList) : Int) else NumText.digitsVal (figs w.cps.toList)
def showI (n : Int) : Str := Str.ofString (toString n)
def intW (w : Str) : Option Int := if digs w then (if showI (valW w) = w then some (valW w) else none) else none

theorem figs_or (l : List Nat) : (negW l = true ∧ l = 45 :: figs l) ∨ (negW l = false ∧ figs l = l ∧ ∀ r, l ≠ 45 :: r) := by
  match l with
  | [] => exact .inr ⟨rfl, rfl, by simp⟩
  | c :: r =>
    by_cases h : c = 45
    · subst h; exact .inl ⟨rfl, rfl⟩
    · refine .inr ⟨?_, ?_, ?_⟩
      · unfold negW; split
        · rename_i e; simp at e; exact absurd e.1 h
        · rfl
      · unfold figs; split
        · rename_i e; simp at e; exact absurd e.1 h
        · rfl
      · intro s e; simp at e; exact h e.1

theorem digs_all {w : Str} (h : digs w = true) : NumText.AllDigits (figs w.cps.toList) ∧ figs w.cps.toList ≠ [] ∧ (figs w.cps.toList).length ≤ 40 := by
  unfold digs at h
  simp only [Bool.and_eq_true, Bool.not_eq_true', decide_eq_true_eq, List.all_eq_true] at h
  refine ⟨fun c hc => by have := h.2.2 c hc; simpa [dig] using this, fun e => by rw [e] at h; simp at h, h.2.1⟩

theorem digs_len {w : Str} (h : digs w = true) : w.length ≤ 41 := by
  have h1 := (digs_all h).2.2
  rw [← len_list]
  rcases figs_or w.cps.toList with ⟨_, e⟩ | ⟨_, e, _⟩
  · rw [e]; simp; omega
  · rw [e] at h1; omega

theorem digs_int {w : Str} (h : digs w = true) : intText? w = some (valW w) := by
  obtain ⟨h1, h2, h3⟩ := digs_all h
  have hl := digs_len h
  unfold valW
  rcases figs_or w.cps.toList with ⟨n, e⟩ | ⟨n, e, _⟩
  · rw [n]; exact intText_neg e h1 h2 (by omega)
  · rw [n]; rw [e] at h1 h2 ⊢; exact intText_digits h1 h2 (by omega)

theorem val_lt : ∀ {l : List Nat} {a : Nat}, NumText.AllDigits l → l.foldl (fun acc c => acc * 10 + (c - 48)) a < (a + 1) * 10 ^ l.length
  | [], a, _ => by simp
  | c :: r, a, h => by
    have hc := h c (List.mem_cons_self)
    have := val_lt (l := r) (a := a * 10 + (c - 48)) (fun x hx => h x (List.mem_cons_of_mem _ hx))
    simp only [List.foldl_cons, List.length_cons]
    refine Nat.lt_of_lt_of_le this ?_
    rw [Nat.pow_succ, Nat.mul_comm (10 ^ r.length) 10, ← Nat.mul_assoc]
    refine Nat.mul_le_mul_right _ ?_
    omega

theorem log_of {n : Nat} (h : n < 10 ^ 41) : n.log2 < 1920 := by
  by_cases h0 : n = 0
  · subst h0; decide
  · refine (Nat.log2_lt h0).mpr (Nat.lt_trans h ?_)
    exact by decide +kernel

theorem digs_log {w : Str} (h : digs w = true) : (valW w).natAbs < 10 ^ 41 := by
  obtain ⟨h1, h2, h3⟩ := digs_all h
  have := val_lt (a := 0) h1
  have hp : 10 ^ (figs w.cps.toList).length ≤ 10 ^ 41 := Nat.pow_le_pow_right (by decide) (by omega)
  have e : (valW w).natAbs = NumText.digitsVal (figs w.cps.toList) := by
    unfold valW; split <;> simp
  rw [e]; unfold NumText.digitsVal; omega

theorem back_digit {c : Nat} (h : 48 ≤ c ∧ c ≤ 57) : (Char.ofNat c).toNat = c := by
  have : c = 48 ∨ c = 49 ∨ c = 50 ∨ c = 51 ∨ c = 52 ∨ c = 53 ∨ c = 54 ∨ c = 55 ∨ c = 56 ∨ c = 57 := by omega
  rcases this with h | h | h | h | h | h | h | h | h | h <;> subst h <;> rfl

theorem back_digits : ∀ {l : List Nat}, NumText.AllDigits l → (l.map Char.ofNat).map Char.toNat = l
  | [], _ => rfl
  | c :: r, h => by
    simp only [List.map_cons]
    rw [back_digit (h c List.mem_cons_self), back_digits (l := r) fun x hx => h x (List.mem_cons_of_mem _ hx)]

def norm (l : List Nat) : List Nat := match l.dropWhile (fun x => x == 48) with | [] => [48] | l => l

theorem drop_all {l : List Nat} (h : NumText.AllDigits l) : NumText.AllDigits (l.dropWhile (fun x => x == 48)) :=
  fun c hc => h c ((List.dropWhile_sublist _).subset hc)

/-- the signs of a whole number at least 0 that digits write -/
theorem show_digits {l : List Nat} (h : NumText.AllDigits l) : (showI (NumText.digitsVal l : Int)).cps.toList = norm l := by
  unfold showI
  rw [W.KIN.signs_num, NumText.toDigits_all l h]
  unfold norm
  have hd := drop_all h
  match e : l.dropWhile (fun x => x == 48) with
  | [] => rfl
  | c :: r => rw [e] at hd; exact back_digits hd

theorem show_neg {n : Nat} (h : 0 < n) : (showI (-(n : Int))).cps.toList = 45 :: (showI (n : Int)).cps.toList := by
  match n, h with
  | m + 1, _ =>
    have e : (-((m + 1 : Nat) : Int)) = Int.negSucc m := rfl
    unfold showI
    rw [e]
    have e1 : toString (Int.negSucc m) = "-" ++ toString (m + 1) := rfl
    have e2 : toString (((m + 1 : Nat) : Int)) = toString (m + 1) := rfl
    rw [e1, e2]
    have e3 : ("-" : String).toByteArray.data.toList = [45] := by decide +kernel
    simp only [Str.ofString, String.toByteArray_append, ByteArray.data_append, Array.toList_append]
    rw [e3]; rfl

theorem norm_eq {l : List Nat} (h : l ≠ []) : norm l = l ↔ (l.head? ≠ some 48 ∨ l = [48]) := by
  match l, h with
  | c :: r, _ =>
    unfold norm
    by_cases hc : c = 48
    · subst hc
      have e : (List.dropWhile (fun x => x == 48) (48 :: r)) = List.dropWhile (fun x => x == 48) r := by simp [List.dropWhile]
      rw [e]
      constructor
      · intro h1
        right
        match e2 : List.dropWhile (fun x => x == 48) r with
        | [] => rw [e2] at h1; exact h1.symm
        | d :: s =>
          rw [e2] at h1
          have h2 := (List.dropWhile_sublist (l := r) (fun x => x == 48)).length_le
          rw [e2] at h2
          have h3 := congrArg List.length h1
          simp at h2 h3; omega
      · rintro (h1 | h1)
        · simp at h1
        · simp at h1; subst h1; rfl
    · have e : (List.dropWhile (fun x => x == 48) (c :: r)) = c :: r := by
        have hb : (c == 48) = false := by simp [hc]
        simp only [List.dropWhile, hb]
      rw [e]
      simp [hc]

theorem str_eq_iff {a b : Str} : a = b ↔ a.cps.toList = b.cps.toList := ⟨fun h => by rw [h], str_ext⟩

/-- what the law asks of a leading zero is what the program asks of the number's text -/
theorem show_val {w : Str} (h : digs w = true) : showI (valW w) = w ↔ ((figs w.cps.toList).head? ≠ some 48 ∨ w = "0") := by
  obtain ⟨h1, h2, h3⟩ := digs_all h
  have hz : ("0" : Str).cps.toList = [48] := rfl
  rw [str_eq_iff, str_eq_iff (b := "0"), hz]
  unfold valW
  rcases figs_or w.cps.toList with ⟨n, e⟩ | ⟨n, e, hn⟩
  · rw [n, if_pos rfl]
    generalize figs w.cps.toList = l at *
    rw [e]
    by_cases h0 : NumText.digitsVal l = 0
    · rw [h0]
      have e0 : (showI (-((0 : Nat) : Int))).cps.toList = [48] := rfl
      rw [e0]
      have hh : l.head? = some 48 := by
        match l, h2 with
        | c :: r, _ =>
          have hc := h1 c List.mem_cons_self
          by_cases hc' : c = 48
          · rw [hc']; rfl
          · have := NumText.digitsVal_pos (c := c) (cs := r) (by omega); omega
      simp [hh]
    · rw [show_neg (Nat.pos_of_ne_zero h0), show_digits h1]
      simp only [List.cons.injEq, true_and]
      rw [norm_eq h2]
      constructor
      · rintro (h | h)
        · exact .inl h
        · subst h; exact absurd rfl h0
      · rintro (h | h)
        · exact .inl h
        · simp at h
  · rw [n, if_neg (by simp), show_digits h1, e]
    rw [e] at h2
    exact norm_eq h2

theorem intW_law {w : Str} (h : digs w = true) : intW w = if (figs w.cps.toList).head? = some 48 ∧ w ≠ "0" then none else some (valW w) := by
  unfold intW
  rw [if_pos h]
  by_cases h1 : showI (valW w) = w
  · rw [if_pos h1, if_neg]
    rintro ⟨a, b⟩
    rcases (show_val h).mp h1 with c | c
    · exact c a
    · exact b c
  · rw [if_neg h1, if_pos]
    refine ⟨Classical.byContradiction fun a => h1 ((show_val h).mpr (.inl a)), fun b => h1 ((show_val h).mpr (.inr b))⟩


theorem toD_all (m : Nat) : NumText.AllDigits ((Nat.toDigits 10 m).map Char.toNat) := by
  intro c hc
  obtain ⟨x, hx, rfl⟩ := List.mem_map.mp hc
  have := Nat.isDigit_of_mem_toDigits (by decide) (by decide) hx
  simp only [Char.isDigit, Bool.and_eq_true, decide_eq_true_eq] at this
  exact ⟨this.1, this.2⟩
theorem toD_ne (m : Nat) : (Nat.toDigits 10 m).map Char.toNat ≠ [] := by
  intro h
  have h1 := W.KIN.val_back m
  have h0 := NumText.toDigits_all [] (by intro c hc; cases hc)
  have : Nat.toDigits 10 m = [] := List.map_eq_nil_iff.mp h
  rw [h] at h1
  have : m = 0 := h1.symm
  subst this
  simp at h
theorem showI_list (n : Int) : (showI n).cps.toList = if n < 0 then 45 :: (Nat.toDigits 10 n.natAbs).map Char.toNat else (Nat.toDigits 10 n.natAbs).map Char.toNat := by
  by_cases h : n < 0
  · rw [if_pos h]
    have e : n = -((n.natAbs : Nat) : Int) := by omega
    have hp : 0 < n.natAbs := by omega
    conv => lhs; rw [e]
    rw [show_neg hp]; unfold showI; rw [W.KIN.signs_num]
  · rw [if_neg h]
    have e : n = ((n.natAbs : Nat) : Int) := by omega
    conv => lhs; rw [e]
    unfold showI; rw [W.KIN.signs_num]

theorem figs_show (n : Int) : figs (showI n).cps.toList = (Nat.toDigits 10 n.natAbs).map Char.toNat ∧ (negW (showI n).cps.toList = decide (n < 0)) := by
  rw [showI_list]
  by_cases h : n < 0
  · rw [if_pos h]; exact ⟨rfl, by simp [h, negW]⟩
  · rw [if_neg h]
    rcases figs_or ((Nat.toDigits 10 n.natAbs).map Char.toNat) with ⟨_, e⟩ | ⟨a, b, _⟩
    · have := toD_all n.natAbs 45 (by rw [e]; exact List.mem_cons_self); omega
    · exact ⟨b, by rw [a]; simp [h]⟩

theorem digs_show {n : Int} (h : n.natAbs < 10 ^ 40) : digs (showI n) = true := by
  unfold digs
  rw [(figs_show n).1]
  simp only [Bool.and_eq_true, Bool.not_eq_true', decide_eq_true_eq, List.all_eq_true]
  refine ⟨?_, ?_, ?_⟩
  · cases e : ((Nat.toDigits 10 n.natAbs).map Char.toNat)
    · exact absurd e (toD_ne _)
    · rfl
  · rw [List.length_map]; exact PyProof.Rows.digits10_le (by decide) h
  · intro c hc; have := toD_all n.natAbs c hc; simpa [dig] using this

theorem val_show (n : Int) : valW (showI n) = n := by
  unfold valW
  rw [(figs_show n).1, (figs_show n).2, W.KIN.val_back]
  by_cases h : n < 0
  · simp [h]; omega
  · simp [h]; omega

theorem intW_show {n : Int} (h : n.natAbs < 10 ^ 40) : intW (showI n) = some n := by
  unfold intW; rw [if_pos (digs_show h), val_show, if_pos rfl]

theorem showI_len {n : Int} (h : n.natAbs < 10 ^ 40) : (showI n).length ≤ 41 := digs_len (digs_show h)
theorem showI_free {n : Int} {c : Nat} (hc : c ≠ 45) (hd : dig c = false) : c ∉ (showI n).cps.toList := by
  rw [showI_list]
  have : c ∉ (Nat.toDigits 10 n.natAbs).map Char.toNat := fun h => by
    have := toD_all n.natAbs c h; simp [dig] at hd; omega
  split
  · simp [hc]; simpa using this
  · exact this
end TX

/- part TXR -/
namespace EL
open PySem L2 PyProof.Rows
theorem rep_len (cs : Array Nat) : ∀ n a, (List.foldl (fun x1 x2 => x1 ++ x2) a (List.replicate n cs)).size = a.size + cs.size * n
  | 0, a => by simp
  | n + 1, a => by
    rw [List.replicate_succ, List.foldl_cons, rep_len cs n, Array.size_append, Nat.mul_succ]; omega
theorem rep_mem (cs : Array Nat) : ∀ n a x, x ∈ (List.foldl (fun x1 x2 => x1 ++ x2) a (List.replicate n cs)).toList → (x ∈ a.toList → x ∈ cs.toList) → x ∈ cs.toList
  | 0, a, x, h, k => k (by simpa using h)
  | n + 1, a, x, h, k => by
    rw [List.replicate_succ, List.foldl_cons] at h
    refine rep_mem cs n _ x h fun h => ?_
    rw [Array.toList_append] at h
    rcases List.mem_append.mp h with h | h
    · exact k h
    · exact h
/-- a text taken many times: only its length is told -/
theorem op_mulS {X : Cx} : OpR X (binaryOp .Mult) (fun x y H Q => ∃ (z : Str) (n : Int), x = .str z ∧ y = .int n ∧ 2 ≤ n ∧ n ≤ 100000 ∧ 0 < z.length ∧ z.length ≤ 100 ∧ ∀ z' : Str, z'.length = z.length * n.toNat → (∀ x ∈ z'.cps.toList, x ∈ z.cps.toList) → Q (.str z') H) := by
  rintro pins s σ H x y v u Q I rx ry ⟨z, n, rfl, rfl, h1, h2, h3, h4, q⟩
  obtain ⟨t, rfl⟩ := rx
  obtain ⟨u, rfl⟩ := ry
  have hn : n = 2 ∨ 2 < n := by omega
  have hb : (n == 1 || z.length == 0) = false := by
    have a : (n == 1) = false := by simp; omega
    have b : (z.length == 0) = false := by simp; omega
    rw [a, b]; rfl
  have hm : z.length * n.toNat ≤ 10000000 := Nat.mul_le_mul h4 (show n.toNat ≤ 100000 by omega)
  refine P.mul_str ?_ (fun _ _ => ?_) (fun _ _ => ?_) ?_
  · have a : decide (n < -2 ^ 63) = false := by simp; omega
    have b : decide (n ≥ 2 ^ 63) = false := by simp; omega
    rw [a, b]; rfl
  · have : (2 ^ 63 - 1) / n ≥ (2 ^ 63 - 1) / 100000 := by
      rw [ge_iff_le, Int.le_ediv_iff_mul_le (by omega)]; omega
    have e : ((2 : Int) ^ 63 - 1) / 100000 = 92233720368547 := by decide
    omega
  · unfold Builtin.Str.tooLong; have : sizeLine = 16777216 := rfl; simp; omega
  · rw [if_neg (by omega), hb]
    show (Made.str _).post _ _
    have hl : (⟨List.foldl (fun x1 x2 => x1 ++ x2) #[] (List.replicate n.toNat z.cps)⟩ : Str).length = z.length * n.toNat := by
      unfold Str.length; rw [rep_len]; simp
    refine ⟨?_, ⟨V.str _, H, I.tok _, ⟨_, rfl⟩, q _ hl fun x hx => rep_mem z.cps n.toNat #[] x hx (by simp)⟩⟩
    rw [hl]; have : sizeLine = 16777216 := rfl; omega

open TX
theorem walk_str {z : Str} : Walk (Its z) z.cps.size (fun _ => True) (fun i H v H' => H' = H ∧ ∃ c, z.cps.toList[i]? = some c ∧ v = .str ⟨#[c]⟩) :=
  ⟨fun i H hi _ => hi, fun H _ => Nat.le_refl _, fun i H x H' _ _ h => ⟨h.1, by obtain ⟨c, a, b⟩ := h.2; exact ⟨c, by simpa using a, b⟩⟩⟩
/-- the text behind a minus -/
def figS (z : Str) : Str := ⟨(figs z.cps.toList).toArray⟩
theorem figS_list (z : Str) : (figS z).cps.toList = figs z.cps.toList := by simp [figS]
theorem figS_len (z : Str) : (figS z).length = (figs z.cps.toList).length := by simp [figS, Str.length]
theorem figs_le (l : List Nat) : (figs l).length ≤ l.length := by
  rcases figs_or l with ⟨_, e⟩ | ⟨_, e, _⟩
  · have := congrArg List.length e; simp at this; omega
  · rw [e]; omega
theorem figS_le (z : Str) : (figS z).length ≤ z.length := by
  rw [figS_len, ← TX.len_list]; exact figs_le _
theorem rm_eq (z : Str) : Txt.removeprefix z "-" = figS z := by
  refine str_ext ?_
  rw [figS_list]
  unfold Txt.removeprefix
  rw [StrLaws.subAt_eq]
  have e1 : ("-" : Str).cps.toList = [45] := rfl
  have e2 : ("-" : Str).length = 1 := rfl
  rw [e1, e2, List.drop_zero]
  rcases figs_or z.cps.toList with ⟨_, e⟩ | ⟨_, e, h⟩
  · have : (List.take 1 z.cps.toList == [45]) = true := by rw [e]; simp
    rw [this, if_pos rfl]
    have hl := TX.len_list z
    have hz : (z.length - 1 == z.length) = false := by
      rw [e] at hl; simp at hl ⊢; omega
    show (if (z.length - 1 == z.length) = true then z else Builtin.Str.strSub z 1 z.length).cps.toList = _
    rw [hz, if_neg (by simp), StrLaws.strSub_toList]
    have e3 : List.drop 1 z.cps.toList = figs z.cps.toList := by conv => lhs; rw [e]
                                                                 rfl
    rw [e3]
    refine List.take_of_length_le ?_
    rw [e] at hl; simp at hl; omega
  · have : (List.take 1 z.cps.toList == [45]) = false := by
      rw [beq_eq_false_iff_ne]
      intro c
      match e3 : z.cps.toList with
      | [] => rw [e3] at c; simp at c
      | a :: r => rw [e3] at c; simp at c; exact h r (by rw [e3, c])
    rw [this, if_neg (by simp), e]
    rfl
theorem cut1 {z : Str} (h : negW z.cps.toList = true) : cutS z (some 1) none = figS z := by
  refine str_ext ?_
  rw [figS_list]
  rcases figs_or z.cps.toList with ⟨_, e⟩ | ⟨n, _, _⟩
  · have hl := TX.len_list z
    unfold cutS
    have h1 : HT.sIx z.length 0 (some 1) = 1 := by
      rw [e] at hl; simp at hl
      unfold HT.sIx; simp; omega
    have h2 : HT.sIx z.length z.length none = z.length := by unfold HT.sIx; rfl
    show (List.take (HT.sIx z.length z.length none - HT.sIx z.length 0 (some 1)) (List.drop (HT.sIx z.length 0 (some 1)) z.cps.toList)).toArray.toList = _
    rw [h1, h2]
    have e3 : List.drop 1 z.cps.toList = figs z.cps.toList := by conv => lhs; rw [e]
                                                                 rfl
    rw [e3, List.toList_toArray]
    refine List.take_of_length_le ?_
    rw [e] at hl; simp at hl; omega
  · rw [h] at n; cases n
theorem cut0 (z : Str) : cutS z none (some 1) = ("-" : Str) ↔ negW z.cps.toList = true := by
  rw [str_eq_iff]
  have e1 : ("-" : Str).cps.toList = [45] := rfl
  rw [e1]
  have hl := TX.len_list z
  have h1 : HT.sIx z.length 0 none = 0 := by unfold HT.sIx; rfl
  have h2 : HT.sIx z.length z.length (some 1) = min 1 z.length := by unfold HT.sIx; simp
  have e2 : (cutS z none (some 1)).cps.toList = z.cps.toList.take 1 := by
    unfold cutS
    rw [h1, h2]
    match e3 : z.cps.toList with
    | [] => simp
    | a :: r => rw [e3] at hl; simp at hl ⊢; rw [← hl]; simp
  rw [e2]
  rcases figs_or z.cps.toList with ⟨n, e⟩ | ⟨n, _, h⟩
  · rw [n, e]; simp
  · rw [n]
    constructor
    · intro c
      match e3 : z.cps.toList with
      | [] => rw [e3] at c; simp at c
      | a :: r => rw [e3] at c; simp at c; exact absurd (by rw [e3, c]) (h r)
    · intro c; cases c
theorem in_digits (c : Nat) : decide (c ∈ ("0123456789" : Str).cps.toList) = dig c := by
  have e : ("0123456789" : Str).cps.toList = [48, 49, 50, 51, 52, 53, 54, 55, 56, 57] := by decide +kernel
  rw [e]
  unfold dig
  rw [Bool.eq_iff_iff, decide_eq_true_iff, decide_eq_true_iff]
  simp; omega
theorem cutS_mem {z : Str} {lo hi : Option Int} {x : Nat} (h : x ∈ (cutS z lo hi).cps.toList) : x ∈ z.cps.toList := by
  unfold cutS at h
  simp only [List.toList_toArray] at h
  exact List.mem_of_mem_drop (List.mem_of_mem_take h)
theorem app_mem {a b : Str} {x : Nat} (h : x ∈ (a ++ b).cps.toList) : x ∈ a.cps.toList ∨ x ∈ b.cps.toList := by
  rw [app_list] at h
  exact List.mem_append.mp h
end EL

/- part STAR -/
/-! `first, *rest = a list` -/
namespace EL
open PySem PySem.Spec PyProof.Rows L2
open PySem.W (Frag)
section
variable {prog : Program} {w : World} {A : Around} {E : Value → Shared → Prop} {s : Shared}
/-- what the walk over a list hands out once its head is gone -/
theorem star_items {l : Addr} {u : Value} {us : List Value} {Q : List Value → Shared → Prop} (no : A.handled = none) (hl : s.heap.IsList l (u :: us).toArray) (sz : us.length + 1 ≤ sizeLine)
    (q : ∀ (h1 : Heap) (tk : Nat), (∀ b o, s.heap.get? b = some o → h1.get? b = some o) → Q [u, .ref h1.objs.size] { s with heap := h1.push { cls := .type "list", data := .seq us.toArray }, toks := tk }) : wpAny (model prog w) A (unpackItems (.ref l) 2 (some 1)) Q E s := by
  obtain ⟨hp, gg, dd, tt, oo⟩ := s
  have ll : l < hp.objs.size := by obtain ⟨o, z, _⟩ := hl; exact Heap.lt_size z
  have nl : l ≠ hp.objs.size := Nat.ne_of_lt ll
  have hz : (u :: us).toArray.size = us.length + 1 := by simp
  unfold unpackItems
  refine wpAny_bind ?_
  unfold notIterableAtAll
  refine wpAny_bind (wpAny_specialOf hl.typeIs slot_list_iter.lookup (wpAny_pure ?_))
  simp only [Bool.false_eq_true, if_false]
  refine wpAny_bind (wpAny_holding (wpAny_pyIter_list hl (wpAny_bind (wpAny_holding ?_))))
  refine PySem.W.kun_draw nl 1 0 _ _ ⟨_, Heap.get?_push_size _ rfl, rfl, rfl⟩ (hl.push _) (by rw [hz]; omega) fun g1 it1 k1 => ?_
  have l1 : g1.IsList l (u :: us).toArray := (hl.push _).extBut k1.extBut nl
  have one : ((u :: us).toArray.toList.drop 0).take 1 = [u] := by simp
  rw [one]
  have a1 : hp.objs.size < g1.objs.size := by obtain ⟨o, z, _⟩ := it1; exact Heap.lt_size z
  have a2 : l < g1.objs.size := by obtain ⟨o, z, _⟩ := l1; exact Heap.lt_size z
  refine wpAny_bind (wpAny_holding (PySem.W.kun_collect (s := ⟨g1, gg, dd, tt, oo⟩) (T := "list_iterator") (.inr (.inr (.inl rfl))) (Walks.list (A := A.in1) no hp.objs.size l nl (u :: us).toArray) (fun _ _ st => st.1.typeIs) (k := 1) (by rw [hz]; omega) ⟨it1, l1⟩ a1 a2 (fun g2 tk k2 => ?_) (by rw [hz]; exact sz)))
  have tl : (u :: us).toArray.toList.drop 1 = us := by simp
  rw [tl]
  show wpAny _ _ (if us.length < 0 then _ else _) _ _ _
  rw [if_neg (Nat.not_lt_zero _)]
  show wpAny _ _ (newList (us.take (us.length - 0)) >>= fun d => pure ([u] ++ [d] ++ us.drop (us.length - 0))) _ _ _
  rw [Nat.sub_zero, List.take_length, List.drop_length]
  refine wpAny_bind (wpAny_newList (wpAny_pure ?_) (by omega))
  refine q g2 tk fun b o z => k2 b o ?_ (k1.extBut b o ?_ (Heap.get?_push_of_some _ z)) <;> exact Nat.ne_of_lt (Heap.lt_size z)
end
/-- (a, *b) = a list that holds one thing at least -/
def gStar (K : Frag) (t : TGs) : TG := fun v σ H Q => ∃ a x xs, v = .ref a ∧ SqL K H a (x :: xs) ∧ ∀ D, H D = none → t [x, .ref D] σ (upd H D (.lst xs)) Q
theorem pg_star {X : Cx} {e1 e2 : Expr} {sp pos : Pos} {k : Nat} {t : TGs} (hc : X.calm = true) (h : PGs X [e1, e2] t)
    (hn : assignEach [e1, .Starred e2 sp] X.env = [(false, assign e1 X.env), (true, assign e2 X.env)] := by rfl) (hm : (assignEach [e1, e2] X.env).map (·.2) = [assign e1 X.env, assign e2 X.env] := by rfl) : PG X (.Tuple [e1, .Starred e2 sp] k pos) (gStar X.K t) := by
  refine ⟨fun pins s σ H v u Q I r hw => ?_⟩
  obtain ⟨a, x, xs, rfl, hq, hw⟩ := hw
  cases r
  obtain ⟨its, rv, pl, hz⟩ := I.list hq
  cases rv with
  | @cons _ ux _ us rx rv =>
    rw [assign_Tuple]
    refine wpAny_bind (wpAny_standAt ?_)
    unfold unpack
    rw [hn]
    refine wpAny_bind (wpAny_holding (star_items (I.ok.hd hc) pl.isList (by rw [← rv.length]; exact hz) fun h1 tk kp => ?_))
    have I1 : Inv X pins σ H { s with heap := h1, toks := tk } := I.kept (t' := tk) kp
    have nf : H h1.objs.size = none := I1.hok.fresh (Nat.le_refl _)
    have I2 : Inv X pins σ (upd H h1.objs.size (.lst xs)) { s with heap := h1.push { cls := .type "list", data := .seq us.toArray }, toks := tk } :=
      I1.laid (t' := tk) (fun b o z => Heap.get?_push_of_some _ z) (Nat.le_refl _) ⟨by have q : (x :: xs).length ≤ sizeLine := hz; simp at q; omega, us, 0, rv, Heap.get?_push_size _ rfl⟩
    have z := h.run pins _ σ _ [x, .ref h1.objs.size] [ux, .ref h1.objs.size] Q I2 (.cons rx (.cons rfl .nil)) (hw _ nf)
    rw [hm] at z
    exact z
end EL

/- part ENL -/
/-! enumerate(l, start=k) over a list -/
namespace EL
open PySem PySem.Spec PyProof.Rows L2
open PySem.W (Frag)
def ItesL (K : Frag) (a : Addr) (k : Int) : It :=
  ⟨fun i H => ∃ (xs : List V) (x : V), SqL K H a xs ∧ xs[i]? = some x, fun i H v H' => ∃ T x, v = .ref T ∧ H T = none ∧ H' = upd H T (.tup [.int (k + i), x]) ∧ ∀ xs, SqL K H a xs → xs[i]? = some x, fun i H => ∃ xs : List V, SqL K H a xs ∧ xs.length ≤ i⟩
def TurnEsL (e it t : Addr) (k : Int) (i : Nat) (h : Heap) : Prop := (∃ old, IsEnum h e it (k + i) old) ∧ h.IsListIter it t i
theorem turn_esL {P : Program} {w : World} {K : Frag} {elts : List Expr} {kk : Nat} {tpos : Pos} {e it t : Addr} {k : Int} (ne : e ≠ it) : Turn P w K (.Tuple elts kk tpos) (ItesL K t k) [e, it] e (TurnEsL e it t k) where
  mem := by simp
  obj := fun i h st b hb => by
    obtain ⟨⟨old, he⟩, ⟨o1, q1, _, d1⟩⟩ := st
    have q : b = e ∨ b = it := by simpa using hb
    rcases q with q | q <;> subst q
    · exact ⟨_, he, fun v q => nomatch q⟩
    · exact ⟨o1, q1, fun v q => by rw [d1] at q; cases q⟩
  keep := fun i h h' st kp => by
    obtain ⟨⟨old, he⟩, h1⟩ := st
    exact ⟨⟨old, kp e (by simp) _ he⟩, h1.at fun o q => kp it (by simp) o q⟩
  item := by
    intro X hP hw hK hc i pins s σ H E I hf st hg
    subst hP hw hK
    obtain ⟨⟨old, he⟩, h1⟩ := st
    obtain ⟨xs, x, hqx, hx⟩ := hg
    obtain ⟨its, rv, p, _⟩ := I.list hqx
    obtain ⟨u, hu, ru⟩ := rv.get hx
    have le : e < s.heap.objs.size := Heap.lt_size he
    have typ : s.TypeIs (.ref e) "enumerate" := ⟨_, he, rfl⟩
    unfold pyNext
    refine wpAny_bind (wpAny_attempt (wpAny_callSpecial?_slot (name := Str.ofString "__next__") typ F.slot_enumerate_next (wpAny_call_entry F.slot_enumerate_next typ F.entry_enumerate_next
      (wpAny_mono (enum_turn (R := fun v h' => v = u ∧ h'.IsListIter it t (i + 1) ∧ Heap.SameBut it s.heap h')
        (Q := fun v s' => wpAny (model X.prog X.w) X.A (letOwnedTupleGo (.Tuple elts kk tpos) (.ref e) v) (fun _ s2 => ∃ x H', Inv X pins σ H' s2 ∧ RelV x v ∧ (ItesL X.K t k).yld i H x H' ∧ TurnEsL e it t k (i + 1) s2.heap ∧ ∀ b ∈ [e, it], H' b = none) E s')
        he (fun Q' E' hq => wpAny_nextOf_list_item h1 p.isList (x := u) (by simpa using hu) fun h' st' k' => hq _ h' s.toks (ext_of k' _ _ ne he) ⟨rfl, st', k'⟩) ?_) ?_ (fun _ _ q => q)) (F.args_enumerate_next_1 _))))
    · rintro v g1 g2 tk ⟨rfl, st1, k1⟩ lt1 eo tp z2 k2
      refine wpAny_letOwnedTupleGo_enum (s := { s with heap := g2, toks := tk + 1 }) eo fun g3 e3 k3 => ?_
      replace k3 : Heap.SameBut e g2 g3 := k3
      have T1 : g3.get? g1.objs.size = some { cls := .type "tuple", data := .seq #[.int (k + i) tk, v] } := ext_of k3 _ _ (Nat.ne_of_gt lt1) tp
      have sz : s.heap.objs.size = g1.objs.size := k1.1.symm
      have I2 : Inv X pins σ (upd H g1.objs.size (.tup [.int (k + i), x])) { s with heap := g3, toks := tk + 1 } :=
        I.turnedNew (ch := [e, it]) (fun c o hc q => ext_of k3 _ _ (fun q' => hc (by simp [q'])) (k2 c o (fun q' => hc (by simp [q'])) (ext_of k1 _ _ (fun q' => hc (by simp [q'])) q)))
          hf (Nat.le_of_eq sz) ⟨by show 2 ≤ sizeLine; decide, [.int (k + i) tk, v], .cons ⟨_, rfl⟩ (.cons ru .nil), ⟨_, T1, rfl, _, rfl⟩⟩
      refine ⟨.ref g1.objs.size, _, I2, rfl, ⟨g1.objs.size, x, rfl, I.hok.fresh (Nat.le_of_eq sz), rfl, fun l hl => by rw [I.list_inj hl hqx]; exact hx⟩, ⟨⟨v, ?_⟩, ?_⟩, fun b hb => ?_⟩
      · have q : (k + ((i + 1 : Nat) : Int)) = k + i + 1 := by omega
        rw [q]
        exact e3
      · exact st1.at fun o q => ext_of k3 _ _ ne.symm (k2 _ _ ne.symm q)
      · have q : b < g1.objs.size := by
          have q : b = e ∨ b = it := by simpa using hb
          rcases q with q | q <;> subst q
          · exact lt1
          · exact let ⟨_, q, _⟩ := st1; Heap.lt_size q
        rw [upd_ne (Nat.ne_of_lt q)]
        exact (hf b hb).1
    · rintro fin s' ⟨v, rfl, q⟩
      exact ⟨v, rfl, wpAny_pure ⟨v, rfl, q⟩⟩
  done := by
    intro X hP hw hK hc i pins s σ H E I hf st hg
    subst hP hw hK
    obtain ⟨⟨old, he⟩, h1⟩ := st
    obtain ⟨xs, hqx, hx⟩ := hg
    obtain ⟨its, rv, p, _⟩ := I.list hqx
    have l1 := rv.length
    have typ : s.TypeIs (.ref e) "enumerate" := ⟨_, he, rfl⟩
    unfold pyNext
    refine wpAny_bind (wpAny_attempt (wpAny_callSpecial?_slot (name := Str.ofString "__next__") typ F.slot_enumerate_next (wpAny_call_entry F.slot_enumerate_next typ F.entry_enumerate_next ?_ (F.args_enumerate_next_1 _))))
    refine wpAny_bind (m := field (.ref e) 2) (wpAny_field he rfl (x := .ref it) rfl (wpAny_bind ?_))
    refine wpAny_nextOf_list_end (I.ok.hd hc) h1 p.isList (by simp; omega) fun h' x k' hx' => ?_
    obtain ⟨o, ho, hcls⟩ := hx'
    refine wpAny_bind (wpAny_isInstance (T := "StopIteration") (b := true) ⟨o, ho, hcls⟩ isSubtype_stop (wpAny_pure ⟨rfl, ?_⟩))
    exact I.turnedL (t' := s.toks) (ch := [it]) (fun c o hc q => k' c o (fun q' => hc (by simp [q'])) q) (fun b hb => hf b (by
      have q : b = it := by simpa using hb
      simp [q]))
  self := fun A i s Q E st h => let ⟨⟨_, he⟩, _⟩ := st; wpAny_pyIter_enum he h
def iEsL (K : Frag) (k : Int) (ta : TA) : TI := fun σ H R => ta σ H fun vs H1 => ∃ a xs, vs = [.ref a] ∧ SqL K H1 a xs ∧ R (ItesL K a k) H1
theorem pi_esL {X : Cx} {e : Expr} {ta : TA} {p pos tpos cp kp : Pos} {elts : List Expr} {kk j : Nat} {k : Int} (hg : Gl X "enumerate") (hm : X.mg "enumerate" = none) (ha : PA X [e] ta) (h0 : -(2 ^ 63) ≤ k) (h1 : k < 2 ^ 63)
    (hs : starEach [e] X.env = (false, eval e X.env) :: starEach [] X.env := by rfl) (hpl : (backTo pos (starEach [e] X.env)).any (·.1) = false := by rfl) :
    PI X (.Tuple elts kk tpos) (.Call (.Name "enumerate" p) [e] [⟨some "start", .Constant (.int k) j cp, kp⟩] pos) (iEsL X.K k ta) := by
  refine ⟨fun pins s σ H R I h => ?_⟩
  apply wpAny_Call_Name_kw
  refine ld_blt I hg hm boot_enumerate (callType_kw (thn (ha.run pos pins s σ H _ I h) ?_) hs hpl rfl rfl)
  rintro us s1 ⟨vs, H1, I1, r1, a, xs, rfl, hqx, q⟩
  cases r1 with
  | cons ra rn =>
    cases rn
    cases ra
    obtain ⟨its, rv, pa, _⟩ := I1.list hqx
    refine start_kw (enum_begins_start (begins_list a its.toArray) pa.isList h0 h1 fun h' he hit hsz hk => wpAny_pyIter_enum he ?_)
    refine ⟨s1.heap.objs.size + 1, [s1.heap.objs.size + 1, s1.heap.objs.size], _, _, H1, rfl, I1.kept (t' := s1.toks + 1) hk, turn_esL (Nat.succ_ne_self _), ⟨⟨.none, ?_⟩, ⟨_, hit, rfl, rfl⟩⟩, fun c hc => ?_, q⟩
    · have q : k + ((0 : Nat) : Int) = k := by omega
      rw [q]
      exact he
    · have q : c = s1.heap.objs.size + 1 ∨ c = s1.heap.objs.size := by simpa using hc
      have hle : s1.heap.objs.size ≤ c := by
        simp only [Addr] at *
        omega
      exact I1.fpOk hle (I1.hok.fresh hle)
/-- a turn of enumerate(l, start=k) -/
theorem walk_esL {K : Frag} {a : Addr} {k : Int} {xs : List V} : Walk (ItesL K a k) xs.length (fun H => SqL K H a xs) (YEs k xs) :=
  ⟨fun i H hi h => ⟨xs, xs[i], h, List.getElem?_eq_getElem hi⟩, fun H h => ⟨xs, h, Nat.le_refl _⟩, fun i H x H' hi h ⟨T, y, e, hT, hH, hy⟩ => ⟨T, y, e, hT, hH, hy xs h⟩⟩
end EL

/- part LC2 -/
/-! [e for a in xs for b in ys] -/
namespace EL
open PySem PySem.Spec PyProof.Rows L2
open PySem.W (Frag)
/-- the inner walk of a comprehension with two of them -/
def LcIn (J : It) (g : TG) (tt : TT) (te : TE) (vs : List Nat) (σ : L2.St) (H0 : Hp) (D : Addr) (Nx : Hp → Prop) : Prop := ∃ W : Nat → Nat → Hp → Prop, (∃ m, W 0 m H0) ∧ ∀ j k H, W j k H →
  (J.stop j H ∧ Nx H) ∨ (J.go j H ∧ ∃ Nx1 : Hp → Prop, (∀ H', Nx1 H' → ∃ k', k' < k ∧ W (j + 1) k' H') ∧ ∀ x H', J.yld j H x H' → g x (wipe σ vs) H' fun σ3 H5 => wipe σ3 vs = wipe σ vs ∧ tt σ3 H5 fun b H6 =>
    if b = true then te σ3 H6 fun y H7 => ∃ acc, H7 D = some (.lst acc) ∧ acc.length < sizeLine ∧ Nx1 (upd H7 D (.lst (acc ++ [y]))) else Nx1 H6)
def Lc2 (J : It) (g : TG) (tt : TT) (wi1 : TI) (g1 : TG) (tt1 : TT) (te : TE) (vs vs1 : List Nat) (σ : L2.St) (H1 : Hp) (D : Addr) (Qd : Hp → Prop) : Prop := ∃ W : Nat → Nat → Hp → Prop, (∃ m, W 0 m (upd H1 D (.lst []))) ∧ ∀ i m H, W i m H →
  (J.stop i H ∧ Qd H) ∨ (J.go i H ∧ ∃ Nx : Hp → Prop, (∀ H', Nx H' → ∃ m', m' < m ∧ W (i + 1) m' H') ∧ ∀ x H', J.yld i H x H' → g x (wipe σ vs) H' fun σ2 H2 => wipe σ2 vs = wipe σ vs ∧ tt σ2 H2 fun b H3 =>
    if b = true then wi1 σ2 H3 fun J1 H4 => LcIn J1 g1 tt1 te vs1 σ2 H4 D Nx else Nx H3)
section
variable {σ : L2.St} {H : Hp} {Q : VK} {wi wi1 : TI} {g g1 : TG} {tt tt1 : TT} {te : TE} {vs vs1 : List Nat} {J : It} {n : Nat} {G : Hp → Prop} {Y : Nat → Hp → V → Hp → Prop}
theorem a_lc2 (q : wi σ H fun J H1 => ∀ D, H1 D = none → Lc2 J g tt wi1 g1 tt1 te vs vs1 σ H1 D fun H2 => Q (.ref D) H2) : tLc2 wi g tt wi1 g1 tt1 te vs vs1 σ H Q := q
theorem lc2_of (w : Walk J n G Y) {H1 : Hp} {D : Addr} {Qd : Hp → Prop} (Pv : Nat → Hp → Prop) (h0 : Pv 0 (upd H1 D (.lst []))) (hG : ∀ i H, i ≤ n → Pv i H → G H)
    (hs : ∀ i x H H', i < n → Pv i H → Y i H x H' → g x (wipe σ vs) H' fun σ2 H2 => wipe σ2 vs = wipe σ vs ∧ tt σ2 H2 fun b H3 => if b = true then wi1 σ2 H3 fun J1 H4 => LcIn J1 g1 tt1 te vs1 σ2 H4 D (Pv (i + 1)) else Pv (i + 1) H3)
    (hd : ∀ H, Pv n H → Qd H) : Lc2 J g tt wi1 g1 tt1 te vs vs1 σ H1 D Qd := by
  refine ⟨fun i m H => m + i = n ∧ Pv i H, ⟨n, rfl, h0⟩, fun i m H ⟨hi, p⟩ => ?_⟩
  have q := hG i H (by omega) p
  cases m with
  | zero =>
    have e : i = n := by omega
    subst e
    exact .inl ⟨w.stops H q, hd H p⟩
  | succ m =>
    exact .inr ⟨w.goes i H (by omega) q, Pv (i + 1), fun H' p' => ⟨m, by omega, by omega, p'⟩, fun x H' y => hs i x H H' (by omega) p (w.yields i H x H' (by omega) q y)⟩
theorem lcin_of (w : Walk J n G Y) {H1 : Hp} {D : Addr} {Nx : Hp → Prop} (Pv : Nat → Hp → Prop) (h0 : Pv 0 H1) (hG : ∀ i H, i ≤ n → Pv i H → G H)
    (hs : ∀ i x H H', i < n → Pv i H → Y i H x H' → g x (wipe σ vs) H' fun σ2 H2 => wipe σ2 vs = wipe σ vs ∧ tt σ2 H2 fun b H3 => if b = true then te σ2 H3 fun y H4 => ∃ acc, H4 D = some (.lst acc) ∧ acc.length < sizeLine ∧ Pv (i + 1) (upd H4 D (.lst (acc ++ [y]))) else Pv (i + 1) H3)
    (hd : ∀ H, Pv n H → Nx H) : LcIn J g tt te vs σ H1 D Nx := by
  refine ⟨fun i m H => m + i = n ∧ Pv i H, ⟨n, rfl, h0⟩, fun i m H ⟨hi, p⟩ => ?_⟩
  have q := hG i H (by omega) p
  cases m with
  | zero =>
    have e : i = n := by omega
    subst e
    exact .inl ⟨w.stops H q, hd H p⟩
  | succ m =>
    exact .inr ⟨w.goes i H (by omega) q, Pv (i + 1), fun H' p' => ⟨m, by omega, by omega, p'⟩, fun x H' y => hs i x H H' (by omega) p (w.yields i H x H' (by omega) q y)⟩
end
end EL

/- part N -/
namespace EL
open PySem PySem.Spec PyProof.Rows L2
open PySem.W (Frag)
abbrev s_number : Stmt := top 48
abbrev N_number : List Str := ["_law_bag_here", "_law_mode", "_law_small"]
theorem sc_number : FnScope N_number ["_law_bag_here"] (defScope s_number) := ⟨rfl, rfl, rfl, by decide +kernel, rfl, by decide +kernel, by decide +kernel⟩
abbrev s_kind : Stmt := top 49
abbrev N_kind : List Str := ["_law_bag_here"]
theorem sc_kind : FnScope N_kind ["_law_bag_here"] (defScope s_kind) := ⟨rfl, rfl, rfl, by decide +kernel, rfl, by decide +kernel, by decide +kernel⟩
abbrev s_parts : Stmt := top 50
abbrev N_parts : List Str := ["_law_bag_here", "_law_events", "_law_witnesses", "_law_most", "_law_parts_here", "_law_k", "_law_a", "_law_pair"]
theorem sc_parts : FnScope N_parts ["_law_bag_here", "_law_events", "_law_witnesses", "_law_most"] (defScope s_parts) := ⟨rfl, rfl, rfl, by decide +kernel, rfl, by decide +kernel, by decide +kernel⟩
local macro_rules | `(tactic| walk_at "el1") => `(tactic| with_reducible first
  | refine a_sasg ?_ | refine a_sdrop ?_ | refine a_saugS ?_ | refine a_spar ?_ | refine a_seq ?_ | refine a_asg ?_ | refine a_drop ?_ | refine a_ret ?_ | refine a_if ?_ | refine a_next ?_
  | refine a_op ?_ | refine a_cons ?_ | refine a_nil ?_ | refine a_cb ?_ | refine a_call ?_ | refine a_c ?_ | refine a_gn ?_ | refine a_nx ?_ | refine a_rt ?_ | refine a_un ?_
  | refine a_test ?_ | refine a_B ?_ | refine a_bl ?_ | refine a_and ?_ | refine a_or ?_ | refine a_not ?_ | refine a_andV ?_ | refine a_orV ?_ | refine a_notV ?_ | refine a_ifx ?_ | refine a_chain ?_
  | refine a_nT ?_ | refine a_nF ?_ | refine a_fld ?_ | refine a_getF ?_ | refine a_T ?_ | refine a_F ?_ | refine a_tup ?_ | refine a_lst ?_ | refine a_sub ?_ | refine a_augS ?_ | refine a_two ?_ | refine a_I0 ?_ | refine a_U ?_ | refine n_add ?_ | refine n_int ?_ | refine n_ib ?_ | refine a_ip ?_ | refine a_rng1 ?_ | refine a_rng2 ?_ | refine a_bm ?_ | refine a_abs ?_ | refine a_pairs ?_ | refine a_pairs0 ?_ | refine a_bk ?_ | refine a_prp ?_ | refine a_lc ?_ | refine a_yes ?_ | refine a_sl ?_ | refine a_nop ?_ | refine a_prt ?_ | refine a_ex1 ?_ | refine a_for ?_ | refine a_sfor ?_ | refine a_iE1 ?_ | refine a_iEs ?_ | refine a_iEz ?_ | refine a_iEnum ?_ | refine a_iTup ?_ | refine a_iList ?_ | refine a_gcons ?_ | refine a_gnil ?_ | refine a_revT ?_ | refine a_spar3 ?_ | refine a_par3 ?_ | refine a_three ?_)
local macro_rules | `(tactic| walk_at "el2") => `(tactic| first
  | (refine a_var (by rfl) ?_)
  | (refine n_ixL (SqL.of (by assumption)) (by rfl) ?_) | (refine n_ixT (SqT.of (by assumption)) (by rfl) ?_) | (refine n_eq (by rfl) ?_) | (refine n_ne (by rfl) ?_)
  | (refine n_isN ?_) | (refine n_notN ?_) | (refine n_isB ?_) | (refine n_notB ?_) | (refine n_isBI ?_) | (refine n_notBI ?_) | (refine n_len (.inl (SqL.of (by assumption))) ?_) | (refine n_len (.inr (SqT.of (by assumption))) ?_)
  | (refine a_getL (SqL.of (by assumption)) (by rfl) ?_)
  | (refine n_isInt (by assumption) ?_) | (refine n_isBool (by assumption) ?_) | (refine n_isStr (by assumption) ?_) | (refine n_isTup (by assumption) ?_) | (refine n_isLst (by assumption) ?_))
local macro_rules | `(tactic| walk_at "el") => `(tactic| repeat (first | walk_at "el1" | walk_at "el2"))

/-! ### numbers, kinds, parts as a law draws them -/
def spNum : Sp := fun vs H Q _ => ∃ b c, vs = [.ref b] ∧ Bag H b c ∧ ∀ (r : Int) H', -1000000000000 ≤ r → r ≤ 1000000000000 → Bag H' b c → Kp b H H' → Q (.int r) H'
def spKnd : Sp := fun vs H Q _ => ∃ b c, vs = [.ref b] ∧ Bag H b c ∧ ∀ (s : Str) H', s = "early" ∨ s = "late" → Bag H' b c → Kp b H H' → Q (.str s) H'
/-- the lists of four parts, new since H0 -/
structure PSt (b c p : Addr) (l : Pt → Addr) (H0 : Hp) : Prop where
  inj : ∀ t u, t ≠ u → l t ≠ l u
  lb : ∀ t, l t ≠ b
  lc : ∀ t, l t ≠ c
  pl : ∀ t, p ≠ l t
  pb : p ≠ b
  fl : ∀ t, H0 (l t) = none
  fp : H0 p = none
/-- no number in an item is near the end of the numbers -/
def Below (H : Hp) (x : V) : Prop := ∀ (q : Addr) (ys : List V) (n : Int), x = .ref q → H q = some (.tup ys) → V.int n ∈ ys → -10000000000000 ≤ n ∧ n ≤ 10000000000000
/-- the number of a gap is small -/
def GapSm (H : Hp) (x : V) : Prop := ∀ (q : Addr) (a e : V) (n : Int), x = .ref q → H q = some (.tup [a, e, .int n]) → -4 ≤ n ∧ n ≤ 4
structure PIv (b c p : Addr) (l : Pt → Addr) (H0 H : Hp) (ev wi : Int) (xs : Pt → List V) : Prop where
  bag : Bag H b c
  kp : Kp b H0 H
  hp : H p = some (.lst [.ref (l .tel), .ref (l .gap), .ref (l .sur), .ref (l .cla)])
  hl : ∀ t, H (l t) = some (.lst (xs t))
  it : ∀ t, ∀ x ∈ xs t, ItemOk t H x ev wi
  nb : ∀ t, ∀ x ∈ xs t, Below H x
  ng : ∀ x ∈ xs .gap, GapSm H x
theorem GapSm.of {H H' : Hp} {x : V} (h : GapSm H x) (hi : ∃ a ys, x = .ref a ∧ H a = some (.tup ys) ∧ H' a = some (.tup ys)) : GapSm H' x := fun q a e n ex hq => by
  obtain ⟨a', zs, ex', h1, h2⟩ := hi
  cases (ex'.symm.trans ex)
  rw [h2] at hq
  cases hq
  exact h _ _ _ n ex h1
theorem gapsm3 {H : Hp} {q : Addr} {a e x : Int} (hx : -4 ≤ x ∧ x ≤ 4) : GapSm (upd H q (.tup [.int a, .int e, .int x])) (.ref q) := fun q' a' e' n e hq => by
  cases e
  rw [upd_same] at hq
  cases hq
  exact hx
theorem Below.of {H H' : Hp} {x : V} (h : Below H x) (hi : ∃ a ys, x = .ref a ∧ H a = some (.tup ys) ∧ H' a = some (.tup ys)) : Below H' x := fun q ys n e hq hn => by
  obtain ⟨a, zs, ex, h1, h2⟩ := hi
  cases (ex.symm.trans e)
  rw [h2] at hq
  cases hq
  exact h _ _ n e h1 hn
theorem below_tup {H : Hp} {q : Addr} {ys : List V} (hq : H q = some (.tup ys)) (h : ∀ n, V.int n ∈ ys → -10000000000000 ≤ n ∧ n ≤ 10000000000000) : Below H (.ref q) := fun q' zs n e hq' hn => by
  cases e
  rw [hq] at hq'
  cases hq'
  exact h n hn
theorem below3 {H : Hp} {q : Addr} {a e x : Int} (ha : 0 ≤ a ∧ a ≤ 8) (he : 0 ≤ e ∧ e ≤ 8) (hx : -10000000000000 ≤ x ∧ x ≤ 10000000000000) : Below (upd H q (.tup [.int a, .int e, .int x])) (.ref q) := below_tup upd_same fun n hn => by
  rcases List.mem_cons.mp hn with z | hn
  · cases z; omega
  rcases List.mem_cons.mp hn with z | hn
  · cases z; omega
  cases List.mem_singleton.mp hn
  exact hx
theorem belowS {H : Hp} {q : Addr} {a x : Int} {s : Str} (ha : 0 ≤ a ∧ a ≤ 8) (hx : -10000000000000 ≤ x ∧ x ≤ 10000000000000) : Below (upd H q (.tup [.int a, .str s, .int x])) (.ref q) := below_tup upd_same fun n hn => by
  rcases List.mem_cons.mp hn with z | hn
  · cases z; omega
  rcases List.mem_cons.mp hn with z | hn
  · cases z
  cases List.mem_singleton.mp hn
  exact hx
theorem belowC {H : Hp} {q : Addr} {a v : Int} {s r : Str} (ha : 0 ≤ a ∧ a ≤ 8) (hv : 0 ≤ v ∧ v ≤ 8) : Below (upd H q (.tup [.int a, .str s, .int v, .str r])) (.ref q) := below_tup upd_same fun n hn => by
  rcases List.mem_cons.mp hn with z | hn
  · cases z; omega
  rcases List.mem_cons.mp hn with z | hn
  · cases z
  rcases List.mem_cons.mp hn with z | hn
  · cases z; omega
  cases List.mem_singleton.mp hn
theorem ItemOk.kp {t : Pt} {b c : Addr} {H H' : Hp} {x : V} {ev wi : Int} (h : ItemOk t H x ev wi) (hb : Bag H b c) (k : Kp b H H') : ItemOk t H' x ev wi := by
  obtain ⟨a, xs, rfl, ha, hl, hs⟩ := h
  refine ⟨a, xs, rfl, k _ _ (fun z => ?_) ha, hl, hs⟩
  subst z
  obtain ⟨_, _, _, _, q, _⟩ := hb
  rw [q] at ha
  cases ha
theorem ItemOk.lst {t : Pt} {a : Addr} {ys zs : List V} {H : Hp} {x : V} {ev wi : Int} (h : ItemOk t H x ev wi) (hb : H a = some (.lst ys)) : ItemOk t (upd H a (.lst zs)) x ev wi := by
  obtain ⟨c, xs, rfl, ha, hl, hs⟩ := h
  refine ⟨c, xs, rfl, ?_, hl, hs⟩
  rw [upd_ne (fun z => by subst z; rw [hb] at ha; cases ha)]
  exact ha
theorem PIv.kp' {b c p : Addr} {l : Pt → Addr} {H0 H H' : Hp} {ev wi : Int} {xs : Pt → List V} (S : PSt b c p l H0) (h : PIv b c p l H0 H ev wi xs) (hb : Bag H' b c) (k : Kp b H H') : PIv b c p l H0 H' ev wi xs :=
  ⟨hb, h.kp.trans k, k _ _ S.pb h.hp, fun t => k _ _ (S.lb t) (h.hl t), fun t x hx => (h.it t x hx).kp h.bag k, fun t x hx => (h.nb t x hx).of (by
    obtain ⟨a, ys, e, ha, _, _⟩ := h.it t x hx
    refine ⟨a, ys, e, ha, k _ _ (fun z => ?_) ha⟩
    subst z
    obtain ⟨_, _, _, _, q, _⟩ := h.bag
    rw [q] at ha
    cases ha), fun x hx => (h.ng x hx).of (by
    obtain ⟨a, ys, e, ha, _, _⟩ := h.it .gap x hx
    refine ⟨a, ys, e, ha, k _ _ (fun z => ?_) ha⟩
    subst z
    obtain ⟨_, _, _, _, q, _⟩ := h.bag
    rw [q] at ha
    cases ha)⟩
theorem PIv.nw {b c p : Addr} {l : Pt → Addr} {H0 H H' : Hp} {ev wi : Int} {xs : Pt → List V} (S : PSt b c p l H0) (h : PIv b c p l H0 H ev wi xs) (s : Same H H') : PIv b c p l H0 H' ev wi xs := h.kp' S (h.bag.same s) (same_kp s)
def setP (xs : Pt → List V) (t : Pt) (ys : List V) : Pt → List V := fun u => if u = t then ys else xs u
theorem setP_at {xs : Pt → List V} {t : Pt} {ys : List V} : setP xs t ys t = ys := if_pos rfl
theorem setP_ne {xs : Pt → List V} {t u : Pt} {ys : List V} (h : u ≠ t) : setP xs t ys u = xs u := if_neg h
theorem PIv.app {b c p : Addr} {l : Pt → Addr} {H0 H : Hp} {ev wi : Int} {xs : Pt → List V} (S : PSt b c p l H0) (h : PIv b c p l H0 H ev wi xs) (t : Pt) {x : V} (hx : ItemOk t H x ev wi) (hn : Below H x) (hg : t = .gap → GapSm H x) : PIv b c p l H0 (upd H (l t) (.lst (xs t ++ [x]))) ev wi (setP xs t (xs t ++ [x])) := by
  refine ⟨?_, h.kp.mut (S.fl t), by rw [upd_ne (S.pl t)]; exact h.hp, fun u => ?_, fun u y hy => ?_, fun u y hy => ?_, fun y hy => ?_⟩
  · obtain ⟨i, j, n, cs, h1, h2, r⟩ := h.bag
    exact ⟨i, j, n, cs, by rw [upd_ne (S.lb t).symm]; exact h1, by rw [upd_ne (S.lc t).symm]; exact h2, r⟩
  · by_cases e : u = t
    · subst e
      rw [upd_same, setP_at]
    · rw [upd_ne (S.inj u t e), setP_ne e]
      exact h.hl u
  · by_cases e : u = t
    · subst e
      rw [setP_at] at hy
      rcases List.mem_append.mp hy with q | q
      · exact (h.it u y q).lst (h.hl u)
      · cases List.mem_singleton.mp q
        exact hx.lst (h.hl u)
    · rw [setP_ne e] at hy
      exact (h.it u y hy).lst (h.hl t)
  · have mv : ∀ {v : V} {w : Pt}, ItemOk w H v ev wi → Below H v → Below (upd H (l t) (.lst (xs t ++ [x]))) v := fun {v w} hi hb => hb.of (by
      obtain ⟨a, ys, e, ha, _, _⟩ := hi
      refine ⟨a, ys, e, ha, ?_⟩
      rw [upd_ne (fun z => by rw [z, h.hl t] at ha; cases ha)]
      exact ha)
    by_cases e : u = t
    · subst e
      rw [setP_at] at hy
      rcases List.mem_append.mp hy with q | q
      · exact mv (h.it u y q) (h.nb u y q)
      · cases List.mem_singleton.mp q
        exact mv hx hn
    · rw [setP_ne e] at hy
      exact mv (h.it u y hy) (h.nb u y hy)
  · have mv : ∀ {v : V} {w : Pt}, ItemOk w H v ev wi → GapSm H v → GapSm (upd H (l t) (.lst (xs t ++ [x]))) v := fun {v w} hi hb => hb.of (by
      obtain ⟨a, ys, e, ha, _, _⟩ := hi
      refine ⟨a, ys, e, ha, ?_⟩
      rw [upd_ne (fun z => by rw [z, h.hl t] at ha; cases ha)]
      exact ha)
    by_cases e : Pt.gap = t
    · subst e
      rw [setP_at] at hy
      rcases List.mem_append.mp hy with q | q
      · exact mv (h.it .gap y q) (h.ng y q)
      · cases List.mem_singleton.mp q
        exact mv hx (hg rfl)
    · rw [setP_ne e] at hy
      exact mv (h.it .gap y hy) (h.ng y hy)
def spParts : Sp := fun vs H Q _ => ∃ (ev wi most : Int) (b c : Addr), vs = [.ref b, .int ev, .int wi, .int most] ∧ Bag H b c ∧ 0 ≤ ev ∧ ev ≤ 8 ∧ 0 ≤ wi ∧ wi ≤ 8 ∧ 0 ≤ most ∧ most ≤ 1000 ∧
  ∀ p l H' xs, PSt b c p l H → PIv b c p l H H' ev wi xs → ((xs .tel).length : Int) ≤ most → ((xs .gap).length : Int) ≤ most / 2 + 1 → (xs .sur).length ≤ 3 → (xs .cla).length ≤ 3 → Q (.ref p) H'
def lOf (l0 l1 l2 l3 : Addr) : Pt → Addr | .tel => l0 | .gap => l1 | .sur => l2 | .cla => l3
theorem parts_start {b c l0 l1 l2 l3 p : Addr} {H : Hp} {ev wi : Int} (hb : Bag H b c) (h0 : H l0 = none) (h1 : upd H l0 (.lst []) l1 = none) (h2 : upd (upd H l0 (.lst [])) l1 (.lst []) l2 = none) (h3 : upd (upd (upd H l0 (.lst [])) l1 (.lst [])) l2 (.lst []) l3 = none)
    (hp : upd (upd (upd (upd H l0 (.lst [])) l1 (.lst [])) l2 (.lst [])) l3 (.lst []) p = none) :
    PSt b c p (lOf l0 l1 l2 l3) H ∧ PIv b c p (lOf l0 l1 l2 l3) H (upd (upd (upd (upd (upd H l0 (.lst [])) l1 (.lst [])) l2 (.lst [])) l3 (.lst [])) p (.lst [.ref l0, .ref l1, .ref l2, .ref l3])) ev wi (fun _ => []) := by
  obtain ⟨n10, h1⟩ := nn h1
  obtain ⟨n21, h2⟩ := nn h2
  obtain ⟨n20, h2⟩ := nn h2
  obtain ⟨n32, h3⟩ := nn h3
  obtain ⟨n31, h3⟩ := nn h3
  obtain ⟨n30, h3⟩ := nn h3
  obtain ⟨m3, hp⟩ := nn hp
  obtain ⟨m2, hp⟩ := nn hp
  obtain ⟨m1, hp⟩ := nn hp
  obtain ⟨m0, hp⟩ := nn hp
  have hc : ∀ q, H q = none → q ≠ c := fun q h z => by
    obtain ⟨_, _, _, _, _, w, _⟩ := hb
    subst z
    rw [w] at h
    cases h
  refine ⟨⟨?_, ?_, ?_, ?_, hb.ne hp, ?_, hp⟩, ⟨?_, ?_, upd_same, ?_, fun t x h => (nomatch h), fun t x h => (nomatch h), fun x h => (nomatch h)⟩⟩
  · intro t u h
    cases t <;> cases u <;> first | exact absurd rfl h | assumption | exact Ne.symm (by assumption)
  · intro t
    cases t
    · exact hb.ne h0
    · exact hb.ne h1
    · exact hb.ne h2
    · exact hb.ne h3
  · intro t
    cases t
    · exact hc _ h0
    · exact hc _ h1
    · exact hc _ h2
    · exact hc _ h3
  · intro t
    cases t <;> assumption
  · intro t
    cases t <;> assumption
  · obtain ⟨i, j, n, cs, w1, w2, r⟩ := hb
    have q : ∀ a o, H a = some o → upd (upd (upd (upd (upd H l0 (.lst [])) l1 (.lst [])) l2 (.lst [])) l3 (.lst [])) p (.lst [.ref l0, .ref l1, .ref l2, .ref l3]) a = some o := fun a o h => by
      rw [upd_ne (ne_of_none h hp), upd_ne (ne_of_none h h3), upd_ne (ne_of_none h h2), upd_ne (ne_of_none h h1), upd_ne (ne_of_none h h0)]
      exact h
    exact ⟨i, j, n, cs, q _ _ w1, q _ _ w2, r⟩
  · intro a o _ h
    rw [upd_ne (ne_of_none h hp), upd_ne (ne_of_none h h3), upd_ne (ne_of_none h h2), upd_ne (ne_of_none h h1), upd_ne (ne_of_none h h0)]
    exact h
  · intro t
    cases t
    · show upd _ _ _ l0 = _
      rw [upd_ne m0.symm, upd_ne n30.symm, upd_ne n20.symm, upd_ne n10.symm, upd_same]
    · show upd _ _ _ l1 = _
      rw [upd_ne m1.symm, upd_ne n31.symm, upd_ne n21.symm, upd_same]
    · show upd _ _ _ l2 = _
      rw [upd_ne m2.symm, upd_ne n32.symm, upd_same]
    · show upd _ _ _ l3 = _
      rw [upd_ne m3.symm, upd_same]
theorem stands3 {p : Pt} {x0 x1 x2 : V} {w0 w1 w2 : Str} {ev wi : Int} (hf : p.form = [w0, w1, w2]) (h0 : standB w0 [x0, x1, x2] 0 x0 ev wi = true) (h1 : standB w1 [x0, x1, x2] 1 x1 ev wi = true) (h2 : standB w2 [x0, x1, x2] 2 x2 ev wi = true) : StandsTo p [x0, x1, x2] ev wi p.form.length := by
  intro j hj wd x hw hx
  rw [hf] at hw hj
  rcases j with _ | _ | _ | j
  · cases hw; cases hx; exact h0
  · cases hw; cases hx; exact h1
  · cases hw; cases hx; exact h2
  · simp only [List.length_cons, List.length_nil] at hj; omega
theorem num_true {i : Int} (h0 : -1000000000000000 ≤ i) (h1 : i ≤ 1000000000000000) : numB (.int i) = true := by
  show (decide _ && decide _) = true
  rw [decide_eq_true h0, decide_eq_true h1]
  rfl
section
variable {xs : List V} {i : Nat} {x : V} {ev wi : Int}
theorem st_w : standB "witness" xs i x ev wi = belowB x wi := by unfold standB; rw [if_pos rfl]
theorem st_e : standB "event" xs i x ev wi = belowB x ev := by unfold standB; rw [if_neg (by decide), if_pos rfl]
theorem st_a : standB "another event" xs i x ev wi = (belowB x ev && !decide (some x = xs[i - 1]?)) := by unfold standB; rw [if_neg (by decide), if_neg (by decide), if_pos rfl]
theorem st_s : standB "side" xs i x ev wi = sideB x := by unfold standB; rw [if_neg (by decide), if_neg (by decide), if_neg (by decide), if_pos rfl]
theorem st_k : standB "kind" xs i x ev wi = kindB x := by unfold standB; rw [if_neg (by decide), if_neg (by decide), if_neg (by decide), if_neg (by decide), if_pos rfl]
theorem st_n : standB "number" xs i x ev wi = numB x := by unfold standB; rw [if_neg (by decide), if_neg (by decide), if_neg (by decide), if_neg (by decide), if_neg (by decide)]
end
theorem item_tel {H : Hp} {q : Addr} {ev wi a e x : Int} (h : H q = some (.tup [.int a, .int e, .int x])) (a0 : 0 ≤ a) (a1 : a < wi) (e0 : 0 ≤ e) (e1 : e < ev) (x0 : -1000000000000000 ≤ x) (x1 : x ≤ 1000000000000000) : ItemOk .tel H (.ref q) ev wi :=
  ⟨q, _, rfl, h, rfl, stands3 rfl (st_w.trans (below_true a0 a1)) (st_e.trans (below_true e0 e1)) (st_n.trans (num_true x0 x1))⟩
theorem item_gap {H : Hp} {q : Addr} {ev wi a e x : Int} (h : H q = some (.tup [.int a, .int e, .int x])) (a0 : 0 ≤ a) (a1 : a < ev) (e0 : 0 ≤ e) (e1 : e < ev) (ne : e ≠ a) (x0 : -1000000000000000 ≤ x) (x1 : x ≤ 1000000000000000) : ItemOk .gap H (.ref q) ev wi :=
  ⟨q, _, rfl, h, rfl, stands3 rfl (st_e.trans (below_true a0 a1)) (st_a.trans (by
    rw [below_true e0 e1, Bool.true_and, decide_eq_false]
    · rfl
    · intro z
      cases z
      exact ne rfl)) (st_n.trans (num_true x0 x1))⟩
theorem item_sur {H : Hp} {q : Addr} {ev wi a x : Int} {s : Str} (h : H q = some (.tup [.int a, .str s, .int x])) (a0 : 0 ≤ a) (a1 : a < ev) (hs : s = "least" ∨ s = "most") (x0 : -1000000000000000 ≤ x) (x1 : x ≤ 1000000000000000) : ItemOk .sur H (.ref q) ev wi :=
  ⟨q, _, rfl, h, rfl, stands3 rfl (st_e.trans (below_true a0 a1)) (st_s.trans (by rcases hs with rfl | rfl <;> decide)) (st_n.trans (num_true x0 x1))⟩
theorem item_cla {H : Hp} {q : Addr} {ev wi a v : Int} {s r : Str} (h : H q = some (.tup [.int a, .str s, .int v, .str r])) (a0 : 0 ≤ a) (a1 : a < wi) (hs : s = "early" ∨ s = "late") (v0 : 0 ≤ v) (v1 : v < wi) (hr : r = "early" ∨ r = "late") : ItemOk .cla H (.ref q) ev wi := by
  refine ⟨q, _, rfl, h, rfl, ?_⟩
  intro j hj wd x hw hx
  rcases j with _ | _ | _ | _ | j
  · cases hw; cases hx; exact st_w.trans (below_true a0 a1)
  · cases hw; cases hx; exact st_k.trans (by rcases hs with rfl | rfl <;> decide)
  · cases hw; cases hx; exact st_w.trans (below_true v0 v1)
  · cases hw; cases hx; exact st_k.trans (by rcases hr with rfl | rfl <;> decide)
  · exact absurd hj (by show ¬ (j + 1 + 1 + 1 + 1 < 4); omega)
theorem gap_ne {a t ev : Int} (a0 : 0 ≤ a) (a1 : a < ev) (t0 : 0 ≤ t) (t1 : t < ev - 1) (e8 : ev ≤ 8) : (a + 1 + t) % ev ≠ a := by
  have h : ev = 2 ∨ ev = 3 ∨ ev = 4 ∨ ev = 5 ∨ ev = 6 ∨ ev = 7 ∨ ev = 8 := by omega
  rcases h with rfl | rfl | rfl | rfl | rfl | rfl | rfl <;> omega
theorem pos2 {x y : Int} (x0 : 0 ≤ x) (y0 : 0 ≤ y) (h : 0 < x * y) : 0 < x ∧ 0 < y := by
  constructor
  · rcases Int.lt_or_eq_of_le x0 with q | q
    · exact q
    · rw [← q, Int.zero_mul] at h; omega
  · rcases Int.lt_or_eq_of_le y0 with q | q
    · exact q
    · rw [← q, Int.mul_zero] at h; omega
theorem size1k {n : Nat} (h : n ≤ 1001) : n < sizeLine := Nat.lt_of_le_of_lt h (by decide)
theorem mul8 {x y : Int} (x0 : 0 ≤ x) (x8 : x ≤ 8) (y0 : 0 ≤ y) (y8 : y ≤ 8) : CMul x y := .inl ⟨by omega, by omega⟩
theorem cnt01 {r : Int} {p : Prop} [Decidable p] (h0 : 0 ≤ r) : 0 ≤ r * (if decide p = true then 1 else 0) ∧ r * (if decide p = true then 1 else 0) ≤ r ∧ (0 < r * (if decide p = true then 1 else 0) → p) := by
  by_cases h : p
  · rw [if_pos (decide_eq_true h)]
    exact ⟨by omega, by omega, fun _ => h⟩
  · rw [if_neg (by rw [decide_eq_false h]; exact Bool.false_ne_true)]
    exact ⟨by omega, by omega, fun z => absurd z (by omega)⟩
section
variable {P : Program} {w : World} {K : Frag} {mg : Str → Option Value} {base : Heap} {f : Addr} {fd : FuncData}
theorem ok_number (F : Fun K "_law_number" "_law_number" s_number f fd) (T : Tb mg) (c_take : Cal P w K mg base CX0 1 "_law_take" ["_law_bag_here", "_law_many"] spTake) : FnOk P w K mg base CX0 2 f fd ["_law_bag_here"] spNum := by
  refine F.ok sc_number (fun vs H Q E h => ?_) (fun cdv A outer s H vs Q E hr h => ?_)
  · obtain ⟨_, _, rfl, _⟩ := h
    rfl
  · obtain ⟨b, c, rfl, hb, k⟩ := h
    refine ⟨_, (pss_cons (ps_par (i := 1) (j := 2) rfl sc_number.nd rfl rfl (by decide) rfl rfl (pa_cons (pe_cal c_take (hr.mono (by decide)) pass0 (pa_cons (pv 0) (pa_cons pe_int pa_nil))) (pa_cons (pe_op op_sub (pe_cal c_take (hr.mono (by decide)) pass0 (pa_cons (pv 0) (pa_cons pe_int pa_nil))) pe_int) pa_nil)) (by with_unfolding_all rfl))
  (pss_cons (ps_if (pt_cmpR op_lt (pv 1) pe_int (nomark _))
    (pss_one (ps_ret (pv 2)))
    pss_nil)
  (pss_one (ps_ret (pe_ifExp (pt_cmpR (u_eq hr.units) (pv 1) pe_int (nomark _)) (pe_op u_add pe_int (pv 2)) (pe_op op_sub (pv 2) pe_int)))))), ?_⟩
    walk_at "el"
    refine ⟨b, c, 10, rfl, hb, by decide, by decide, fun r1 H1 _ _ hb1 k1 => ?_⟩
    walk_at "el"
    refine ⟨b, c, 12, rfl, hb1, by decide, by decide, fun r2 H2 _ _ hb2 k2 => ?_⟩
    have k12 := k1.trans k2
    walk_at "el"
    refine ite2 (fun h0 => ?_) (fun h0 => ?_)
    · walk_at "el"
      exact k _ _ (by omega) (by omega) hb2 k12
    · walk_at "el"
      refine ite2 (fun h0 => ?_) (fun h0 => ?_)
      · walk_at "el"
        exact k _ _ (by omega) (by omega) hb2 k12
      · walk_at "el"
        exact k _ _ (by omega) (by omega) hb2 k12
theorem ok_kind (F : Fun K "_law_kind" "_law_kind" s_kind f fd) (T : Tb mg) (c_take : Cal P w K mg base CX0 1 "_law_take" ["_law_bag_here", "_law_many"] spTake) : FnOk P w K mg base CX0 2 f fd ["_law_bag_here"] spKnd := by
  refine F.ok sc_kind (fun vs H Q E h => ?_) (fun cdv A outer s H vs Q E hr h => ?_)
  · obtain ⟨_, _, rfl, _⟩ := h
    rfl
  · obtain ⟨b, c, rfl, hb, k⟩ := h
    refine ⟨_, (pss_one (ps_ret (pe_ix ix_seq (pe_lst (pa_cons pe_str (pa_cons pe_str pa_nil))) (pe_cal c_take (hr.mono (by decide)) pass0 (pa_cons (pv 0) (pa_cons pe_int pa_nil))) (fun _ _ => rfl)))), ?_⟩
    walk_at "el"
    refine ⟨by decide, fun p hp => ?_⟩
    have e1 := nw_of hp
    have n1 := hb.ne hp
    walk_at "el"
    refine ⟨b, c, 2, rfl, hb.same (e1 _), by decide, by decide, fun r1 H1 r0 r2 hb1 k1 => ?_⟩
    have hp1 := k1 _ _ n1 upd_same
    have r3 : r1 = 0 ∨ r1 = 1 := by omega
    have kF : Kp b H H1 := Kp.into k1 (e1 _)
    rcases r3 with rfl | rfl
    · walk_at "el"
      exact k _ _ (.inl rfl) hb1 kF
    · walk_at "el"
      exact k _ _ (.inr rfl) hb1 kF
theorem ok_parts (F : Fun K "_law_parts" "_law_parts" s_parts f fd) (T : Tb mg) (c_take : Cal P w K mg base CX0 1 "_law_take" ["_law_bag_here", "_law_many"] spTake) (c_number : Cal P w K mg base CX0 2 "_law_number" ["_law_bag_here"] spNum) (c_kind : Cal P w K mg base CX0 2 "_law_kind" ["_law_bag_here"] spKnd) : FnOk P w K mg base CX0 3 f fd ["_law_bag_here", "_law_events", "_law_witnesses", "_law_most"] spParts := by
  refine F.ok sc_parts (fun vs H Q E h => ?_) (fun cdv A outer s H vs Q E hr h => ?_)
  · obtain ⟨_, _, _, _, _, rfl, _⟩ := h
    rfl
  · obtain ⟨ev, wi, most, b, c, rfl, hb, ev0, ev8, wi0, wi8, m0, m1, k⟩ := h
    refine ⟨_, (pss_cons (ps_set (i := 4) sc_parts.nd rfl (Or.inl rfl) (pe_lst (pa_cons (pe_lst pa_nil) (pa_cons (pe_lst pa_nil) (pa_cons (pe_lst pa_nil) (pa_cons (pe_lst pa_nil) pa_nil))))))
  (pss_cons (ps_for PassesOwn.never rfl (pi_range1 rfl T.b.range_ (pa_cons (pe_op u_mul (pe_cal c_take (hr.mono (by decide)) pass0 (pa_cons (pv 0) (pa_cons (pe_op u_add (pv 3) pe_int) pa_nil))) (pe_callTy u_int rfl T.b.int_ (by decide +kernel) (pa_cons (pe_cmpR op_gt (pe_op u_mul (pv 1) (pv 2)) pe_int (nomark _)) pa_nil))) pa_nil)) (pg_name (i := 5) sc_parts.nd rfl (Or.inl rfl))
    (pss_one (ps_expr (pe_bm PySem.F.plainAttrs_list PySem.F.slot_list_append PySem.F.type_list_append mt_append (pe_ix ix_seq (pv 4) pe_int (fun _ _ => rfl)) (pa_cons (pe_tup (pa_cons (pe_cal c_take (hr.mono (by decide)) pass0 (pa_cons (pv 0) (pa_cons (pv 2) pa_nil))) (pa_cons (pe_cal c_take (hr.mono (by decide)) pass0 (pa_cons (pv 0) (pa_cons (pv 1) pa_nil))) (pa_cons (pe_cal c_number (hr.mono (by decide)) pass0 (pa_cons (pv 0) pa_nil)) pa_nil)))) pa_nil)))))
  (pss_cons (ps_for PassesOwn.never rfl (pi_range1 rfl T.b.range_ (pa_cons (pe_op u_mul (pe_cal c_take (hr.mono (by decide)) pass0 (pa_cons (pv 0) (pa_cons (pe_op u_add (pe_op op_fdiv (pv 3) pe_int) pe_int) pa_nil))) (pe_callTy u_int rfl T.b.int_ (by decide +kernel) (pa_cons (pe_cmpR op_gt (pv 1) pe_int (nomark _)) pa_nil))) pa_nil)) (pg_name (i := 5) sc_parts.nd rfl (Or.inl rfl))
    (pss_cons (ps_set (i := 6) sc_parts.nd rfl (Or.inl rfl) (pe_cal c_take (hr.mono (by decide)) pass0 (pa_cons (pv 0) (pa_cons (pv 1) pa_nil))))
  (pss_one (ps_expr (pe_bm PySem.F.plainAttrs_list PySem.F.slot_list_append PySem.F.type_list_append mt_append (pe_ix ix_seq (pv 4) pe_int (fun _ _ => rfl)) (pa_cons (pe_tup (pa_cons (pv 6) (pa_cons (pe_op op_mod (pe_callTy u_int rfl T.b.int_ (by decide +kernel) (pa_cons (pe_op u_add (pe_op u_add (pv 6) pe_int) (pe_cal c_take (hr.mono (by decide)) pass0 (pa_cons (pv 0) (pa_cons (pe_op op_sub (pv 1) pe_int) pa_nil)))) pa_nil)) (pv 1)) (pa_cons (pe_op op_sub (pe_cal c_take (hr.mono (by decide)) pass0 (pa_cons (pv 0) (pa_cons pe_int pa_nil))) pe_int) pa_nil)))) pa_nil))))))
  (pss_cons (ps_for PassesOwn.never rfl (pi_range1 rfl T.b.range_ (pa_cons (pe_op u_mul (pe_cal c_take (hr.mono (by decide)) pass0 (pa_cons (pv 0) (pa_cons pe_int pa_nil))) (pe_callTy u_int rfl T.b.int_ (by decide +kernel) (pa_cons (pe_cmpR op_gt (pv 1) pe_int (nomark _)) pa_nil))) pa_nil)) (pg_name (i := 5) sc_parts.nd rfl (Or.inl rfl))
    (pss_one (ps_expr (pe_bm PySem.F.plainAttrs_list PySem.F.slot_list_append PySem.F.type_list_append mt_append (pe_ix ix_seq (pv 4) pe_int (fun _ _ => rfl)) (pa_cons (pe_tup (pa_cons (pe_cal c_take (hr.mono (by decide)) pass0 (pa_cons (pv 0) (pa_cons (pv 1) pa_nil))) (pa_cons (pe_ix ix_seq (pe_lst (pa_cons pe_str (pa_cons pe_str pa_nil))) (pe_cal c_take (hr.mono (by decide)) pass0 (pa_cons (pv 0) (pa_cons pe_int pa_nil))) (fun _ _ => rfl)) (pa_cons (pe_cal c_number (hr.mono (by decide)) pass0 (pa_cons (pv 0) pa_nil)) pa_nil)))) pa_nil)))))
  (pss_cons (ps_for PassesOwn.never rfl (pi_range1 rfl T.b.range_ (pa_cons (pe_op u_mul (pe_cal c_take (hr.mono (by decide)) pass0 (pa_cons (pv 0) (pa_cons pe_int pa_nil))) (pe_callTy u_int rfl T.b.int_ (by decide +kernel) (pa_cons (pe_cmpR op_gt (pv 2) pe_int (nomark _)) pa_nil))) pa_nil)) (pg_name (i := 5) sc_parts.nd rfl (Or.inl rfl))
    (pss_cons (ps_set (i := 7) sc_parts.nd rfl (Or.inl rfl) (pe_tup (pa_cons (pe_cal c_take (hr.mono (by decide)) pass0 (pa_cons (pv 0) (pa_cons (pv 2) pa_nil))) (pa_cons (pe_cal c_kind (hr.mono (by decide)) pass0 (pa_cons (pv 0) pa_nil)) (pa_cons (pe_cal c_take (hr.mono (by decide)) pass0 (pa_cons (pv 0) (pa_cons (pv 2) pa_nil))) (pa_cons (pe_cal c_kind (hr.mono (by decide)) pass0 (pa_cons (pv 0) pa_nil)) pa_nil))))))
  (pss_one (ps_expr (pe_bm PySem.F.plainAttrs_list PySem.F.slot_list_append PySem.F.type_list_append mt_append (pe_ix ix_seq (pv 4) pe_int (fun _ _ => rfl)) (pa_cons (pv 7) pa_nil))))))
  (pss_one (ps_ret (pv 4)))))))), ?_⟩
    walk_at "el"
    refine ⟨by decide, fun l0 hl0 => ?_⟩
    have e0 := nw_of hl0
    walk_at "el"
    refine ⟨by decide, fun l1 hl1 => ?_⟩
    have e1 := nw_of hl1
    walk_at "el"
    refine ⟨by decide, fun l2 hl2 => ?_⟩
    have e2 := nw_of hl2
    walk_at "el"
    refine ⟨by decide, fun l3 hl3 => ?_⟩
    have e3 := nw_of hl3
    walk_at "el"
    refine ⟨by show 4 ≤ sizeLine; decide, fun p hp => ?_⟩
    have e4 := nw_of hp
    obtain ⟨S, I0⟩ := parts_start (ev := ev) (wi := wi) hb hl0 hl1 hl2 hl3 hp
    generalize upd (upd (upd (upd (upd H l0 (.lst [])) l1 (.lst [])) l2 (.lst [])) l3 (.lst [])) p (.lst [.ref l0, .ref l1, .ref l2, .ref l3]) = Hs at I0 ⊢
    generalize lOf l0 l1 l2 l3 = l at S I0
    clear e0 e1 e2 e3 hl0 hl1 hl2 hl3 hp
    walk_at "el"
    refine ⟨b, c, _, rfl, I0.bag, by omega, by omega, fun r H1 r0 r1 hb1 k1 => ?_⟩
    have I1 := I0.kp' S hb1 k1
    clear I0 hb1 k1 hb
    walk_at "el"
    refine n_mul (mul8 ev0 ev8 wi0 wi8) ?_
    walk_at "el"
    refine n_mul (.inl ⟨by omega, by omega⟩) ?_
    walk_at "el"
    have q := cnt01 (p := 0 < ev * wi) r0
    generalize r * (if decide (0 < ev * wi) = true then 1 else 0) = j at q ⊢
    refine ⟨by omega, by omega, ?_⟩
    refine lp_range (fun i σ H2 => ∃ xs, PIv b c p l H H2 ev wi xs ∧ (xs .tel).length = i ∧ xs .gap = [] ∧ xs .sur = [] ∧ xs .cla = [] ∧ ∃ v5 v6 v7, σ = [some (.ref b), some (.int ev), some (.int wi), some (.int most), some (.ref p), v5, v6, v7]) ⟨_, I1, rfl, rfl, rfl, rfl, _, _, _, rfl⟩ ?_ ?_
    · rintro i σ H2 hi ⟨xs, I2, hl, g1, g2, g3, v5, v6, v7, rfl⟩
      obtain ⟨ev1, wi1⟩ := pos2 ev0 wi0 (q.2.2 (by omega))
      have hp2 := I2.hp
      walk_at "el"
      refine ⟨.inl ⟨rfl, _, SqL.of (I2.hl .tel)⟩, ?_⟩
      walk_at "el"
      refine ⟨b, c, wi, rfl, I2.bag, wi1, by omega, fun a H3 a0 a1 hb3 k3 => ?_⟩
      have I3 := I2.kp' S hb3 k3
      walk_at "el"
      refine ⟨b, c, ev, rfl, I3.bag, ev1, by omega, fun e H4 e0 e1 hb4 k4 => ?_⟩
      have I4 := I3.kp' S hb4 k4
      walk_at "el"
      refine ⟨b, c, rfl, I4.bag, fun x H5 x0 x1 hb5 k5 => ?_⟩
      have I5 := I4.kp' S hb5 k5
      walk_at "el"
      refine ⟨by show 3 ≤ sizeLine; decide, fun u hu => ?_⟩
      have I6 := I5.nw S (nw_of hu (.tup [.int a, .int e, .int x]))
      walk_at "el"
      refine ⟨l .tel, xs .tel, .ref u, rfl, rfl, I6.hl .tel, size1k (by omega), ?_⟩
      walk_at "el"
      exact ⟨_, I6.app S .tel (item_tel upd_same a0 a1 e0 e1 (by omega) (by omega)) (below3 (by omega) (by omega) (by omega)) (fun z => nomatch z), by rw [setP_at, List.length_append, hl]; rfl, by rw [setP_ne (by decide)]; exact g1, by rw [setP_ne (by decide)]; exact g2, by rw [setP_ne (by decide)]; exact g3, _, _, _, rfl⟩
    · rintro σ H2 ⟨xs, I2, hl, g1, g2, g3, v5, v6, v7, rfl⟩
      have htel : ((xs .tel).length : Int) ≤ most := by omega
      clear hl q r0 r1 I1
      walk_at "el"
      refine a_I ⟨by decide, by decide⟩ ?_
      walk_at "el"
      refine ⟨b, c, _, rfl, I2.bag, by omega, by omega, fun r H1 r0 r1 hb1 k1 => ?_⟩
      have I1 := I2.kp' S hb1 k1
      clear I2 hb1 k1
      walk_at "el"
      refine n_mul (.inl ⟨by omega, by omega⟩) ?_
      walk_at "el"
      have q := cnt01 (p := 1 < ev) r0
      generalize r * (if decide (1 < ev) = true then 1 else 0) = j at q ⊢
      refine ⟨by omega, by omega, ?_⟩
      refine lp_range (fun i σ H2 => ∃ xs, PIv b c p l H H2 ev wi xs ∧ ((xs .tel).length : Int) ≤ most ∧ (xs .gap).length = i ∧ xs .sur = [] ∧ xs .cla = [] ∧ ∃ v5 v6 v7, σ = [some (.ref b), some (.int ev), some (.int wi), some (.int most), some (.ref p), v5, v6, v7]) ⟨_, I1, htel, by rw [g1]; rfl, g2, g3, _, _, _, rfl⟩ ?_ ?_
      · clear htel g1 g2 g3 I1
        rintro i σ H2 hi ⟨xs, I2, g1, hl, g2, g3, v5, v6, v7, rfl⟩
        have ev1 := q.2.2 (by omega)
        walk_at "el"
        refine ⟨b, c, ev, rfl, I2.bag, by omega, by omega, fun a H3 a0 a1 hb3 k3 => ?_⟩
        have I3 := I2.kp' S hb3 k3
        have hp3 := I3.hp
        walk_at "el"
        refine ⟨.inl ⟨rfl, _, SqL.of (I3.hl .gap)⟩, ?_⟩
        walk_at "el"
        refine ⟨b, c, ev - 1, rfl, I3.bag, by omega, by omega, fun t H4 t0 t1 hb4 k4 => ?_⟩
        have I4 := I3.kp' S hb4 k4
        walk_at "el"
        refine a_I (by omega) ?_
        walk_at "el"
        refine ⟨b, c, 9, rfl, I4.bag, by decide, by decide, fun x H5 x0 x1 hb5 k5 => ?_⟩
        have I5 := I4.kp' S hb5 k5
        walk_at "el"
        refine ⟨by show 3 ≤ sizeLine; decide, fun u hu => ?_⟩
        have I6 := I5.nw S (nw_of hu (.tup [.int a, .int ((a + 1 + t) % ev), .int (x - 4)]))
        walk_at "el"
        refine ⟨l .gap, xs .gap, .ref u, rfl, rfl, I6.hl .gap, size1k (by omega), ?_⟩
        walk_at "el"
        exact ⟨_, I6.app S .gap (item_gap upd_same a0 a1 (Int.emod_nonneg _ (by omega)) (Int.emod_lt_of_pos _ (by omega)) (gap_ne a0 a1 t0 t1 ev8) (by omega) (by omega)) (below3 (by omega) ⟨Int.emod_nonneg _ (by omega), Int.le_trans (Int.le_of_lt (Int.emod_lt_of_pos _ (by omega))) ev8⟩ (by omega)) (fun _ => gapsm3 (by omega)), by rw [setP_ne (by decide)]; exact g1, by rw [setP_at, List.length_append, hl]; rfl, by rw [setP_ne (by decide)]; exact g2, by rw [setP_ne (by decide)]; exact g3, _, _, _, rfl⟩
      · clear htel g1 g2 g3 I1
        rintro σ H2 ⟨xs, I2, htel, hl, g2, g3, v5, v6, v7, rfl⟩
        have hgap : ((xs .gap).length : Int) ≤ most / 2 + 1 := by omega
        clear hl q r0 r1
        walk_at "el"
        refine ⟨b, c, 4, rfl, I2.bag, by omega, by omega, fun r H1 r0 r1 hb1 k1 => ?_⟩
        have I1 := I2.kp' S hb1 k1
        clear I2 hb1 k1
        walk_at "el"
        refine n_mul (.inl ⟨by omega, by omega⟩) ?_
        walk_at "el"
        have q := cnt01 (p := 0 < ev) r0
        generalize r * (if decide (0 < ev) = true then 1 else 0) = j at q ⊢
        refine ⟨by omega, by omega, ?_⟩
        refine lp_range (fun i σ H2 => ∃ xs, PIv b c p l H H2 ev wi xs ∧ ((xs .tel).length : Int) ≤ most ∧ ((xs .gap).length : Int) ≤ most / 2 + 1 ∧ (xs .sur).length = i ∧ xs .cla = [] ∧ ∃ v5 v6 v7, σ = [some (.ref b), some (.int ev), some (.int wi), some (.int most), some (.ref p), v5, v6, v7]) ⟨_, I1, htel, hgap, by rw [g2]; rfl, g3, _, _, _, rfl⟩ ?_ ?_
        · clear htel hgap g2 g3 I1
          rintro i σ H2 hi ⟨xs, I2, g1, g2, hl, g3, v5, v6, v7, rfl⟩
          have ev1 := q.2.2 (by omega)
          have hp2 := I2.hp
          walk_at "el"
          refine ⟨.inl ⟨rfl, _, SqL.of (I2.hl .sur)⟩, ?_⟩
          walk_at "el"
          refine ⟨b, c, ev, rfl, I2.bag, by omega, by omega, fun a H3 a0 a1 hb3 k3 => ?_⟩
          have I3 := I2.kp' S hb3 k3
          walk_at "el"
          refine ⟨by decide, fun w1 hw1 => ?_⟩
          have I4 := I3.nw S (nw_of hw1 (.lst [.str "least", .str "most"]))
          have nw1 := I3.bag.ne hw1
          walk_at "el"
          refine ⟨b, c, 2, rfl, I4.bag, by omega, by omega, fun t H4 t0 t1 hb4 k4 => ?_⟩
          have I5 := I4.kp' S hb4 k4
          have hw2 := k4 _ _ nw1 upd_same
          obtain ⟨sd, hsd, hss⟩ : ∃ sd : Str, atI [V.str "least", V.str "most"] t = some (.str sd) ∧ (sd = "least" ∨ sd = "most") := by
            have z : t = 0 ∨ t = 1 := by omega
            rcases z with rfl | rfl
            · exact ⟨_, rfl, .inl rfl⟩
            · exact ⟨_, rfl, .inr rfl⟩
          walk_at "el"
          refine n_ixL (SqL.of hw2) hsd ?_
          walk_at "el"
          refine ⟨b, c, rfl, I5.bag, fun x H6 x0 x1 hb6 k6 => ?_⟩
          have I6 := I5.kp' S hb6 k6
          walk_at "el"
          refine ⟨by show 3 ≤ sizeLine; decide, fun u hu => ?_⟩
          have I7 := I6.nw S (nw_of hu (.tup [.int a, .str sd, .int x]))
          walk_at "el"
          refine ⟨l .sur, xs .sur, .ref u, rfl, rfl, I7.hl .sur, size1k (by omega), ?_⟩
          walk_at "el"
          exact ⟨_, I7.app S .sur (item_sur upd_same a0 a1 hss (by omega) (by omega)) (belowS (by omega) (by omega)) (fun z => nomatch z), by rw [setP_ne (by decide)]; exact g1, by rw [setP_ne (by decide)]; exact g2, by rw [setP_at, List.length_append, hl]; rfl, by rw [setP_ne (by decide)]; exact g3, _, _, _, rfl⟩
        · clear htel hgap g2 g3 I1
          rintro σ H2 ⟨xs, I2, htel, hgap, hl, g3, v5, v6, v7, rfl⟩
          have hsur : (xs .sur).length ≤ 3 := by omega
          clear hl q r0 r1
          walk_at "el"
          refine ⟨b, c, 4, rfl, I2.bag, by omega, by omega, fun r H1 r0 r1 hb1 k1 => ?_⟩
          have I1 := I2.kp' S hb1 k1
          clear I2 hb1 k1
          walk_at "el"
          refine n_mul (.inl ⟨by omega, by omega⟩) ?_
          walk_at "el"
          have q := cnt01 (p := 0 < wi) r0
          generalize r * (if decide (0 < wi) = true then 1 else 0) = j at q ⊢
          refine ⟨by omega, by omega, ?_⟩
          refine lp_range (fun i σ H2 => ∃ xs, PIv b c p l H H2 ev wi xs ∧ ((xs .tel).length : Int) ≤ most ∧ ((xs .gap).length : Int) ≤ most / 2 + 1 ∧ (xs .sur).length ≤ 3 ∧ (xs .cla).length = i ∧ ∃ v5 v6 v7, σ = [some (.ref b), some (.int ev), some (.int wi), some (.int most), some (.ref p), v5, v6, v7]) ⟨_, I1, htel, hgap, hsur, by rw [g3]; rfl, _, _, _, rfl⟩ ?_ ?_
          · clear htel hgap hsur g3 I1
            rintro i σ H2 hi ⟨xs, I2, g1, g2, g3, hl, v5, v6, v7, rfl⟩
            have wi1 := q.2.2 (by omega)
            walk_at "el"
            refine ⟨b, c, wi, rfl, I2.bag, by omega, by omega, fun a H3 a0 a1 hb3 k3 => ?_⟩
            have I3 := I2.kp' S hb3 k3
            walk_at "el"
            refine ⟨b, c, rfl, I3.bag, fun s1 H4 hs1 hb4 k4 => ?_⟩
            have I4 := I3.kp' S hb4 k4
            walk_at "el"
            refine ⟨b, c, wi, rfl, I4.bag, by omega, by omega, fun v H5 v0 v1 hb5 k5 => ?_⟩
            have I5 := I4.kp' S hb5 k5
            walk_at "el"
            refine ⟨b, c, rfl, I5.bag, fun s2 H6 hs2 hb6 k6 => ?_⟩
            have I6 := I5.kp' S hb6 k6
            walk_at "el"
            refine ⟨by show 4 ≤ sizeLine; decide, fun u hu => ?_⟩
            have I7 := I6.nw S (nw_of hu (.tup [.int a, .str s1, .int v, .str s2]))
            have hp7 := I7.hp
            walk_at "el"
            refine ⟨.inl ⟨rfl, _, SqL.of (I7.hl .cla)⟩, ?_⟩
            walk_at "el"
            refine ⟨l .cla, xs .cla, .ref u, rfl, rfl, I7.hl .cla, size1k (by omega), ?_⟩
            walk_at "el"
            exact ⟨_, I7.app S .cla (item_cla upd_same a0 a1 hs1 v0 v1 hs2) (belowC (by omega) (by omega)) (fun z => nomatch z), by rw [setP_ne (by decide)]; exact g1, by rw [setP_ne (by decide)]; exact g2, by rw [setP_ne (by decide)]; exact g3, by rw [setP_at, List.length_append, hl]; rfl, _, _, _, rfl⟩
          · clear htel hgap hsur g3 I1
            rintro σ H2 ⟨xs, I2, htel, hgap, hsur, hl, v5, v6, v7, rfl⟩
            walk_at "el"
            exact k p l H2 xs S I2 htel hgap hsur (by omega)
end
end EL

/- part X -/
namespace EL
open PySem PySem.Spec PyProof.Rows L2
open PySem.W (Frag)
abbrev s_Wrong_init : Stmt := inClass (top 3) 0
abbrev N_Wrong_init : List Str := ["self", "place"]
theorem sc_Wrong_init : FnScope N_Wrong_init ["self", "place"] (defScope s_Wrong_init) := ⟨rfl, rfl, rfl, by decide +kernel, rfl, by decide +kernel, by decide +kernel⟩
abbrev s_BadItem_init : Stmt := inClass (top 4) 0
abbrev N_BadItem_init : List Str := ["self", "place", "index"]
theorem sc_BadItem_init : FnScope N_BadItem_init ["self", "place", "index"] (defScope s_BadItem_init) := ⟨rfl, rfl, rfl, by decide +kernel, rfl, by decide +kernel, by decide +kernel⟩
abbrev s_TooMany_init : Stmt := inClass (top 5) 0
abbrev N_TooMany_init : List Str := ["self", "limit"]
theorem sc_TooMany_init : FnScope N_TooMany_init ["self", "limit"] (defScope s_TooMany_init) := ⟨rfl, rfl, rfl, by decide +kernel, rfl, by decide +kernel, by decide +kernel⟩
local macro_rules | `(tactic| walk_at "el1") => `(tactic| with_reducible first
  | refine a_sasg ?_ | refine a_sdrop ?_ | refine a_saugS ?_ | refine a_spar ?_ | refine a_seq ?_ | refine a_asg ?_ | refine a_drop ?_ | refine a_ret ?_ | refine a_if ?_ | refine a_next ?_
  | refine a_op ?_ | refine a_cons ?_ | refine a_nil ?_ | refine a_cb ?_ | refine a_call ?_ | refine a_c ?_ | refine a_gn ?_ | refine a_nx ?_ | refine a_rt ?_ | refine a_un ?_
  | refine a_test ?_ | refine a_B ?_ | refine a_bl ?_ | refine a_and ?_ | refine a_or ?_ | refine a_not ?_ | refine a_andV ?_ | refine a_orV ?_ | refine a_notV ?_ | refine a_ifx ?_ | refine a_chain ?_
  | refine a_nT ?_ | refine a_nF ?_ | refine a_fld ?_ | refine a_getF ?_ | refine a_T ?_ | refine a_F ?_ | refine a_tup ?_ | refine a_lst ?_ | refine a_sub ?_ | refine a_augS ?_ | refine a_two ?_ | refine a_I0 ?_ | refine a_U ?_ | refine n_add ?_ | refine n_int ?_ | refine n_ib ?_ | refine a_ip ?_ | refine a_rng1 ?_ | refine a_rng2 ?_ | refine a_bm ?_ | refine a_abs ?_ | refine a_pairs ?_ | refine a_pairs0 ?_ | refine a_bk ?_ | refine a_prp ?_ | refine a_lc ?_ | refine a_yes ?_ | refine a_sl ?_ | refine a_nop ?_ | refine a_prt ?_ | refine a_ex1 ?_ | refine a_for ?_ | refine a_sfor ?_ | refine a_iE1 ?_ | refine a_iEs ?_ | refine a_iEz ?_ | refine a_iEnum ?_ | refine a_iTup ?_ | refine a_iList ?_ | refine a_gcons ?_ | refine a_gnil ?_ | refine a_revT ?_ | refine a_spar3 ?_ | refine a_par3 ?_ | refine a_three ?_)
local macro_rules | `(tactic| walk_at "el2") => `(tactic| first
  | (refine a_var (by rfl) ?_)
  | (refine n_ixL (SqL.of (by assumption)) (by rfl) ?_) | (refine n_ixT (SqT.of (by assumption)) (by rfl) ?_) | (refine n_eq (by rfl) ?_) | (refine n_ne (by rfl) ?_)
  | (refine n_isN ?_) | (refine n_notN ?_) | (refine n_isB ?_) | (refine n_notB ?_) | (refine n_isBI ?_) | (refine n_notBI ?_) | (refine n_len (.inl (SqL.of (by assumption))) ?_) | (refine n_len (.inr (SqT.of (by assumption))) ?_)
  | (refine a_getL (SqL.of (by assumption)) (by rfl) ?_)
  | (refine n_isInt (by assumption) ?_) | (refine n_isBool (by assumption) ?_) | (refine n_isStr (by assumption) ?_) | (refine n_isTup (by assumption) ?_) | (refine n_isLst (by assumption) ?_))
local macro_rules | `(tactic| walk_at "el") => `(tactic| repeat (first | walk_at "el1" | walk_at "el2"))

/-! ### errors that keep what they were made of -/
def spErr1 (C : Addr) (fld : Str) : Sp := fun vs H Q _ => ∃ (a : Addr) (y : V), vs = [.ref a, y] ∧ H a = some (exo a C none) ∧ ∀ dx, H dx = none → dx ≠ a → Q .non (upd (upd H dx (exd dx [(fld, y)])) a (exo a C (some dx)))
def spErr2 (C : Addr) (f1 f2 : Str) : Sp := fun vs H Q _ => ∃ (a : Addr) (y z : V), vs = [.ref a, y, z] ∧ H a = some (exo a C none) ∧ ∀ dx, H dx = none → dx ≠ a → Q .non (upd (upd (upd H dx (exd dx [(f1, y)])) a (exo a C (some dx))) dx (exd dx [(f2, z), (f1, y)]))
theorem err_heap {H : Hp} {a d C : Addr} {e1 e2 : HO} (ha : H a = none) (hd : d ≠ a) (fs : List (Str × V)) : upd (del (upd (upd (upd H a e1) d e2) a (exo a C (some d))) a) d (.xd fs) = upd H d (.xd fs) := by
  funext b
  by_cases e : b = d
  · subst e
    rw [upd_same, upd_same]
  · rw [upd_ne e, upd_ne e]
    by_cases z : b = a
    · subst z
      show (if b = b then none else _) = _
      rw [if_pos rfl, ha]
    · show (if b = a then none else _) = _
      rw [if_neg z, upd_ne z, upd_ne e, upd_ne z]
/-- what the making of an error asks -/
def ErrR (C : Addr) (sp : Sp) (vs : List V) (H1 : Hp) (Q : XK) : Prop := vs.length ≤ 1000 ∧ ∀ a : Addr, H1 a = none → sp (.ref a :: (vs ++ [])) (upd H1 a (exo a C none)) (fun v H2 => v = .non ∧ ∃ (d : Addr) (fs : List (Str × V)), H2 a = some (exo a C (some d)) ∧ H2 d = some (exd d fs) ∧ H1 d = none ∧ Q (.ref C) (some d) (upd (del H2 a) d (.xd fs))) (fun _ _ _ => False)
def tRz (C : Addr) (sp : Sp) (ta : TA) (W : WX) : TS := fun _ σ H => ta σ H fun vs H1 => ErrR C sp vs H1 fun cls d H' => W cls d σ H'
theorem a_rz {C : Addr} {sp : Sp} {ta : TA} {W : WX} {D : Ends} {σ : L2.St} {H : Hp} (q : ta σ H fun vs H1 => ErrR C sp vs H1 fun cls d H' => W cls d σ H') : tRz C sp ta W D σ H := q
theorem n_err1 {C : Addr} {fld : Str} {y : V} {H : Hp} {Q : XK} (q : ∀ d, H d = none → Q (.ref C) (some d) (upd H d (.xd [(fld, y)]))) : ErrR C (spErr1 C fld) [y] H Q := by
  refine ⟨by show 1 ≤ 1000; decide, fun a ha => ⟨a, y, rfl, upd_same, fun d hd ne => ⟨rfl, d, [(fld, y)], upd_same, by rw [upd_ne ne]; exact upd_same, (nn hd).2, ?_⟩⟩⟩
  rw [err_heap ha ne]
  exact q d (nn hd).2
theorem err_heap2 {H : Hp} {a d C : Addr} {e1 e2 e3 : HO} (ha : H a = none) (hd : d ≠ a) (fs : List (Str × V)) : upd (del (upd (upd (upd (upd H a e1) d e2) a (exo a C (some d))) d e3) a) d (.xd fs) = upd H d (.xd fs) := by
  funext b
  by_cases e : b = d
  · subst e
    rw [upd_same, upd_same]
  · rw [upd_ne e, upd_ne e]
    by_cases z : b = a
    · subst z
      show (if b = b then none else _) = _
      rw [if_pos rfl, ha]
    · show (if b = a then none else _) = _
      rw [if_neg z, upd_ne e, upd_ne z, upd_ne e, upd_ne z]
theorem n_err2 {C : Addr} {f1 f2 : Str} {y z : V} {H : Hp} {Q : XK} (q : ∀ d, H d = none → Q (.ref C) (some d) (upd H d (.xd [(f2, z), (f1, y)]))) : ErrR C (spErr2 C f1 f2) [y, z] H Q := by
  refine ⟨by show 2 ≤ 1000; decide, fun a ha => ⟨a, y, z, rfl, upd_same, fun d hd ne => ⟨rfl, d, [(f2, z), (f1, y)], by rw [upd_ne ne.symm]; exact upd_same, upd_same, (nn hd).2, ?_⟩⟩⟩
  rw [err_heap2 ha ne]
  exact q d (nn hd).2
structure ErrG (P : Program) (w : World) (K : Frag) (mg : Str → Option Value) (base : Heap) (x : Str) (C : Addr) (ps : List Str) (sp : Sp) : Prop where
  ex : ∃ fI fd, PySem.W.findIn K (.ref C) "__init__" = some (some (.ref fI)) ∧ PySem.W.typeIn K (.ref fI) = some (.type "function") ∧ FnOk P w K mg base CX0 1 fI fd ps sp ∧ L2.Binds K fd ps []
  o : OexC K C
  g : mg x = some (.ref C)
theorem ps_rz {X : Cx} {W : WX} {x : Str} {C : Addr} {ps : List Str} {sp : Sp} {e : Expr} {es : List Expr} {ta : TA} {p pos pos' : Pos} (G : ErrG X.prog X.w X.K X.mg X.base x C ps sp) (hr : Room 2 X.A) (hc : X.calm = true) (tk : Takes X W) (ha : PA X (e :: es) ta)
    (hg : Gl X x := by rfl) (hb : (x == ("__debug__" : Str)) = false := by decide) (he : starEach (e :: es) X.env = (false, eval e X.env) :: starEach es X.env := by rfl) (hpl : (backTo pos (starEach es X.env)).any (·.1) = false := by rfl) :
    PS X (.Raise (some (.Call (.Name x p) (e :: es) [] pos)) none pos') (tRz C sp ta W) := by
  obtain ⟨fI, fd, i, t, F, b⟩ := G.ex
  exact ps_raise hc tk (pmk_oex (pos := pos) (p := p) G.o i t F hr b .nil pass0 hg G.g ha hb he hpl)
/-! ### errors on their way through a call -/
theorem passE {X : Cx} {E : XK} (tk : Takes X fun cls d _ H => E cls d H) : Passes (L2.CX X.prog X.w) X E := fun pins σ H s e s' I hz => passAt tk σ pins H s e s' I hz
theorem pe_calX {X : Cx} {W : WX} {k : Nat} {x : Str} {ps : List Str} {sp : Sp} {p pos : Pos} {e : Expr} {es : List Expr} {t : TA} (C : Cal X.prog X.w X.K X.mg X.base (L2.CX X.prog X.w) k x ps sp) (hr : Room k X.A) (tk : Takes X W) (ha : PA X (e :: es) t)
    (hg : Gl X x := by rfl) (hdb : (x == ("__debug__" : Str)) = false := by decide) (he : starEach (e :: es) X.env = (false, eval e X.env) :: starEach es X.env := by rfl) (hpl : (backTo pos (starEach es X.env)).any (·.1) = false := by rfl) :
    PE X (.Call (.Name x p) (e :: es) [] pos) (tCallS sp (WE W) t) := by
  obtain ⟨f, fd, h1, h2, h3, h4⟩ := C.ex
  exact pe_callS h4 hr hg h1 h2 h3 (fun σ => passAt tk σ) ha hdb he hpl
section
variable {P : Program} {w : World} {K : Frag} {mg : Str → Option Value} {base : Heap} {f C aForms aParts : Addr} {fd : FuncData}
theorem ok_Wrong (F : Fun K "__init__" "Wrong.__init__" s_Wrong_init f fd) (O : OexC K C) (n : PySem.W.findIn K (.ref C) "place" = some none) : FnOk P w K mg base CX0 1 f fd ["self", "place"] (spErr1 C "place") := by
  refine F.ok sc_Wrong_init (fun vs H Q E h => ?_) (fun cdv A outer s H vs Q E hr h => ?_)
  · obtain ⟨_, _, rfl, _⟩ := h
    rfl
  · obtain ⟨a, y, rfl, ha, k⟩ := h
    refine ⟨_, (pss_one (ps_ost (pv 0) (pv 1))), ?_⟩
    walk_at "el"
    refine ⟨a, C, rfl, O, n, .inl ⟨ha, fun dx hd ne => ?_⟩⟩
    walk_at "el"
    exact k dx hd ne
theorem ok_TooMany (F : Fun K "__init__" "TooMany.__init__" s_TooMany_init f fd) (O : OexC K C) (n : PySem.W.findIn K (.ref C) "limit" = some none) : FnOk P w K mg base CX0 1 f fd ["self", "limit"] (spErr1 C "limit") := by
  refine F.ok sc_TooMany_init (fun vs H Q E h => ?_) (fun cdv A outer s H vs Q E hr h => ?_)
  · obtain ⟨_, _, rfl, _⟩ := h
    rfl
  · obtain ⟨a, y, rfl, ha, k⟩ := h
    refine ⟨_, (pss_one (ps_ost (pv 0) (pv 1))), ?_⟩
    walk_at "el"
    refine ⟨a, C, rfl, O, n, .inl ⟨ha, fun dx hd ne => ?_⟩⟩
    walk_at "el"
    exact k dx hd ne
theorem ok_BadItem (F : Fun K "__init__" "BadItem.__init__" s_BadItem_init f fd) (O : OexC K C) (n : PySem.W.findIn K (.ref C) "place" = some none) (n2 : PySem.W.findIn K (.ref C) "index" = some none) : FnOk P w K mg base CX0 1 f fd ["self", "place", "index"] (spErr2 C "place" "index") := by
  refine F.ok sc_BadItem_init (fun vs H Q E h => ?_) (fun cdv A outer s H vs Q E hr h => ?_)
  · obtain ⟨_, _, _, rfl, _⟩ := h
    rfl
  · obtain ⟨a, y, z, rfl, ha, k⟩ := h
    refine ⟨_, (pss_cons (ps_ost (pv 0) (pv 1))
  (pss_one (ps_ost (pv 0) (pv 2)))), ?_⟩
    walk_at "el"
    refine ⟨a, C, rfl, O, n, .inl ⟨ha, fun dx hd ne => ?_⟩⟩
    walk_at "el"
    refine ⟨a, C, rfl, O, n2, .inr ⟨dx, [("place", y)], upd_same, by rw [upd_ne ne]; exact upd_same, by show 1 ≤ 900; decide, ?_⟩⟩
    walk_at "el"
    exact k dx hd ne
/-- items that are looked at: the error of the first that is none -/
def spCiX (K : Frag) (CT CB : Addr) : Sp := fun vs H Q E => ∃ (n : Int) (p : Pt) (a : Addr) (xs : List V) (ev wi : Int), vs = [.int n, .str p.name, .ref a, .int ev, .int wi] ∧ SqA K H a xs ∧ (∀ x ∈ xs, Th K H x ∧ ∀ (q : Addr) (ys : List V), x = .ref q → H q = some (.tup ys) → ∀ y ∈ ys, Th K H y) ∧
  (24 < xs.length → ∀ d, H d = none → E (.ref CT) (some d) (upd H d (.xd [("limit", .int 24)]))) ∧
  (xs.length ≤ 24 → (∀ x ∈ xs, ItemOk p H x ev wi) → ∀ H', Same H H' → Q .non H') ∧
  (xs.length ≤ 24 → ∀ i x, xs[i]? = some x → (∀ (j : Nat) y, j < i → xs[j]? = some y → ItemOk p H y ev wi) → ¬ ItemOk p H x ev wi → ∀ H' d, Same H H' → H' d = none → E (.ref CB) (some d) (upd H' d (.xd [("index", .int i), ("place", .int n)])))
theorem ItemOk.back {K : Frag} {p : Pt} {H H' : Hp} {x : V} {ev wi : Int} (h : ItemOk p H' x ev wi) (th : Th K H x) (s : Same H H') : ItemOk p H x ev wi := by
  obtain ⟨a, xs, rfl, ha, hl, hs⟩ := h
  refine ⟨a, xs, rfl, ?_, hl, hs⟩
  have go : ∀ u, H a = some u → H a = some (.tup xs) := fun u hu => by
    have q := s _ _ hu
    rw [ha] at q
    rw [hu, ← q]
  cases th with
  | lst h => exact go _ h
  | tup h => exact go _ h
  | dct h => exact go _ h
  | ins h c => exact go _ h
  | dtt h => exact go _ h
theorem th_at {K : Frag} {H H' : Hp} {xs : List V} {x : V} (th : ∀ x ∈ xs, Th K H x ∧ ∀ (q : Addr) (ys : List V), x = .ref q → H q = some (.tup ys) → ∀ y ∈ ys, Th K H y) (s : Same H H') (hx : x ∈ xs) {q : Addr} {ys : List V} (e : x = .ref q) (hq : H' q = some (.tup ys)) : ∀ y ∈ ys, Th K H' y := by
  obtain ⟨t1, t2⟩ := th x hx
  have go : ∀ u, H q = some u → H q = some (.tup ys) := fun u hu => by
    have w := s _ _ hu
    rw [hq] at w
    rw [hu, ← w]
  intro y hy
  subst e
  have h0 : H q = some (.tup ys) := by
    cases t1 with
    | lst h => exact go _ h
    | tup h => exact go _ h
    | dct h => exact go _ h
    | ins h c => exact go _ h
    | dtt h => exact go _ h
  exact (t2 q ys rfl h0 y hy).same s
theorem ok_check_itemsX {CT CB : Addr} (F : Fun K "_check_items" "_check_items" s__check_items f fd) (T : BoT K w mg aForms aParts) (c_is_item : Cal P w K mg base CX0 5 "is_item" ["part", "thing", "events", "witnesses"] (spItem K))
    (c_TooMany : ErrG P w K mg base "TooMany" CT ["self", "limit"] (spErr1 CT "limit")) (c_BadItem : ErrG P w K mg base "BadItem" CB ["self", "place", "index"] (spErr2 CB "place" "index")) :
    FnOk P w K mg base (L2.CX P w) 6 f fd ["place", "part", "items", "events", "witnesses"] (spCiX K CT CB) := by
  refine F.okX sc__check_items (fun vs H Q E h => ?_) (fun cdv A outer s H vs Q E hr h => ?_)
  · obtain ⟨_, _, _, _, _, _, rfl, _⟩ := h
    rfl
  · obtain ⟨n, p, a, xs, ev, wi, rfl, ha, th, k0, k1, k2⟩ := h
    refine ⟨_, (pss_cons (ps_if (pt_cmpR op_gt (pe_callB u_len rfl T.b.len_ boot_len (pa_cons (pv 2) pa_nil)) (pe_gc (v := .int 24) rfl T.k_MOST_ITEMS) (nomark _))
    (pss_one (ps_rz c_TooMany (hr.mono (by decide)) rfl (takes_of rfl rfl rfl rfl) (pa_cons (pe_gc (v := .int 24) rfl T.k_MOST_ITEMS) pa_nil)))
    pss_nil)
  (pss_one (ps_for (passes_of rfl) rfl (PI.alt (pi_enum rfl T.b.enumerate_ (pa_cons (pv 2) pa_nil)) (pi_e1 rfl T.b.enumerate_ (pa_cons (pv 2) pa_nil))) (pg_tup rfl (pgs_cons (pg_name (i := 5) sc__check_items.nd rfl (Or.inl rfl)) (pgs_cons (pg_name (i := 6) sc__check_items.nd rfl (Or.inl rfl)) pgs_nil)))
    (pss_one (ps_if (pt_not (pt_val (pe_cal c_is_item (hr.mono (by decide)) pass0 (pa_cons (pv 1) (pa_cons (pv 6) (pa_cons (pv 3) (pa_cons (pv 4) pa_nil)))))))
    (pss_one (ps_rz c_BadItem (hr.mono (by decide)) rfl (takes_of rfl rfl rfl rfl) (pa_cons (pv 0) (pa_cons (pv 5) pa_nil))))
    pss_nil))))), ?_⟩
    walk_at "el"
    refine n_len ha.len ?_
    walk_at "el"
    refine ite2 (fun h0 => ?_) (fun h0 => ?_)
    · walk_at "el"
      refine a_rz ?_
      walk_at "el"
      refine n_err1 fun d hd => ?_
      have q : (xs.length : Int) > 24 := by simpa using h0
      exact k0 (by omega) d hd
    · have hl : xs.length ≤ 24 := by
        have q : ¬ (xs.length : Int) > 24 := by simpa using h0
        omega
      walk_at "el"
      rcases ha with ha | ha
      · refine Or.inl ?_
        walk_at "el"
        refine ⟨a, xs, rfl, SqL.of ha, ?_⟩
        refine lp_it walk_enum (fun i σ H3 => Same H H3 ∧ (∀ (j : Nat) y, j < i → xs[j]? = some y → ItemOk p H y ev wi) ∧ ∃ v3 v4, σ = [some (.int n), some (.str p.name), some (.ref a), some (.int ev), some (.int wi), v3, v4]) ⟨Same.refl _, fun j y h => absurd h (Nat.not_lt_zero j), _, _, rfl⟩ (fun i σ H3 hi h => SqL.of (h.1 _ _ ha)) ?_ ?_
        · rintro i x σ H3 H4 hi ⟨s3, hok, v3, v4, rfl⟩ ⟨r, _, y, rfl, hr, rfl, ei, hy⟩
          cases ei
          have hy : xs[i]? = some y := hy
          have s4 := L2.Same.nw (o := .tup [.int i, y]) s3 hr
          obtain ⟨t1, t2⟩ := th y (List.mem_of_getElem? hy)
          refine a_gtup (SqT.of upd_same) rfl ?_
          walk_at "el"
          refine ⟨p, y, ev, wi, rfl, t1.same s4, ?_, fun H5 b s5 hb => ?_⟩
          · exact fun q ys e hq z hz => th_at th s4 (List.mem_of_getElem? hy) e hq z hz
          · cases b with
            | true =>
              walk_at "el"
              refine ⟨s4.trans s5, fun j z hj hz => ?_, _, _, rfl⟩
              by_cases e : j = i
              · subst e
                rw [hy] at hz
                cases hz
                exact (hb.mp rfl).back t1 s4
              · exact hok j z (by omega) hz
            | false =>
              walk_at "el"
              refine a_rz ?_
              walk_at "el"
              refine n_err2 fun d hd => ?_
              exact k2 hl i y hy hok (fun z => by have q := hb.mpr (z.same s4); cases q) H5 d (s4.trans s5) hd
        · rintro σ H3 ⟨s3, hok, v3, v4, rfl⟩
          walk_at "el"
          exact k1 hl (fun x hx => by
            obtain ⟨j, hj, rfl⟩ := List.getElem_of_mem hx
            exact hok j _ hj (List.getElem?_eq_getElem hj)) _ s3
      · refine Or.inr ?_
        walk_at "el"
        refine ⟨a, xs, rfl, ha, ?_⟩
        refine lp_it walk_es (fun i σ H3 => Same H H3 ∧ (∀ (j : Nat) y, j < i → xs[j]? = some y → ItemOk p H y ev wi) ∧ ∃ v3 v4, σ = [some (.int n), some (.str p.name), some (.ref a), some (.int ev), some (.int wi), v3, v4]) ⟨Same.refl _, fun j y h => absurd h (Nat.not_lt_zero j), _, _, rfl⟩ (fun i σ H3 hi h => ha.same h.1) ?_ ?_
        · rintro i x σ H3 H4 hi ⟨s3, hok, v3, v4, rfl⟩ ⟨r, y, rfl, hr, rfl, hy⟩
          have s4 := L2.Same.nw (o := .tup [.int ((0 : Int) + i), y]) s3 hr
          obtain ⟨t1, t2⟩ := th y (List.mem_of_getElem? hy)
          refine a_gtup (SqT.of upd_same) rfl ?_
          walk_at "el"
          refine ⟨p, y, ev, wi, rfl, t1.same s4, ?_, fun H5 b s5 hb => ?_⟩
          · exact fun q ys e hq z hz => th_at th s4 (List.mem_of_getElem? hy) e hq z hz
          · cases b with
            | true =>
              walk_at "el"
              refine ⟨s4.trans s5, fun j z hj hz => ?_, _, _, rfl⟩
              by_cases e : j = i
              · subst e
                rw [hy] at hz
                cases hz
                exact (hb.mp rfl).back t1 s4
              · exact hok j z (by omega) hz
            | false =>
              walk_at "el"
              refine a_rz ?_
              walk_at "el"
              refine n_err2 fun d hd => ?_
              rw [Int.zero_add]
              exact k2 hl i y hy hok (fun z => by have q := hb.mpr (z.same s4); cases q) H5 d (s4.trans s5) hd
        · rintro σ H3 ⟨s3, hok, v3, v4, rfl⟩
          walk_at "el"
          exact k1 hl (fun x hx => by
            obtain ⟨j, hj, rfl⟩ := List.getElem_of_mem hx
            exact hok j _ hj (List.getElem?_eq_getElem hj)) _ s3
end
end EL

/- part R -/
namespace EL
open PySem PySem.Spec PyProof.Rows L2
open PySem.W (Frag)
abbrev s_Book_events : Stmt := inClass (top 27) 1
abbrev N_Book_events : List Str := ["self"]
theorem sc_Book_events : FnScope N_Book_events ["self"] (defScope s_Book_events) := ⟨rfl, rfl, rfl, by decide +kernel, rfl, by decide +kernel, by decide +kernel⟩
abbrev s_Book_witnesses : Stmt := inClass (top 27) 2
abbrev N_Book_witnesses : List Str := ["self"]
theorem sc_Book_witnesses : FnScope N_Book_witnesses ["self"] (defScope s_Book_witnesses) := ⟨rfl, rfl, rfl, by decide +kernel, rfl, by decide +kernel, by decide +kernel⟩
abbrev s_Book_tellings : Stmt := inClass (top 27) 3
abbrev N_Book_tellings : List Str := ["self"]
theorem sc_Book_tellings : FnScope N_Book_tellings ["self"] (defScope s_Book_tellings) := ⟨rfl, rfl, rfl, by decide +kernel, rfl, by decide +kernel, by decide +kernel⟩
abbrev s_Book_gaps : Stmt := inClass (top 27) 4
abbrev N_Book_gaps : List Str := ["self"]
theorem sc_Book_gaps : FnScope N_Book_gaps ["self"] (defScope s_Book_gaps) := ⟨rfl, rfl, rfl, by decide +kernel, rfl, by decide +kernel, by decide +kernel⟩
abbrev s_Book_sure : Stmt := inClass (top 27) 5
abbrev N_Book_sure : List Str := ["self"]
theorem sc_Book_sure : FnScope N_Book_sure ["self"] (defScope s_Book_sure) := ⟨rfl, rfl, rfl, by decide +kernel, rfl, by decide +kernel, by decide +kernel⟩
abbrev s_Book_clauses : Stmt := inClass (top 27) 6
abbrev N_Book_clauses : List Str := ["self"]
theorem sc_Book_clauses : FnScope N_Book_clauses ["self"] (defScope s_Book_clauses) := ⟨rfl, rfl, rfl, by decide +kernel, rfl, by decide +kernel, by decide +kernel⟩
local macro_rules | `(tactic| walk_at "el1") => `(tactic| with_reducible first
  | refine a_sasg ?_ | refine a_sdrop ?_ | refine a_saugS ?_ | refine a_spar ?_ | refine a_seq ?_ | refine a_asg ?_ | refine a_drop ?_ | refine a_ret ?_ | refine a_if ?_ | refine a_next ?_
  | refine a_op ?_ | refine a_cons ?_ | refine a_nil ?_ | refine a_cb ?_ | refine a_call ?_ | refine a_c ?_ | refine a_gn ?_ | refine a_nx ?_ | refine a_rt ?_ | refine a_un ?_
  | refine a_test ?_ | refine a_B ?_ | refine a_bl ?_ | refine a_and ?_ | refine a_or ?_ | refine a_not ?_ | refine a_andV ?_ | refine a_orV ?_ | refine a_notV ?_ | refine a_ifx ?_ | refine a_chain ?_
  | refine a_nT ?_ | refine a_nF ?_ | refine a_fld ?_ | refine a_getF ?_ | refine a_T ?_ | refine a_F ?_ | refine a_tup ?_ | refine a_lst ?_ | refine a_sub ?_ | refine a_augS ?_ | refine a_two ?_ | refine a_I0 ?_ | refine a_U ?_ | refine n_add ?_ | refine n_int ?_ | refine n_ib ?_ | refine a_ip ?_ | refine a_rng1 ?_ | refine a_rng2 ?_ | refine a_bm ?_ | refine a_abs ?_ | refine a_pairs ?_ | refine a_pairs0 ?_ | refine a_bk ?_ | refine a_prp ?_ | refine a_lc ?_ | refine a_yes ?_ | refine a_sl ?_ | refine a_nop ?_ | refine a_prt ?_ | refine a_ex1 ?_ | refine a_for ?_ | refine a_sfor ?_ | refine a_iE1 ?_ | refine a_iEs ?_ | refine a_iEz ?_ | refine a_iEnum ?_ | refine a_iTup ?_ | refine a_iList ?_ | refine a_gcons ?_ | refine a_gnil ?_ | refine a_revT ?_ | refine a_spar3 ?_ | refine a_par3 ?_ | refine a_three ?_)
local macro_rules | `(tactic| walk_at "el2") => `(tactic| first
  | (refine a_var (by rfl) ?_)
  | (refine n_ixL (SqL.of (by assumption)) (by rfl) ?_) | (refine n_ixT (SqT.of (by assumption)) (by rfl) ?_) | (refine n_eq (by rfl) ?_) | (refine n_ne (by rfl) ?_)
  | (refine n_isN ?_) | (refine n_notN ?_) | (refine n_isB ?_) | (refine n_notB ?_) | (refine n_isBI ?_) | (refine n_notBI ?_) | (refine n_len (.inl (SqL.of (by assumption))) ?_) | (refine n_len (.inr (SqT.of (by assumption))) ?_)
  | (refine a_getL (SqL.of (by assumption)) (by rfl) ?_)
  | (refine n_isInt (by assumption) ?_) | (refine n_isBool (by assumption) ?_) | (refine n_isStr (by assumption) ?_) | (refine n_isTup (by assumption) ?_) | (refine n_isLst (by assumption) ?_))
local macro_rules | `(tactic| walk_at "el") => `(tactic| repeat (first | walk_at "el1" | walk_at "el2"))

/-! ### ways -/
/-- the gaps of a book, as numbers -/
structure GapsAre (K : Frag) (H : Hp) (g : Addr) (gs : List V) (G : List (Int × Int × Int)) : Prop where
  seq : SqA K H g gs
  len : gs.length = G.length
  at_ : ∀ (i : Nat) (v : V), gs[i]? = some v → ∃ (q : Addr) (x : Int × Int × Int), v = .ref q ∧ G[i]? = some x ∧ H q = some (.tup [.int x.1, .int x.2.1, .int x.2.2])
theorem GapsAre.same {K : Frag} {H H' : Hp} {g : Addr} {gs : List V} {G : List (Int × Int × Int)} (h : GapsAre K H g gs G) (s : Same H H') : GapsAre K H' g gs G :=
  ⟨h.seq.same s, h.len, fun i v hv => by
    obtain ⟨q, x, e, hx, hq⟩ := h.at_ i v hv
    exact ⟨q, x, e, hx, s _ _ hq⟩⟩
theorem num_int {x : V} (h : numB x = true) : ∃ n, x = .int n := by
  cases x with
  | int n => exact ⟨n, rfl⟩
  | _ => cases h
theorem item_gap_inv {H : Hp} {x : V} {ev wi : Int} (h : ItemOk .gap H x ev wi) : ∃ (q : Addr) (a e n : Int), x = .ref q ∧ H q = some (.tup [.int a, .int e, .int n]) ∧ 0 ≤ a ∧ a < ev ∧ 0 ≤ e ∧ e < ev ∧ e ≠ a := by
  obtain ⟨q, xs, rfl, hq, hl, hs⟩ := h
  match xs, hl with
  | [x0, x1, x2], _ =>
    have h0 : belowB x0 ev = true := by
      have z := hs 0 (by decide) "event" x0 rfl rfl
      unfold standB at z
      rw [if_neg (by decide), if_pos rfl] at z
      exact z
    have h1 : (belowB x1 ev && !decide (some x1 = [x0, x1, x2][1 - 1]?)) = true := by
      have z := hs 1 (by decide) "another event" x1 rfl rfl
      unfold standB at z
      rw [if_neg (by decide), if_neg (by decide), if_pos rfl] at z
      exact z
    have h2 : numB x2 = true := by
      have z := hs 2 (by decide) "number" x2 rfl rfl
      unfold standB at z
      rw [if_neg (by decide), if_neg (by decide), if_neg (by decide), if_neg (by decide), if_neg (by decide)] at z
      exact z
    rw [Bool.and_eq_true] at h1
    obtain ⟨a, rfl, a0, a1⟩ := below_int h0
    obtain ⟨e, rfl, e0, e1⟩ := below_int h1.1
    obtain ⟨n, rfl⟩ := num_int h2
    refine ⟨q, a, e, n, rfl, hq, a0, a1, e0, e1, fun z => ?_⟩
    have w := h1.2
    rw [z] at w
    simp at w
theorem gaps_of {H : Hp} {ev wi : Int} : ∀ (gs : List V), (∀ x ∈ gs, ItemOk .gap H x ev wi) → ∃ G : List (Int × Int × Int), gs.length = G.length ∧ (∀ x ∈ G, 0 ≤ x.1 ∧ x.1 < ev ∧ 0 ≤ x.2.1 ∧ x.2.1 < ev) ∧
    ∀ (i : Nat) (v : V), gs[i]? = some v → ∃ (q : Addr) (x : Int × Int × Int), v = .ref q ∧ G[i]? = some x ∧ H q = some (.tup [.int x.1, .int x.2.1, .int x.2.2])
  | [], _ => ⟨[], rfl, (fun _ h => nomatch h), fun i v h => by cases h⟩
  | y :: r, h => by
    obtain ⟨G, hl, hb, hG⟩ := gaps_of r fun x hx => h x (List.mem_cons_of_mem _ hx)
    obtain ⟨q, a, e, n, rfl, hq, a0, a1, e0, e1, _⟩ := item_gap_inv (h y (List.mem_cons_self ..))
    refine ⟨(a, e, n) :: G, by rw [List.length_cons, List.length_cons, hl], ?_, fun i v hv => ?_⟩
    · intro x hx
      rcases List.mem_cons.mp hx with rfl | hx
      · exact ⟨a0, a1, e0, e1⟩
      · exact hb x hx
    · cases i with
      | zero =>
        cases hv
        exact ⟨q, (a, e, n), rfl, rfl, hq⟩
      | succ i => exact hG i v hv
/-- one step further -/
def stepW (G : List (Int × Int × Int)) (here : Int) (v : V) : Option Int :=
  match v with
  | .int i => if 0 ≤ i ∧ i < G.length then (G[i.toNat]?).bind fun x => if x.1 = here then some x.2.1 else none else none
  | _ => none
def wayTo (G : List (Int × Int × Int)) (a : Int) (xs : List V) : Option Int := xs.foldl (fun o v => o.bind fun h => stepW G h v) (some a)
theorem way_snoc {G : List (Int × Int × Int)} {a : Int} {xs : List V} {v : V} : wayTo G a (xs ++ [v]) = (wayTo G a xs).bind fun h => stepW G h v := by
  unfold wayTo
  rw [List.foldl_append]
  rfl
theorem way_lost {G : List (Int × Int × Int)} : ∀ (xs : List V), xs.foldl (fun o v => o.bind fun h => stepW G h v) none = none
  | [] => rfl
  | _ :: r => way_lost r
theorem way_off {G : List (Int × Int × Int)} {a : Int} {xs ys : List V} (h : wayTo G a xs = none) : wayTo G a (xs ++ ys) = none := by
  unfold wayTo at h ⊢
  rw [List.foldl_append, h]
  exact way_lost ys
theorem step_off {G : List (Int × Int × Int)} {h : Int} {v : V} (q : belowB v G.length = false) : stepW G h v = none := by
  cases v with
  | int i =>
    have e : (decide (0 ≤ i) && decide (i < (G.length : Int))) = false := q
    show (if 0 ≤ i ∧ i < (G.length : Int) then _ else none) = none
    rw [if_neg]
    rintro ⟨a, b⟩
    rw [decide_eq_true a, decide_eq_true b] at e
    cases e
  | _ => rfl
theorem step_at {G : List (Int × Int × Int)} {h : Int} {j : Nat} {x : Int × Int × Int} (q : G[j]? = some x) : stepW G h (.int j) = if x.1 = h then some x.2.1 else none := by
  have l := (List.getElem?_eq_some_iff.mp q).1
  show (if 0 ≤ (j : Int) ∧ (j : Int) < (G.length : Int) then _ else none) = _
  rw [if_pos ⟨by omega, by omega⟩, Int.toNat_natCast, q]
  rfl
/-- a way between two events -/
def isWay (H : Hp) (G : List (Int × Int × Int)) (a b : Int) (x : V) : Prop := ∃ (q : Addr) (xs : List V), x = .ref q ∧ H q = some (.tup xs) ∧ wayTo G a xs = some b
def spWay (K : Frag) (C : Addr) : Sp := fun vs H Q _ => ∃ (bk dx : Addr) (ev wi : Int) (t g s c : Addr) (gs : List V) (G : List (Int × Int × Int)) (a b : Int) (x : V), vs = [.ref bk, .int a, .int b, x] ∧ H bk = some (bookO C dx ev wi t g s c) ∧ GapsAre K H g gs G ∧
  Th K H x ∧ (∀ q xs, x = .ref q → H q = some (.tup xs) → ∀ y ∈ xs, Th K H y) ∧ ∀ H' r, Same H H' → (r = true ↔ isWay H G a b x) → Q (.bl r) H'
section
variable {P : Program} {w : World} {K : Frag} {mg : Str → Option Value} {base : Heap} {f : Addr} {fd : FuncData} {C : Addr}
theorem ok_get_events (F : Fun K "events" "Book.events" s_Book_events f fd) (B : BkC K C) : FnOk P w K mg base CX0 1 f fd ["self"] (spGet C "_events") := by
  refine F.ok sc_Book_events (fun vs H Q E h => ?_) (fun cdv A outer s H vs Q E hr h => ?_)
  · obtain ⟨_, _, _, _, rfl, _⟩ := h
    rfl
  · obtain ⟨a, dx, fs, v, rfl, ha, hv, k⟩ := h
    refine ⟨_, (pss_one (ps_ret (pe_fld (pv 0) rfl))), ?_⟩
    walk_at "el"
    refine ⟨a, C, dx, fs, v, rfl, ha, B.own.cl, B.n0, hv, ?_⟩
    exact k
theorem ok_get_witnesses (F : Fun K "witnesses" "Book.witnesses" s_Book_witnesses f fd) (B : BkC K C) : FnOk P w K mg base CX0 1 f fd ["self"] (spGet C "_witnesses") := by
  refine F.ok sc_Book_witnesses (fun vs H Q E h => ?_) (fun cdv A outer s H vs Q E hr h => ?_)
  · obtain ⟨_, _, _, _, rfl, _⟩ := h
    rfl
  · obtain ⟨a, dx, fs, v, rfl, ha, hv, k⟩ := h
    refine ⟨_, (pss_one (ps_ret (pe_fld (pv 0) rfl))), ?_⟩
    walk_at "el"
    refine ⟨a, C, dx, fs, v, rfl, ha, B.own.cl, B.n1, hv, ?_⟩
    exact k
theorem ok_get_tellings (F : Fun K "tellings" "Book.tellings" s_Book_tellings f fd) (B : BkC K C) : FnOk P w K mg base CX0 1 f fd ["self"] (spGet C "_tellings") := by
  refine F.ok sc_Book_tellings (fun vs H Q E h => ?_) (fun cdv A outer s H vs Q E hr h => ?_)
  · obtain ⟨_, _, _, _, rfl, _⟩ := h
    rfl
  · obtain ⟨a, dx, fs, v, rfl, ha, hv, k⟩ := h
    refine ⟨_, (pss_one (ps_ret (pe_fld (pv 0) rfl))), ?_⟩
    walk_at "el"
    refine ⟨a, C, dx, fs, v, rfl, ha, B.own.cl, B.n2, hv, ?_⟩
    exact k
theorem ok_get_gaps (F : Fun K "gaps" "Book.gaps" s_Book_gaps f fd) (B : BkC K C) : FnOk P w K mg base CX0 1 f fd ["self"] (spGet C "_gaps") := by
  refine F.ok sc_Book_gaps (fun vs H Q E h => ?_) (fun cdv A outer s H vs Q E hr h => ?_)
  · obtain ⟨_, _, _, _, rfl, _⟩ := h
    rfl
  · obtain ⟨a, dx, fs, v, rfl, ha, hv, k⟩ := h
    refine ⟨_, (pss_one (ps_ret (pe_fld (pv 0) rfl))), ?_⟩
    walk_at "el"
    refine ⟨a, C, dx, fs, v, rfl, ha, B.own.cl, B.n3, hv, ?_⟩
    exact k
theorem ok_get_sure (F : Fun K "sure" "Book.sure" s_Book_sure f fd) (B : BkC K C) : FnOk P w K mg base CX0 1 f fd ["self"] (spGet C "_sure") := by
  refine F.ok sc_Book_sure (fun vs H Q E h => ?_) (fun cdv A outer s H vs Q E hr h => ?_)
  · obtain ⟨_, _, _, _, rfl, _⟩ := h
    rfl
  · obtain ⟨a, dx, fs, v, rfl, ha, hv, k⟩ := h
    refine ⟨_, (pss_one (ps_ret (pe_fld (pv 0) rfl))), ?_⟩
    walk_at "el"
    refine ⟨a, C, dx, fs, v, rfl, ha, B.own.cl, B.n4, hv, ?_⟩
    exact k
theorem ok_get_clauses (F : Fun K "clauses" "Book.clauses" s_Book_clauses f fd) (B : BkC K C) : FnOk P w K mg base CX0 1 f fd ["self"] (spGet C "_clauses") := by
  refine F.ok sc_Book_clauses (fun vs H Q E h => ?_) (fun cdv A outer s H vs Q E hr h => ?_)
  · obtain ⟨_, _, _, _, rfl, _⟩ := h
    rfl
  · obtain ⟨a, dx, fs, v, rfl, ha, hv, k⟩ := h
    refine ⟨_, (pss_one (ps_ret (pe_fld (pv 0) rfl))), ?_⟩
    walk_at "el"
    refine ⟨a, C, dx, fs, v, rfl, ha, B.own.cl, B.n5, hv, ?_⟩
    exact k
end
end EL

/- part S -/
namespace EL
open PySem PySem.Spec PyProof.Rows L2
open PySem.W (Frag)

local macro_rules | `(tactic| walk_at "el1") => `(tactic| with_reducible first
  | refine a_sasg ?_ | refine a_sdrop ?_ | refine a_saugS ?_ | refine a_spar ?_ | refine a_seq ?_ | refine a_asg ?_ | refine a_drop ?_ | refine a_ret ?_ | refine a_if ?_ | refine a_next ?_
  | refine a_op ?_ | refine a_cons ?_ | refine a_nil ?_ | refine a_cb ?_ | refine a_call ?_ | refine a_c ?_ | refine a_gn ?_ | refine a_nx ?_ | refine a_rt ?_ | refine a_un ?_
  | refine a_test ?_ | refine a_B ?_ | refine a_bl ?_ | refine a_and ?_ | refine a_or ?_ | refine a_not ?_ | refine a_andV ?_ | refine a_orV ?_ | refine a_notV ?_ | refine a_ifx ?_ | refine a_chain ?_
  | refine a_nT ?_ | refine a_nF ?_ | refine a_fld ?_ | refine a_getF ?_ | refine a_T ?_ | refine a_F ?_ | refine a_tup ?_ | refine a_lst ?_ | refine a_sub ?_ | refine a_augS ?_ | refine a_two ?_ | refine a_I0 ?_ | refine a_U ?_ | refine n_add ?_ | refine n_int ?_ | refine n_ib ?_ | refine a_ip ?_ | refine a_rng1 ?_ | refine a_rng2 ?_ | refine a_bm ?_ | refine a_abs ?_ | refine a_pairs ?_ | refine a_pairs0 ?_ | refine a_bk ?_ | refine a_prp ?_ | refine a_lc ?_ | refine a_yes ?_ | refine a_sl ?_ | refine a_nop ?_ | refine a_prt ?_ | refine a_ex1 ?_ | refine a_for ?_ | refine a_sfor ?_ | refine a_iE1 ?_ | refine a_iEs ?_ | refine a_iEz ?_ | refine a_iEnum ?_ | refine a_iTup ?_ | refine a_iList ?_ | refine a_gcons ?_ | refine a_gnil ?_ | refine a_revT ?_ | refine a_spar3 ?_ | refine a_par3 ?_ | refine a_three ?_)
local macro_rules | `(tactic| walk_at "el2") => `(tactic| first
  | (refine a_var (by rfl) ?_)
  | (refine n_ixL (SqL.of (by assumption)) (by rfl) ?_) | (refine n_ixT (SqT.of (by assumption)) (by rfl) ?_) | (refine n_eq (by rfl) ?_) | (refine n_ne (by rfl) ?_)
  | (refine n_isN ?_) | (refine n_notN ?_) | (refine n_isB ?_) | (refine n_notB ?_) | (refine n_isBI ?_) | (refine n_notBI ?_) | (refine n_len (.inl (SqL.of (by assumption))) ?_) | (refine n_len (.inr (SqT.of (by assumption))) ?_)
  | (refine a_getL (SqL.of (by assumption)) (by rfl) ?_)
  | (refine n_isInt (by assumption) ?_) | (refine n_isBool (by assumption) ?_) | (refine n_isStr (by assumption) ?_) | (refine n_isTup (by assumption) ?_) | (refine n_isLst (by assumption) ?_))
local macro_rules | `(tactic| walk_at "el") => `(tactic| repeat (first | walk_at "el1" | walk_at "el2"))

/-! ### a law's own look at ways -/
def spYes : Sp := fun vs H Q _ => ∃ x y : Bool, vs = [.bl x, .bl y] ∧ Q (.bl (decide (x = y))) H
def spWayL (K : Frag) : Sp := fun vs H Q _ => ∃ (g : Addr) (gs : List V) (G : List (Int × Int × Int)) (a b : Int) (x : V), vs = [.ref g, .int a, .int b, x] ∧ GapsAre K H g gs G ∧
  Th K H x ∧ (∀ (q : Addr) (xs : List V), x = .ref q → H q = some (.tup xs) → ∀ y ∈ xs, Th K H y) ∧ ∀ r, (r = true ↔ isWay H G a b x) → Q (.bl r) H
def spWalk (K : Frag) : Sp := fun vs H Q _ => ∃ (b c g : Addr) (gs : List V) (G : List (Int × Int × Int)) (a many : Int), vs = [.ref b, .ref g, .int a, .int many] ∧ Bag H b c ∧ g ≠ b ∧ H g = some (.lst gs) ∧ GapsAre K H g gs G ∧ gs.length ≤ 1000 ∧ 0 ≤ many ∧ many ≤ 1000 ∧
  ∀ H' r q (is : List Int) h, Bag H' b c → Kp b H H' → H' r = some (.tup [.ref q, .int h]) → H' q = some (.tup (is.map V.int)) → wayTo G a (is.map V.int) = some h → (is.length : Int) ≤ many → (∀ z ∈ is, 0 ≤ z ∧ z < G.length) → Q (.ref r) H'
section
variable {P : Program} {w : World} {K : Frag} {mg : Str → Option Value} {base : Heap} {f : Addr} {fd : FuncData} {C : Addr}
end
end EL

/- part Y -/
namespace EL
open PySem PySem.Spec PyProof.Rows L2
open PySem.W (Frag)

local macro_rules | `(tactic| walk_at "el1") => `(tactic| with_reducible first
  | refine a_sasg ?_ | refine a_sdrop ?_ | refine a_saugS ?_ | refine a_spar ?_ | refine a_seq ?_ | refine a_asg ?_ | refine a_drop ?_ | refine a_ret ?_ | refine a_if ?_ | refine a_next ?_
  | refine a_op ?_ | refine a_cons ?_ | refine a_nil ?_ | refine a_cb ?_ | refine a_call ?_ | refine a_c ?_ | refine a_gn ?_ | refine a_nx ?_ | refine a_rt ?_ | refine a_un ?_
  | refine a_test ?_ | refine a_B ?_ | refine a_bl ?_ | refine a_and ?_ | refine a_or ?_ | refine a_not ?_ | refine a_andV ?_ | refine a_orV ?_ | refine a_notV ?_ | refine a_ifx ?_ | refine a_chain ?_
  | refine a_nT ?_ | refine a_nF ?_ | refine a_fld ?_ | refine a_getF ?_ | refine a_T ?_ | refine a_F ?_ | refine a_tup ?_ | refine a_lst ?_ | refine a_sub ?_ | refine a_augS ?_ | refine a_two ?_ | refine a_I0 ?_ | refine a_U ?_ | refine n_add ?_ | refine n_int ?_ | refine n_ib ?_ | refine a_ip ?_ | refine a_rng1 ?_ | refine a_rng2 ?_ | refine a_bm ?_ | refine a_abs ?_ | refine a_pairs ?_ | refine a_pairs0 ?_ | refine a_bk ?_ | refine a_prp ?_ | refine a_lc ?_ | refine a_yes ?_ | refine a_sl ?_ | refine a_nop ?_ | refine a_prt ?_ | refine a_ex1 ?_ | refine a_for ?_ | refine a_sfor ?_ | refine a_iE1 ?_ | refine a_iEs ?_ | refine a_iEz ?_ | refine a_iEnum ?_ | refine a_iTup ?_ | refine a_iList ?_ | refine a_gcons ?_ | refine a_gnil ?_ | refine a_revT ?_ | refine a_spar3 ?_ | refine a_par3 ?_ | refine a_three ?_)
local macro_rules | `(tactic| walk_at "el2") => `(tactic| first
  | (refine a_var (by rfl) ?_)
  | (refine n_ixL (SqL.of (by assumption)) (by rfl) ?_) | (refine n_ixT (SqT.of (by assumption)) (by rfl) ?_) | (refine n_eq (by rfl) ?_) | (refine n_ne (by rfl) ?_)
  | (refine n_isN ?_) | (refine n_notN ?_) | (refine n_isB ?_) | (refine n_notB ?_) | (refine n_isBI ?_) | (refine n_notBI ?_) | (refine n_len (.inl (SqL.of (by assumption))) ?_) | (refine n_len (.inr (SqT.of (by assumption))) ?_)
  | (refine a_getL (SqL.of (by assumption)) (by rfl) ?_)
  | (refine n_isInt (by assumption) ?_) | (refine n_isBool (by assumption) ?_) | (refine n_isStr (by assumption) ?_) | (refine n_isTup (by assumption) ?_) | (refine n_isLst (by assumption) ?_))
local macro_rules | `(tactic| walk_at "el") => `(tactic| repeat (first | walk_at "el1" | walk_at "el2"))

/-! ### a book and a law's four lists, as numbers and words -/
theorem upd_at {H : Hp} {p : Addr} (_ : H p = none) (o : HO) : upd H p o p = some o := upd_same
theorem Bag.neT {H : Hp} {b c p : Addr} {xs : List V} (h : Bag H b c) (hp : H p = some (.tup xs)) : p ≠ b := fun z => by
  obtain ⟨i, j, k, cs, h1, _⟩ := h
  subst z
  rw [h1] at hp
  cases hp
theorem Bag.neL {H : Hp} {b c : Addr} {xs : List V} (h : Bag H b c) (hp : H b = some (.lst xs)) : xs.length ≠ 4 → False := fun z => by
  obtain ⟨i, j, k, cs, h1, _⟩ := h
  rw [h1] at hp
  cases hp
  exact z rfl
theorem SqT.kpB {K : Frag} {H H' : Hp} {a b c : Addr} {xs : List V} (h : SqT K H a xs) (hb : Bag H b c) (k : Kp b H H') : SqT K H' a xs := by
  obtain ⟨_, _, _, _, q, _⟩ := hb
  rcases h with (h | ⟨o, h⟩) | h
  · exact .inl (.inl (k _ _ (fun z => by subst z; rw [q] at h; cases h) h))
  · exact .inl (.inr ⟨_, k _ _ (fun z => by subst z; rw [q] at h; cases h) h⟩)
  · exact .inr h
structure RowsAre {α : Type} (enc : α → List V) (H : Hp) (xs : List V) (D : List α) : Prop where
  len : xs.length = D.length
  at_ : ∀ (i : Nat) (v : V), xs[i]? = some v → ∃ (q : Addr) (x : α), v = .ref q ∧ D[i]? = some x ∧ H q = some (.tup (enc x))
section
variable {α : Type} {enc : α → List V} {H H' : Hp} {xs : List V} {D : List α} {b c : Addr}
theorem RowsAre.same (h : RowsAre enc H xs D) (s : Same H H') : RowsAre enc H' xs D := ⟨h.len, fun i v hv => by
  obtain ⟨q, x, e, hx, hq⟩ := h.at_ i v hv
  exact ⟨q, x, e, hx, s _ _ hq⟩⟩
theorem RowsAre.kp (h : RowsAre enc H xs D) (hb : Bag H b c) (k : Kp b H H') : RowsAre enc H' xs D := ⟨h.len, fun i v hv => by
  obtain ⟨q, x, e, hx, hq⟩ := h.at_ i v hv
  exact ⟨q, x, e, hx, k _ _ (hb.neT hq) hq⟩⟩
theorem RowsAre.get (h : RowsAre enc H xs D) {i : Nat} {x : α} (e : D[i]? = some x) : ∃ q, xs[i]? = some (.ref q) ∧ H q = some (.tup (enc x)) := by
  have l : i < xs.length := by rw [h.len]; exact (List.getElem?_eq_some_iff.mp e).1
  obtain ⟨q, y, e1, e2, e3⟩ := h.at_ i _ (List.getElem?_eq_getElem l)
  rw [e] at e2
  cases e2
  exact ⟨q, by rw [List.getElem?_eq_getElem l, e1], e3⟩
end
abbrev encT (x : Int × Int × Int) : List V := [.int x.1, .int x.2.1, .int x.2.2]
abbrev encS (x : Int × Str × Int) : List V := [.int x.1, .str x.2.1, .int x.2.2]
abbrev encL (x : Int × Str × Int × Str) : List V := [.int x.1, .str x.2.1, .int x.2.2.1, .str x.2.2.2]
theorem RowsAre.gaps {K : Frag} {H : Hp} {g : Addr} {gs : List V} {G : List (Int × Int × Int)} (h : RowsAre encT H gs G) (s : SqA K H g gs) : GapsAre K H g gs G := ⟨s, h.len, h.at_⟩
/-- what a book says -/
structure PD where
  T : List (Int × Int × Int)
  G : List (Int × Int × Int)
  S : List (Int × Str × Int)
  L : List (Int × Str × Int × Str)
def NumOk (x : Int) : Prop := -1000000000000000 ≤ x ∧ x ≤ 1000000000000000
structure PD.Ok (D : PD) (ev wi : Int) : Prop where
  t : ∀ x ∈ D.T, (0 ≤ x.1 ∧ x.1 < wi) ∧ (0 ≤ x.2.1 ∧ x.2.1 < ev) ∧ NumOk x.2.2
  g : ∀ x ∈ D.G, (0 ≤ x.1 ∧ x.1 < ev) ∧ (0 ≤ x.2.1 ∧ x.2.1 < ev) ∧ NumOk x.2.2
  s : ∀ x ∈ D.S, (0 ≤ x.1 ∧ x.1 < ev) ∧ (x.2.1 = "least" ∨ x.2.1 = "most") ∧ NumOk x.2.2
  l : ∀ x ∈ D.L, (0 ≤ x.1 ∧ x.1 < wi) ∧ (x.2.1 = "early" ∨ x.2.1 = "late") ∧ (0 ≤ x.2.2.1 ∧ x.2.2.1 < wi) ∧ (x.2.2.2 = "early" ∨ x.2.2.2 = "late")
theorem num_ok {x : V} (h : numB x = true) : ∃ n, x = .int n ∧ NumOk n := by
  cases x with
  | int n =>
    have q : (decide (-1000000000000000 ≤ n) && decide (n ≤ 1000000000000000)) = true := h
    rw [Bool.and_eq_true, decide_eq_true_iff, decide_eq_true_iff] at q
    exact ⟨n, rfl, q⟩
  | _ => cases h
theorem kind_ok {x : V} (h : kindB x = true) : ∃ s, x = .str s ∧ (s = "early" ∨ s = "late") := by
  cases x with
  | str s =>
    have q : (decide (s = "early") || decide (s = "late")) = true := h
    rw [Bool.or_eq_true, decide_eq_true_iff, decide_eq_true_iff] at q
    exact ⟨s, rfl, q⟩
  | _ => cases h
theorem side_ok {x : V} (h : sideB x = true) : ∃ s, x = .str s ∧ (s = "least" ∨ s = "most") := by
  cases x with
  | str s =>
    have q : (decide (s = "least") || decide (s = "most")) = true := h
    rw [Bool.or_eq_true, decide_eq_true_iff, decide_eq_true_iff] at q
    exact ⟨s, rfl, q⟩
  | _ => cases h
theorem item_tel_inv {H : Hp} {x : V} {ev wi : Int} (h : ItemOk .tel H x ev wi) : ∃ (q : Addr) (y : Int × Int × Int), x = .ref q ∧ H q = some (.tup (encT y)) ∧ (0 ≤ y.1 ∧ y.1 < wi) ∧ (0 ≤ y.2.1 ∧ y.2.1 < ev) ∧ NumOk y.2.2 := by
  obtain ⟨q, xs, rfl, hq, hl, hs⟩ := h
  match xs, hl with
  | [x0, x1, x2], _ =>
    have h0 : belowB x0 wi = true := (st_w (x := x0)).symm.trans (hs 0 (by decide) "witness" x0 rfl rfl)
    have h1 : belowB x1 ev = true := (st_e (x := x1)).symm.trans (hs 1 (by decide) "event" x1 rfl rfl)
    have h2 : numB x2 = true := (st_n (x := x2)).symm.trans (hs 2 (by decide) "number" x2 rfl rfl)
    obtain ⟨a, rfl, a0⟩ := below_int h0
    obtain ⟨e, rfl, e0⟩ := below_int h1
    obtain ⟨n, rfl, n0⟩ := num_ok h2
    exact ⟨q, (a, e, n), rfl, hq, a0, e0, n0⟩
theorem item_gap_inv2 {H : Hp} {x : V} {ev wi : Int} (h : ItemOk .gap H x ev wi) : ∃ (q : Addr) (y : Int × Int × Int), x = .ref q ∧ H q = some (.tup (encT y)) ∧ (0 ≤ y.1 ∧ y.1 < ev) ∧ (0 ≤ y.2.1 ∧ y.2.1 < ev) ∧ NumOk y.2.2 := by
  obtain ⟨q, xs, rfl, hq, hl, hs⟩ := id h
  obtain ⟨q2, a, e, n, e1, hq2, a0, a1, e0, e1', _⟩ := item_gap_inv h
  cases e1
  rw [hq] at hq2
  cases hq2
  have h2 : numB (.int n) = true := (st_n (x := .int n)).symm.trans (hs 2 (by decide) "number" (.int n) rfl rfl)
  obtain ⟨n', en, n0⟩ := num_ok h2
  cases en
  exact ⟨q, (a, e, n), rfl, hq, ⟨a0, a1⟩, ⟨e0, e1'⟩, n0⟩
theorem item_sur_inv {H : Hp} {x : V} {ev wi : Int} (h : ItemOk .sur H x ev wi) : ∃ (q : Addr) (y : Int × Str × Int), x = .ref q ∧ H q = some (.tup (encS y)) ∧ (0 ≤ y.1 ∧ y.1 < ev) ∧ (y.2.1 = "least" ∨ y.2.1 = "most") ∧ NumOk y.2.2 := by
  obtain ⟨q, xs, rfl, hq, hl, hs⟩ := h
  match xs, hl with
  | [x0, x1, x2], _ =>
    have h0 : belowB x0 ev = true := (st_e (x := x0)).symm.trans (hs 0 (by decide) "event" x0 rfl rfl)
    have h1 : sideB x1 = true := (st_s (x := x1)).symm.trans (hs 1 (by decide) "side" x1 rfl rfl)
    have h2 : numB x2 = true := (st_n (x := x2)).symm.trans (hs 2 (by decide) "number" x2 rfl rfl)
    obtain ⟨a, rfl, a0⟩ := below_int h0
    obtain ⟨e, rfl, e0⟩ := side_ok h1
    obtain ⟨n, rfl, n0⟩ := num_ok h2
    exact ⟨q, (a, e, n), rfl, hq, a0, e0, n0⟩
theorem item_cla_inv {H : Hp} {x : V} {ev wi : Int} (h : ItemOk .cla H x ev wi) : ∃ (q : Addr) (y : Int × Str × Int × Str), x = .ref q ∧ H q = some (.tup (encL y)) ∧ (0 ≤ y.1 ∧ y.1 < wi) ∧ (y.2.1 = "early" ∨ y.2.1 = "late") ∧ (0 ≤ y.2.2.1 ∧ y.2.2.1 < wi) ∧ (y.2.2.2 = "early" ∨ y.2.2.2 = "late") := by
  obtain ⟨q, xs, rfl, hq, hl, hs⟩ := h
  match xs, hl with
  | [x0, x1, x2, x3], _ =>
    have h0 : belowB x0 wi = true := (st_w (x := x0)).symm.trans (hs 0 (by decide) "witness" x0 rfl rfl)
    have h1 : kindB x1 = true := (st_k (x := x1)).symm.trans (hs 1 (by decide) "kind" x1 rfl rfl)
    have h2 : belowB x2 wi = true := (st_w (x := x2)).symm.trans (hs 2 (by decide) "witness" x2 rfl rfl)
    have h3 : kindB x3 = true := (st_k (x := x3)).symm.trans (hs 3 (by decide) "kind" x3 rfl rfl)
    obtain ⟨a, rfl, a0⟩ := below_int h0
    obtain ⟨e, rfl, e0⟩ := kind_ok h1
    obtain ⟨v, rfl, v0⟩ := below_int h2
    obtain ⟨n, rfl, n0⟩ := kind_ok h3
    exact ⟨q, (a, e, v, n), rfl, hq, a0, e0, v0, n0⟩
theorem rows_of {α : Type} {enc : α → List V} {P : α → Prop} {H : Hp} : ∀ (xs : List V), (∀ x ∈ xs, ∃ (q : Addr) (y : α), x = .ref q ∧ H q = some (.tup (enc y)) ∧ P y) → ∃ D : List α, RowsAre enc H xs D ∧ ∀ y ∈ D, P y
  | [], _ => ⟨[], ⟨rfl, fun i v h => by cases h⟩, fun _ h => nomatch h⟩
  | x :: r, h => by
    obtain ⟨D, R, p⟩ := rows_of r fun x hx => h x (List.mem_cons_of_mem _ hx)
    obtain ⟨q, y, rfl, hq, py⟩ := h x (List.mem_cons_self ..)
    refine ⟨y :: D, ⟨by rw [List.length_cons, List.length_cons, R.len], fun i v hv => ?_⟩, fun z hz => (List.mem_cons.mp hz).elim (fun e => e ▸ py) (p z)⟩
    cases i with
    | zero => cases hv; exact ⟨q, y, rfl, rfl, hq⟩
    | succ i => exact R.at_ i v hv
/-- addresses and sizes of a book -/
structure BA where
  o : Addr
  dx : Addr
  t : Addr
  g : Addr
  s : Addr
  q : Addr
  ev : Int
  wi : Int
  xs : Pt → List V
/-- the rows of four parts -/
structure PR (H : Hp) (xs : Pt → List V) (D : PD) : Prop where
  t : RowsAre encT H (xs .tel) D.T
  g : RowsAre encT H (xs .gap) D.G
  s : RowsAre encS H (xs .sur) D.S
  l : RowsAre encL H (xs .cla) D.L
theorem PR.same {H H' : Hp} {xs : Pt → List V} {D : PD} (h : PR H xs D) (s : Same H H') : PR H' xs D := ⟨h.t.same s, h.g.same s, h.s.same s, h.l.same s⟩
theorem PR.kp {H H' : Hp} {xs : Pt → List V} {D : PD} {b c : Addr} (h : PR H xs D) (hb : Bag H b c) (k : Kp b H H') : PR H' xs D := ⟨h.t.kp hb k, h.g.kp hb k, h.s.kp hb k, h.l.kp hb k⟩
theorem pr_of {H : Hp} {xs : Pt → List V} {ev wi : Int} (h : ∀ t, ∀ x ∈ xs t, ItemOk t H x ev wi) : ∃ D : PD, PR H xs D ∧ D.Ok ev wi := by
  obtain ⟨T, rT, bT⟩ := rows_of (xs .tel) fun x hx => item_tel_inv (h .tel x hx)
  obtain ⟨G, rG, bG⟩ := rows_of (xs .gap) fun x hx => item_gap_inv2 (h .gap x hx)
  obtain ⟨S, rS, bS⟩ := rows_of (xs .sur) fun x hx => item_sur_inv (h .sur x hx)
  obtain ⟨L, rL, bL⟩ := rows_of (xs .cla) fun x hx => item_cla_inv (h .cla x hx)
  exact ⟨⟨T, G, S, L⟩, ⟨rT, rG, rS, rL⟩, ⟨bT, bG, bS, bL⟩⟩
/-- a book in the heap -/
structure BB (K : Frag) (C : Addr) (H : Hp) (A : BA) (D : PD) : Prop where
  bk : H A.o = some (bookO C A.dx A.ev A.wi A.t A.g A.s A.q)
  tT : SqT K H A.t (A.xs .tel)
  tG : SqT K H A.g (A.xs .gap)
  tS : SqT K H A.s (A.xs .sur)
  tL : SqT K H A.q (A.xs .cla)
  r : PR H A.xs D
theorem BB.same {K : Frag} {C : Addr} {H H' : Hp} {A : BA} {D : PD} (h : BB K C H A D) (s : Same H H') : BB K C H' A D := ⟨s _ _ h.bk, h.tT.same s, h.tG.same s, h.tS.same s, h.tL.same s, h.r.same s⟩
theorem BB.kp {K : Frag} {C : Addr} {H H' : Hp} {A : BA} {D : PD} {b c : Addr} (h : BB K C H A D) (hb : Bag H b c) (k : Kp b H H') : BB K C H' A D := by
  have nb : A.o ≠ b := fun z => by
    obtain ⟨_, _, _, _, w, _⟩ := hb
    have := h.bk
    rw [z, w] at this
    cases this
  exact ⟨k _ _ nb h.bk, SqT.kpB h.tT hb k, SqT.kpB h.tG hb k, SqT.kpB h.tS hb k, SqT.kpB h.tL hb k, h.r.kp hb k⟩
/-- a law's four lists in a list -/
structure LP (H : Hp) (b p : Addr) (l : Pt → Addr) (xs : Pt → List V) (D : PD) : Prop where
  hp : H p = some (.lst [.ref (l .tel), .ref (l .gap), .ref (l .sur), .ref (l .cla)])
  np : p ≠ b
  hl : ∀ u, H (l u) = some (.lst (xs u))
  nl : ∀ u, l u ≠ b
  r : PR H xs D
theorem LP.same {H H' : Hp} {b p : Addr} {l : Pt → Addr} {xs : Pt → List V} {D : PD} (h : LP H b p l xs D) (s : Same H H') : LP H' b p l xs D := ⟨s _ _ h.hp, h.np, fun u => s _ _ (h.hl u), h.nl, h.r.same s⟩
theorem LP.kp {H H' : Hp} {b c p : Addr} {l : Pt → Addr} {xs : Pt → List V} {D : PD} (h : LP H b p l xs D) (hb : Bag H b c) (k : Kp b H H') : LP H' b p l xs D := ⟨k _ _ h.np h.hp, h.np, fun u => k _ _ (h.nl u) (h.hl u), h.nl, h.r.kp hb k⟩
/-- both, and the bag -/
structure WW (K : Frag) (C b c : Addr) (H : Hp) (A : BA) (p : Addr) (l : Pt → Addr) (D : PD) : Prop where
  bag : Bag H b c
  bb : BB K C H A D
  lp : LP H b p l A.xs D
section
variable {K : Frag} {C b c : Addr} {H H' : Hp} {A : BA} {p : Addr} {l : Pt → Addr} {D : PD}
theorem WW.kp (h : WW K C b c H A p l D) (hb : Bag H' b c) (k : Kp b H H') : WW K C b c H' A p l D := ⟨hb, h.bb.kp h.bag k, h.lp.kp h.bag k⟩
theorem WW.same (h : WW K C b c H A p l D) (s : Same H H') : WW K C b c H' A p l D := ⟨h.bag.same s, h.bb.same s, h.lp.same s⟩
end
/-! ### a law makes a book of its lists -/
def spMade (K : Frag) (C : Addr) : Sp := fun vs H Q _ => ∃ (ev wi : Int) (p : Addr) (l : Pt → Addr) (xs : Pt → List V), vs = [.int ev, .int wi, .ref p] ∧ 0 ≤ ev ∧ ev ≤ 8 ∧ 0 ≤ wi ∧ wi ≤ 8 ∧ H p = some (.lst [.ref (l .tel), .ref (l .gap), .ref (l .sur), .ref (l .cla)]) ∧ (∀ u, PartOk K u H (l u) (xs u) ev wi) ∧
  ∀ H' o dx t g s q, Same H H' → H' o = some (bookO C dx ev wi t g s q) → SqT K H' t (xs .tel) → SqT K H' g (xs .gap) → SqT K H' s (xs .sur) → SqT K H' q (xs .cla) → Q (.ref o) H'
section
variable {P : Program} {w : World} {K : Frag} {mg : Str → Option Value} {base : Heap} {f : Addr} {fd : FuncData} {C : Addr} {Dk : BookD}
end
end EL

/- part K91A -/
namespace EL
open PySem PySem.Spec PyProof.Rows L2
open PySem.W (Frag)
open TX
abbrev s_line_of : Stmt := top 29
abbrev N_line_of : List Str := ["part", "item", "w", "e", "x", "a", "b", "g", "side", "kind", "v", "other"]
theorem sc_line_of : FnScope N_line_of ["part", "item"] (defScope s_line_of) := ⟨rfl, rfl, rfl, by decide +kernel, rfl, by decide +kernel, by decide +kernel⟩
local macro_rules | `(tactic| walk_at "el1") => `(tactic| with_reducible first
  | refine a_sasg ?_ | refine a_sdrop ?_ | refine a_saugS ?_ | refine a_spar ?_ | refine a_seq ?_ | refine a_asg ?_ | refine a_drop ?_ | refine a_ret ?_ | refine a_if ?_ | refine a_next ?_
  | refine a_op ?_ | refine a_cons ?_ | refine a_nil ?_ | refine a_cb ?_ | refine a_call ?_ | refine a_c ?_ | refine a_gn ?_ | refine a_nx ?_ | refine a_rt ?_ | refine a_un ?_
  | refine a_test ?_ | refine a_B ?_ | refine a_bl ?_ | refine a_and ?_ | refine a_or ?_ | refine a_not ?_ | refine a_andV ?_ | refine a_orV ?_ | refine a_notV ?_ | refine a_ifx ?_ | refine a_chain ?_
  | refine a_nT ?_ | refine a_nF ?_ | refine a_fld ?_ | refine a_getF ?_ | refine a_T ?_ | refine a_F ?_ | refine a_tup ?_ | refine a_lst ?_ | refine a_sub ?_ | refine a_augS ?_ | refine a_two ?_ | refine a_I0 ?_ | refine a_U ?_ | refine n_add ?_ | refine n_int ?_ | refine n_ib ?_ | refine a_ip ?_ | refine a_rng1 ?_ | refine a_rng2 ?_ | refine a_bm ?_ | refine a_abs ?_ | refine a_pairs ?_ | refine a_pairs0 ?_ | refine a_bk ?_ | refine a_prp ?_ | refine a_lc ?_ | refine a_yes ?_ | refine a_sl ?_ | refine a_nop ?_ | refine a_prt ?_ | refine a_ex1 ?_ | refine a_for ?_ | refine a_sfor ?_ | refine a_iE1 ?_ | refine a_iEs ?_ | refine a_iEz ?_ | refine a_iEnum ?_ | refine a_iTup ?_ | refine a_iList ?_ | refine a_gcons ?_ | refine a_gnil ?_ | refine a_revT ?_ | refine a_spar3 ?_ | refine a_par3 ?_ | refine a_three ?_)
local macro_rules | `(tactic| walk_at "el2") => `(tactic| first
  | (refine a_var (by rfl) ?_)
  | (refine n_ixL (SqL.of (by assumption)) (by rfl) ?_) | (refine n_ixT (SqT.of (by assumption)) (by rfl) ?_) | (refine n_eq (by rfl) ?_) | (refine n_ne (by rfl) ?_)
  | (refine n_isN ?_) | (refine n_notN ?_) | (refine n_isB ?_) | (refine n_notB ?_) | (refine n_isBI ?_) | (refine n_notBI ?_) | (refine n_len (.inl (SqL.of (by assumption))) ?_) | (refine n_len (.inr (SqT.of (by assumption))) ?_)
  | (refine a_getL (SqL.of (by assumption)) (by rfl) ?_)
  | (refine n_isInt (by assumption) ?_) | (refine n_isBool (by assumption) ?_) | (refine n_isStr (by assumption) ?_) | (refine n_isTup (by assumption) ?_) | (refine n_isLst (by assumption) ?_))
local macro_rules | `(tactic| walk_at "el") => `(tactic| repeat (first | walk_at "el1" | walk_at "el2"))

def lineS (ws : List Str) : Str := Txt.join ⟨#[32]⟩ ws
theorem js_nil {acc : Str} {σ : L2.St} {H : Hp} {Q : Str → Hp → Prop} (q : Q acc H) : tJs [] acc σ H Q := q
theorem js_cons {t : TE} {ts : List TE} {acc : Str} {σ : L2.St} {H : Hp} {Q : Str → Hp → Prop} (q : t σ H fun x H1 => ∃ y : Str, x = .str y ∧ (acc ++ y).length ≤ sizeLine ∧ tJs ts (acc ++ y) σ H1 Q) : tJs (t :: ts) acc σ H Q := q
theorem js_c {c acc : Str} {ts : List TE} {σ : L2.St} {H : Hp} {Q : Str → Hp → Prop} (l : (acc ++ c).length ≤ sizeLine) (q : tJs ts (acc ++ c) σ H Q) : tJs (tC (.str c) :: ts) acc σ H Q := ⟨c, rfl, l, q⟩
theorem js_i {n : Nat} {i : Int} {acc : Str} {ts : List TE} {σ : L2.St} {H : Hp} {Q : Str → Hp → Prop} (h : σ[n]? = some (some (.int i))) (hi : i.natAbs < 10 ^ 40) (l : (acc ++ showI i).length ≤ sizeLine) (q : tJs ts (acc ++ showI i) σ H Q) : tJs (tFmt (tVar n) :: ts) acc σ H Q :=
  ⟨_, h, .inr ⟨i, rfl, log_of (Nat.lt_trans hi (by decide +kernel)), _, rfl, l, q⟩⟩
theorem js_s {n : Nat} {c : Str} {acc : Str} {ts : List TE} {σ : L2.St} {H : Hp} {Q : Str → Hp → Prop} (h : σ[n]? = some (some (.str c))) (hc : c.length ≤ sizeLine) (l : (acc ++ c).length ≤ sizeLine) (q : tJs ts (acc ++ c) σ H Q) : tJs (tFmt (tVar n) :: ts) acc σ H Q :=
  ⟨_, h, .inl ⟨c, rfl, hc, _, rfl, l, q⟩⟩
theorem line_list (ws : List Str) : (lineS ws).cps.toList = flat 32 (ws.map (·.cps.toList)) := by
  unfold lineS
  rw [show Txt.join ⟨#[32]⟩ ws = (⟨#[32]⟩ : Str).join ws from StrLaws.glued_eq_join _ ws]
  exact flat_of 32 ws
/-- the words of the four kinds of items -/
def wT (x : Int × Int × Int) : List Str := ["tell", showI x.1, showI x.2.1, showI x.2.2]
def wG (x : Int × Int × Int) : List Str := ["gap", showI x.1, showI x.2.1, showI x.2.2]
def wS (x : Int × Str × Int) : List Str := [x.2.1, showI x.1, showI x.2.2]
def wL (x : Int × Str × Int × Str) : List Str := if x.1 = x.2.2.1 ∧ x.2.1 = x.2.2.2 then ["known", showI x.1, x.2.1] else ["clause", showI x.1, x.2.1, showI x.2.2.1, x.2.2.2]
def spLine : Sp := fun vs H Q _ => ∃ p : Addr,
  (∃ x : Int × Int × Int, vs = [.str "tellings", .ref p] ∧ H p = some (.tup [.int x.1, .int x.2.1, .int x.2.2]) ∧ x.1.natAbs < 10 ^ 40 ∧ x.2.1.natAbs < 10 ^ 40 ∧ x.2.2.natAbs < 10 ^ 40 ∧ Q (.str (lineS (wT x))) H) ∨
  (∃ x : Int × Int × Int, vs = [.str "gaps", .ref p] ∧ H p = some (.tup [.int x.1, .int x.2.1, .int x.2.2]) ∧ x.1.natAbs < 10 ^ 40 ∧ x.2.1.natAbs < 10 ^ 40 ∧ x.2.2.natAbs < 10 ^ 40 ∧ Q (.str (lineS (wG x))) H) ∨
  (∃ x : Int × Str × Int, vs = [.str "sure", .ref p] ∧ H p = some (.tup [.int x.1, .str x.2.1, .int x.2.2]) ∧ x.1.natAbs < 10 ^ 40 ∧ x.2.1.length ≤ 100 ∧ x.2.2.natAbs < 10 ^ 40 ∧ Q (.str (lineS (wS x))) H) ∨
  (∃ x : Int × Str × Int × Str, vs = [.str "clauses", .ref p] ∧ H p = some (.tup [.int x.1, .str x.2.1, .int x.2.2.1, .str x.2.2.2]) ∧ x.1.natAbs < 10 ^ 40 ∧ x.2.1.length ≤ 100 ∧ x.2.2.1.natAbs < 10 ^ 40 ∧ x.2.2.2.length ≤ 100 ∧ Q (.str (lineS (wL x))) H)
theorem ltell : ("tell " : Str).cps.toList = ("tell" : Str).cps.toList ++ [32] := by decide +kernel
theorem lgap : ("gap " : Str).cps.toList = ("gap" : Str).cps.toList ++ [32] := by decide +kernel
theorem lknown : ("known " : Str).cps.toList = ("known" : Str).cps.toList ++ [32] := by decide +kernel
theorem lclause : ("clause " : Str).cps.toList = ("clause" : Str).cps.toList ++ [32] := by decide +kernel
theorem lsp : (" " : Str).cps.toList = [32] := by decide +kernel
theorem lem : Str.empty.cps.toList = [] := rfl
theorem nl5 : ("tell " : Str).length = 5 ∧ ("gap " : Str).length = 4 ∧ ("known " : Str).length = 6 ∧ ("clause " : Str).length = 7 ∧ (" " : Str).length = 1 ∧ Str.empty.length = 0 ∧ sizeLine = 16777216 := by decide +kernel
local macro_rules | `(tactic| walk_at "jl") => `(tactic| (have q := nl5; simp only [Str.length_append]; omega))
section
variable {P : Program} {w : World} {K : Frag} {mg : Str → Option Value} {base : Heap} {f C aForms aParts : Addr} {fd : FuncData}
theorem ok_line_of (F : Fun K "line_of" "line_of" s_line_of f fd) (T : Tb mg) : FnOk P w K mg base CX0 1 f fd ["part", "item"] spLine := by
  refine F.ok sc_line_of (fun vs H Q E h => ?_) (fun cdv A outer s H vs Q E hr h => ?_)
  · obtain ⟨_, ⟨_, rfl, _⟩ | ⟨_, rfl, _⟩ | ⟨_, rfl, _⟩ | ⟨_, rfl, _⟩⟩ := h <;> rfl
  · obtain ⟨p, h⟩ := h
    rcases h with ⟨x, rfl, hp, h1, h2, h3, k⟩ | ⟨x, rfl, hp, h1, h2, h3, k⟩ | ⟨x, rfl, hp, h1, h2, h3, k⟩ | ⟨x, rfl, hp, h1, h2, h3, h4, k⟩
    · have l1 := showI_len h1
      have l2 := showI_len h2
      have l3 := showI_len h3
      have e : Str.empty ++ "tell " ++ showI x.1 ++ " " ++ showI x.2.1 ++ " " ++ showI x.2.2 = lineS (wT x) := by
        refine str_ext ?_
        rw [line_list]
        simp only [app_list, wT, List.map, flat, ltell, lsp, lem]
        simp
      refine ⟨_, (pss_cons (ps_if (pt_cmpR (u_eq hr.units) (pv 0) pe_str (nomark _))
    (pss_cons (ps_asg (pv 1) (pg_tup rfl (pgs_cons (pg_name (i := 2) sc_line_of.nd rfl (Or.inl rfl)) (pgs_cons (pg_name (i := 3) sc_line_of.nd rfl (Or.inl rfl)) (pgs_cons (pg_name (i := 4) sc_line_of.nd rfl (Or.inl rfl)) pgs_nil)))))
  (pss_one (ps_ret (pe_joined (PJ.cons pe_str (PJ.cons (pe_fmt (pv 2)) (PJ.cons pe_str (PJ.cons (pe_fmt (pv 3)) (PJ.cons pe_str (PJ.cons (pe_fmt (pv 4)) PJ.nil))))))))))
    pss_nil)
  (pss_cons (ps_if (pt_cmpR (u_eq hr.units) (pv 0) pe_str (nomark _))
    (pss_cons (ps_asg (pv 1) (pg_tup rfl (pgs_cons (pg_name (i := 5) sc_line_of.nd rfl (Or.inl rfl)) (pgs_cons (pg_name (i := 6) sc_line_of.nd rfl (Or.inl rfl)) (pgs_cons (pg_name (i := 7) sc_line_of.nd rfl (Or.inl rfl)) pgs_nil)))))
  (pss_one (ps_ret (pe_joined (PJ.cons pe_str (PJ.cons (pe_fmt (pv 5)) (PJ.cons pe_str (PJ.cons (pe_fmt (pv 6)) (PJ.cons pe_str (PJ.cons (pe_fmt (pv 7)) PJ.nil))))))))))
    pss_nil)
  (pss_cons (ps_if (pt_cmpR (u_eq hr.units) (pv 0) pe_str (nomark _))
    (pss_cons (ps_asg (pv 1) (pg_tup rfl (pgs_cons (pg_name (i := 3) sc_line_of.nd rfl (Or.inl rfl)) (pgs_cons (pg_name (i := 8) sc_line_of.nd rfl (Or.inl rfl)) (pgs_cons (pg_name (i := 4) sc_line_of.nd rfl (Or.inl rfl)) pgs_nil)))))
  (pss_one (ps_ret (pe_joined (PJ.cons (pe_fmt (pv 8)) (PJ.cons pe_str (PJ.cons (pe_fmt (pv 3)) (PJ.cons pe_str (PJ.cons (pe_fmt (pv 4)) PJ.nil)))))))))
    pss_nil)
  (pss_cons (ps_asg (pv 1) (pg_tup rfl (pgs_cons (pg_name (i := 2) sc_line_of.nd rfl (Or.inl rfl)) (pgs_cons (pg_name (i := 9) sc_line_of.nd rfl (Or.inl rfl)) (pgs_cons (pg_name (i := 10) sc_line_of.nd rfl (Or.inl rfl)) (pgs_cons (pg_name (i := 11) sc_line_of.nd rfl (Or.inl rfl)) pgs_nil))))))
  (pss_cons (ps_if (PW.pt (pw_and (pt_cmpR (u_eq hr.units) (pv 2) (pv 10) (nomark _)) (pw_and1 (pt_cmpR (u_eq hr.units) (pv 9) (pv 11) (nomark _)))))
    (pss_one (ps_ret (pe_joined (PJ.cons pe_str (PJ.cons (pe_fmt (pv 2)) (PJ.cons pe_str (PJ.cons (pe_fmt (pv 9)) PJ.nil)))))))
    pss_nil)
  (pss_one (ps_ret (pe_joined (PJ.cons pe_str (PJ.cons (pe_fmt (pv 2)) (PJ.cons pe_str (PJ.cons (pe_fmt (pv 9)) (PJ.cons pe_str (PJ.cons (pe_fmt (pv 10)) (PJ.cons pe_str (PJ.cons (pe_fmt (pv 11)) PJ.nil)))))))))))))))), ?_⟩
      walk_at "el"
      rw [decide_eq_true rfl]
      walk_at "el"
      refine ⟨p, _, rfl, SqT.of hp, rfl, ?_⟩
      walk_at "el"
      refine js_c (by walk_at "jl") (js_i (by rfl) h1 (by walk_at "jl") (js_c (by walk_at "jl") (js_i (by rfl) h2 (by walk_at "jl") (js_c (by walk_at "jl") (js_i (by rfl) h3 (by walk_at "jl") (js_nil ?_))))))
      rw [e]
      exact k
    · have l1 := showI_len h1
      have l2 := showI_len h2
      have l3 := showI_len h3
      have e : Str.empty ++ "gap " ++ showI x.1 ++ " " ++ showI x.2.1 ++ " " ++ showI x.2.2 = lineS (wG x) := by
        refine str_ext ?_
        rw [line_list]
        simp only [app_list, wG, List.map, flat, lgap, lsp, lem]
        simp
      refine ⟨_, (pss_cons (ps_if (pt_cmpR (u_eq hr.units) (pv 0) pe_str (nomark _))
    (pss_cons (ps_asg (pv 1) (pg_tup rfl (pgs_cons (pg_name (i := 2) sc_line_of.nd rfl (Or.inl rfl)) (pgs_cons (pg_name (i := 3) sc_line_of.nd rfl (Or.inl rfl)) (pgs_cons (pg_name (i := 4) sc_line_of.nd rfl (Or.inl rfl)) pgs_nil)))))
  (pss_one (ps_ret (pe_joined (PJ.cons pe_str (PJ.cons (pe_fmt (pv 2)) (PJ.cons pe_str (PJ.cons (pe_fmt (pv 3)) (PJ.cons pe_str (PJ.cons (pe_fmt (pv 4)) PJ.nil))))))))))
    pss_nil)
  (pss_cons (ps_if (pt_cmpR (u_eq hr.units) (pv 0) pe_str (nomark _))
    (pss_cons (ps_asg (pv 1) (pg_tup rfl (pgs_cons (pg_name (i := 5) sc_line_of.nd rfl (Or.inl rfl)) (pgs_cons (pg_name (i := 6) sc_line_of.nd rfl (Or.inl rfl)) (pgs_cons (pg_name (i := 7) sc_line_of.nd rfl (Or.inl rfl)) pgs_nil)))))
  (pss_one (ps_ret (pe_joined (PJ.cons pe_str (PJ.cons (pe_fmt (pv 5)) (PJ.cons pe_str (PJ.cons (pe_fmt (pv 6)) (PJ.cons pe_str (PJ.cons (pe_fmt (pv 7)) PJ.nil))))))))))
    pss_nil)
  (pss_cons (ps_if (pt_cmpR (u_eq hr.units) (pv 0) pe_str (nomark _))
    (pss_cons (ps_asg (pv 1) (pg_tup rfl (pgs_cons (pg_name (i := 3) sc_line_of.nd rfl (Or.inl rfl)) (pgs_cons (pg_name (i := 8) sc_line_of.nd rfl (Or.inl rfl)) (pgs_cons (pg_name (i := 4) sc_line_of.nd rfl (Or.inl rfl)) pgs_nil)))))
  (pss_one (ps_ret (pe_joined (PJ.cons (pe_fmt (pv 8)) (PJ.cons pe_str (PJ.cons (pe_fmt (pv 3)) (PJ.cons pe_str (PJ.cons (pe_fmt (pv 4)) PJ.nil)))))))))
    pss_nil)
  (pss_cons (ps_asg (pv 1) (pg_tup rfl (pgs_cons (pg_name (i := 2) sc_line_of.nd rfl (Or.inl rfl)) (pgs_cons (pg_name (i := 9) sc_line_of.nd rfl (Or.inl rfl)) (pgs_cons (pg_name (i := 10) sc_line_of.nd rfl (Or.inl rfl)) (pgs_cons (pg_name (i := 11) sc_line_of.nd rfl (Or.inl rfl)) pgs_nil))))))
  (pss_cons (ps_if (PW.pt (pw_and (pt_cmpR (u_eq hr.units) (pv 2) (pv 10) (nomark _)) (pw_and1 (pt_cmpR (u_eq hr.units) (pv 9) (pv 11) (nomark _)))))
    (pss_one (ps_ret (pe_joined (PJ.cons pe_str (PJ.cons (pe_fmt (pv 2)) (PJ.cons pe_str (PJ.cons (pe_fmt (pv 9)) PJ.nil)))))))
    pss_nil)
  (pss_one (ps_ret (pe_joined (PJ.cons pe_str (PJ.cons (pe_fmt (pv 2)) (PJ.cons pe_str (PJ.cons (pe_fmt (pv 9)) (PJ.cons pe_str (PJ.cons (pe_fmt (pv 10)) (PJ.cons pe_str (PJ.cons (pe_fmt (pv 11)) PJ.nil)))))))))))))))), ?_⟩
      walk_at "el"
      rw [show decide (V.str "gaps" = V.str "tellings") = false from by decide +kernel]
      walk_at "el"
      rw [decide_eq_true rfl]
      walk_at "el"
      refine ⟨p, _, rfl, SqT.of hp, rfl, ?_⟩
      walk_at "el"
      refine js_c (by walk_at "jl") (js_i (by rfl) h1 (by walk_at "jl") (js_c (by walk_at "jl") (js_i (by rfl) h2 (by walk_at "jl") (js_c (by walk_at "jl") (js_i (by rfl) h3 (by walk_at "jl") (js_nil ?_))))))
      rw [e]
      exact k
    · have l1 := showI_len h1
      have l3 := showI_len h3
      have e : Str.empty ++ x.2.1 ++ " " ++ showI x.1 ++ " " ++ showI x.2.2 = lineS (wS x) := by
        refine str_ext ?_
        rw [line_list]
        simp only [app_list, wS, List.map, flat, lsp, lem]
        simp
      refine ⟨_, (pss_cons (ps_if (pt_cmpR (u_eq hr.units) (pv 0) pe_str (nomark _))
    (pss_cons (ps_asg (pv 1) (pg_tup rfl (pgs_cons (pg_name (i := 2) sc_line_of.nd rfl (Or.inl rfl)) (pgs_cons (pg_name (i := 3) sc_line_of.nd rfl (Or.inl rfl)) (pgs_cons (pg_name (i := 4) sc_line_of.nd rfl (Or.inl rfl)) pgs_nil)))))
  (pss_one (ps_ret (pe_joined (PJ.cons pe_str (PJ.cons (pe_fmt (pv 2)) (PJ.cons pe_str (PJ.cons (pe_fmt (pv 3)) (PJ.cons pe_str (PJ.cons (pe_fmt (pv 4)) PJ.nil))))))))))
    pss_nil)
  (pss_cons (ps_if (pt_cmpR (u_eq hr.units) (pv 0) pe_str (nomark _))
    (pss_cons (ps_asg (pv 1) (pg_tup rfl (pgs_cons (pg_name (i := 5) sc_line_of.nd rfl (Or.inl rfl)) (pgs_cons (pg_name (i := 6) sc_line_of.nd rfl (Or.inl rfl)) (pgs_cons (pg_name (i := 7) sc_line_of.nd rfl (Or.inl rfl)) pgs_nil)))))
  (pss_one (ps_ret (pe_joined (PJ.cons pe_str (PJ.cons (pe_fmt (pv 5)) (PJ.cons pe_str (PJ.cons (pe_fmt (pv 6)) (PJ.cons pe_str (PJ.cons (pe_fmt (pv 7)) PJ.nil))))))))))
    pss_nil)
  (pss_cons (ps_if (pt_cmpR (u_eq hr.units) (pv 0) pe_str (nomark _))
    (pss_cons (ps_asg (pv 1) (pg_tup rfl (pgs_cons (pg_name (i := 3) sc_line_of.nd rfl (Or.inl rfl)) (pgs_cons (pg_name (i := 8) sc_line_of.nd rfl (Or.inl rfl)) (pgs_cons (pg_name (i := 4) sc_line_of.nd rfl (Or.inl rfl)) pgs_nil)))))
  (pss_one (ps_ret (pe_joined (PJ.cons (pe_fmt (pv 8)) (PJ.cons pe_str (PJ.cons (pe_fmt (pv 3)) (PJ.cons pe_str (PJ.cons (pe_fmt (pv 4)) PJ.nil)))))))))
    pss_nil)
  (pss_cons (ps_asg (pv 1) (pg_tup rfl (pgs_cons (pg_name (i := 2) sc_line_of.nd rfl (Or.inl rfl)) (pgs_cons (pg_name (i := 9) sc_line_of.nd rfl (Or.inl rfl)) (pgs_cons (pg_name (i := 10) sc_line_of.nd rfl (Or.inl rfl)) (pgs_cons (pg_name (i := 11) sc_line_of.nd rfl (Or.inl rfl)) pgs_nil))))))
  (pss_cons (ps_if (PW.pt (pw_and (pt_cmpR (u_eq hr.units) (pv 2) (pv 10) (nomark _)) (pw_and1 (pt_cmpR (u_eq hr.units) (pv 9) (pv 11) (nomark _)))))
    (pss_one (ps_ret (pe_joined (PJ.cons pe_str (PJ.cons (pe_fmt (pv 2)) (PJ.cons pe_str (PJ.cons (pe_fmt (pv 9)) PJ.nil)))))))
    pss_nil)
  (pss_one (ps_ret (pe_joined (PJ.cons pe_str (PJ.cons (pe_fmt (pv 2)) (PJ.cons pe_str (PJ.cons (pe_fmt (pv 9)) (PJ.cons pe_str (PJ.cons (pe_fmt (pv 10)) (PJ.cons pe_str (PJ.cons (pe_fmt (pv 11)) PJ.nil)))))))))))))))), ?_⟩
      walk_at "el"
      rw [show decide (V.str "sure" = V.str "tellings") = false from by decide +kernel]
      walk_at "el"
      rw [show decide (V.str "sure" = V.str "gaps") = false from by decide +kernel]
      walk_at "el"
      rw [decide_eq_true rfl]
      walk_at "el"
      refine ⟨p, _, rfl, SqT.of hp, rfl, ?_⟩
      walk_at "el"
      have q0 := nl5
      refine js_s (by rfl) (by omega) (by walk_at "jl") (js_c (by walk_at "jl") (js_i (by rfl) h1 (by walk_at "jl") (js_c (by walk_at "jl") (js_i (by rfl) h3 (by walk_at "jl") (js_nil ?_)))))
      rw [e]
      exact k
    · have l1 := showI_len h1
      have l3 := showI_len h3
      have q0 := nl5
      have e1 : Str.empty ++ "known " ++ showI x.1 ++ " " ++ x.2.1 = lineS ["known", showI x.1, x.2.1] := by
        refine str_ext ?_
        rw [line_list]
        simp only [app_list, List.map, flat, lknown, lsp, lem]
        simp
      have e2 : Str.empty ++ "clause " ++ showI x.1 ++ " " ++ x.2.1 ++ " " ++ showI x.2.2.1 ++ " " ++ x.2.2.2 = lineS ["clause", showI x.1, x.2.1, showI x.2.2.1, x.2.2.2] := by
        refine str_ext ?_
        rw [line_list]
        simp only [app_list, List.map, flat, lclause, lsp, lem]
        simp
      refine ⟨_, (pss_cons (ps_if (pt_cmpR (u_eq hr.units) (pv 0) pe_str (nomark _))
    (pss_cons (ps_asg (pv 1) (pg_tup rfl (pgs_cons (pg_name (i := 2) sc_line_of.nd rfl (Or.inl rfl)) (pgs_cons (pg_name (i := 3) sc_line_of.nd rfl (Or.inl rfl)) (pgs_cons (pg_name (i := 4) sc_line_of.nd rfl (Or.inl rfl)) pgs_nil)))))
  (pss_one (ps_ret (pe_joined (PJ.cons pe_str (PJ.cons (pe_fmt (pv 2)) (PJ.cons pe_str (PJ.cons (pe_fmt (pv 3)) (PJ.cons pe_str (PJ.cons (pe_fmt (pv 4)) PJ.nil))))))))))
    pss_nil)
  (pss_cons (ps_if (pt_cmpR (u_eq hr.units) (pv 0) pe_str (nomark _))
    (pss_cons (ps_asg (pv 1) (pg_tup rfl (pgs_cons (pg_name (i := 5) sc_line_of.nd rfl (Or.inl rfl)) (pgs_cons (pg_name (i := 6) sc_line_of.nd rfl (Or.inl rfl)) (pgs_cons (pg_name (i := 7) sc_line_of.nd rfl (Or.inl rfl)) pgs_nil)))))
  (pss_one (ps_ret (pe_joined (PJ.cons pe_str (PJ.cons (pe_fmt (pv 5)) (PJ.cons pe_str (PJ.cons (pe_fmt (pv 6)) (PJ.cons pe_str (PJ.cons (pe_fmt (pv 7)) PJ.nil))))))))))
    pss_nil)
  (pss_cons (ps_if (pt_cmpR (u_eq hr.units) (pv 0) pe_str (nomark _))
    (pss_cons (ps_asg (pv 1) (pg_tup rfl (pgs_cons (pg_name (i := 3) sc_line_of.nd rfl (Or.inl rfl)) (pgs_cons (pg_name (i := 8) sc_line_of.nd rfl (Or.inl rfl)) (pgs_cons (pg_name (i := 4) sc_line_of.nd rfl (Or.inl rfl)) pgs_nil)))))
  (pss_one (ps_ret (pe_joined (PJ.cons (pe_fmt (pv 8)) (PJ.cons pe_str (PJ.cons (pe_fmt (pv 3)) (PJ.cons pe_str (PJ.cons (pe_fmt (pv 4)) PJ.nil)))))))))
    pss_nil)
  (pss_cons (ps_asg (pv 1) (pg_tup rfl (pgs_cons (pg_name (i := 2) sc_line_of.nd rfl (Or.inl rfl)) (pgs_cons (pg_name (i := 9) sc_line_of.nd rfl (Or.inl rfl)) (pgs_cons (pg_name (i := 10) sc_line_of.nd rfl (Or.inl rfl)) (pgs_cons (pg_name (i := 11) sc_line_of.nd rfl (Or.inl rfl)) pgs_nil))))))
  (pss_cons (ps_if (PW.pt (pw_and (pt_cmpR (u_eq hr.units) (pv 2) (pv 10) (nomark _)) (pw_and1 (pt_cmpR (u_eq hr.units) (pv 9) (pv 11) (nomark _)))))
    (pss_one (ps_ret (pe_joined (PJ.cons pe_str (PJ.cons (pe_fmt (pv 2)) (PJ.cons pe_str (PJ.cons (pe_fmt (pv 9)) PJ.nil)))))))
    pss_nil)
  (pss_one (ps_ret (pe_joined (PJ.cons pe_str (PJ.cons (pe_fmt (pv 2)) (PJ.cons pe_str (PJ.cons (pe_fmt (pv 9)) (PJ.cons pe_str (PJ.cons (pe_fmt (pv 10)) (PJ.cons pe_str (PJ.cons (pe_fmt (pv 11)) PJ.nil)))))))))))))))), ?_⟩
      walk_at "el"
      rw [show decide (V.str "clauses" = V.str "tellings") = false from by decide +kernel]
      walk_at "el"
      rw [show decide (V.str "clauses" = V.str "gaps") = false from by decide +kernel]
      walk_at "el"
      rw [show decide (V.str "clauses" = V.str "sure") = false from by decide +kernel]
      walk_at "el"
      refine ⟨p, _, rfl, SqT.of hp, rfl, ?_⟩
      walk_at "el"
      have d1 : decide (V.int x.1 = V.int x.2.2.1) = decide (x.1 = x.2.2.1) := by
        rw [Bool.eq_iff_iff, decide_eq_true_iff, decide_eq_true_iff]; exact ⟨fun h => V.int.inj h, fun h => congrArg V.int h⟩
      have d2 : decide (V.str x.2.1 = V.str x.2.2.2) = decide (x.2.1 = x.2.2.2) := by
        rw [Bool.eq_iff_iff, decide_eq_true_iff, decide_eq_true_iff]; exact ⟨fun h => V.str.inj h, fun h => congrArg V.str h⟩
      rw [d1]
      have kn : x.1 = x.2.2.1 ∧ x.2.1 = x.2.2.2 → Q (.str (lineS ["known", showI x.1, x.2.1])) H := fun c => by
        unfold wL at k; rw [if_pos c] at k; exact k
      have kc : ¬ (x.1 = x.2.2.1 ∧ x.2.1 = x.2.2.2) → Q (.str (lineS ["clause", showI x.1, x.2.1, showI x.2.2.1, x.2.2.2])) H := fun c => by
        unfold wL at k; rw [if_neg c] at k; exact k
      by_cases c1 : x.1 = x.2.2.1
      · rw [decide_eq_true c1]
        walk_at "el"
        rw [d2]
        by_cases c2 : x.2.1 = x.2.2.2
        · rw [decide_eq_true c2]
          walk_at "el"
          refine js_c (by walk_at "jl") (js_i (by rfl) h1 (by walk_at "jl") (js_c (by walk_at "jl") (js_s (by rfl) (by omega) (by walk_at "jl") (js_nil ?_))))
          rw [e1]
          exact kn ⟨c1, c2⟩
        · rw [decide_eq_false c2]
          walk_at "el"
          refine js_c (by walk_at "jl") (js_i (by rfl) h1 (by walk_at "jl") (js_c (by walk_at "jl") (js_s (by rfl) (by omega) (by walk_at "jl") (js_c (by walk_at "jl") (js_i (by rfl) h3 (by walk_at "jl") (js_c (by walk_at "jl") (js_s (by rfl) (by omega) (by walk_at "jl") (js_nil ?_))))))))
          rw [e2]
          exact kc fun c => c2 c.2
      · rw [decide_eq_false c1]
        walk_at "el"
        refine js_c (by walk_at "jl") (js_i (by rfl) h1 (by walk_at "jl") (js_c (by walk_at "jl") (js_s (by rfl) (by omega) (by walk_at "jl") (js_c (by walk_at "jl") (js_i (by rfl) h3 (by walk_at "jl") (js_c (by walk_at "jl") (js_s (by rfl) (by omega) (by walk_at "jl") (js_nil ?_))))))))
        rw [e2]
        exact kc fun c => c1 c.1
end
end EL

/- part K93A -/
namespace EL
open PySem PySem.Spec PyProof.Rows L2
open PySem.W (Frag)
open TX
abbrev s_NoText_init : Stmt := inClass (top 6) 0
abbrev N_NoText_init : List Str := ["self", "line"]
theorem sc_NoText_init : FnScope N_NoText_init ["self", "line"] (defScope s_NoText_init) := ⟨rfl, rfl, rfl, by decide +kernel, rfl, by decide +kernel, by decide +kernel⟩
abbrev s_integer_of : Stmt := top 35
abbrev N_integer_of : List Str := ["word", "digits", "digit", "number"]
theorem sc_integer_of : FnScope N_integer_of ["word"] (defScope s_integer_of) := ⟨rfl, rfl, rfl, by decide +kernel, rfl, by decide +kernel, by decide +kernel⟩
abbrev s__lines_of : Stmt := top 41
abbrev N__lines_of : List Str := ["text"]
theorem sc__lines_of : FnScope N__lines_of ["text"] (defScope s__lines_of) := ⟨rfl, rfl, rfl, by decide +kernel, rfl, by decide +kernel, by decide +kernel⟩
local macro_rules | `(tactic| walk_at "el1") => `(tactic| with_reducible first
  | refine a_sasg ?_ | refine a_sdrop ?_ | refine a_saugS ?_ | refine a_spar ?_ | refine a_seq ?_ | refine a_asg ?_ | refine a_drop ?_ | refine a_ret ?_ | refine a_if ?_ | refine a_next ?_
  | refine a_op ?_ | refine a_cons ?_ | refine a_nil ?_ | refine a_cb ?_ | refine a_call ?_ | refine a_c ?_ | refine a_gn ?_ | refine a_nx ?_ | refine a_rt ?_ | refine a_un ?_
  | refine a_test ?_ | refine a_B ?_ | refine a_bl ?_ | refine a_and ?_ | refine a_or ?_ | refine a_not ?_ | refine a_andV ?_ | refine a_orV ?_ | refine a_notV ?_ | refine a_ifx ?_ | refine a_chain ?_
  | refine a_nT ?_ | refine a_nF ?_ | refine a_fld ?_ | refine a_getF ?_ | refine a_T ?_ | refine a_F ?_ | refine a_tup ?_ | refine a_lst ?_ | refine a_sub ?_ | refine a_augS ?_ | refine a_two ?_ | refine a_I0 ?_ | refine a_U ?_ | refine n_add ?_ | refine n_int ?_ | refine n_ib ?_ | refine a_ip ?_ | refine a_rng1 ?_ | refine a_rng2 ?_ | refine a_bm ?_ | refine a_abs ?_ | refine a_pairs ?_ | refine a_pairs0 ?_ | refine a_bk ?_ | refine a_prp ?_ | refine a_lc ?_ | refine a_yes ?_ | refine a_sl ?_ | refine a_nop ?_ | refine a_prt ?_ | refine a_ex1 ?_ | refine a_for ?_ | refine a_sfor ?_ | refine a_iE1 ?_ | refine a_iEs ?_ | refine a_iEz ?_ | refine a_iEnum ?_ | refine a_iTup ?_ | refine a_iList ?_ | refine a_gcons ?_ | refine a_gnil ?_ | refine a_revT ?_ | refine a_spar3 ?_ | refine a_par3 ?_ | refine a_three ?_)
local macro_rules | `(tactic| walk_at "el2") => `(tactic| first
  | (refine a_var (by rfl) ?_)
  | (refine n_ixL (SqL.of (by assumption)) (by rfl) ?_) | (refine n_ixT (SqT.of (by assumption)) (by rfl) ?_) | (refine n_eq (by rfl) ?_) | (refine n_ne (by rfl) ?_)
  | (refine n_isN ?_) | (refine n_notN ?_) | (refine n_isB ?_) | (refine n_notB ?_) | (refine n_isBI ?_) | (refine n_notBI ?_) | (refine n_len (.inl (SqL.of (by assumption))) ?_) | (refine n_len (.inr (SqT.of (by assumption))) ?_)
  | (refine a_getL (SqL.of (by assumption)) (by rfl) ?_)
  | (refine n_isInt (by assumption) ?_) | (refine n_isBool (by assumption) ?_) | (refine n_isStr (by assumption) ?_) | (refine n_isTup (by assumption) ?_) | (refine n_isLst (by assumption) ?_))
local macro_rules | `(tactic| walk_at "el") => `(tactic| repeat (first | walk_at "el1" | walk_at "el2"))

def nl : Str := ⟨#[10]⟩
def sp1 : Str := ⟨#[32]⟩
theorem sp_eq : (" " : Str) = sp1 := by decide +kernel
theorem nl_eq : ("\n" : Str) = nl := by decide +kernel
def spIo : Sp := fun vs H Q _ => ∃ z : Str, vs = [.str z] ∧ z.length ≤ 7000000 ∧ ∀ H', Same H H' → Q (match intW z with | some n => .int n | none => .non) H'
theorem none_b {H H1 : Hp} {p : Addr} (s : Same H H1) (h : H1 p = none) : H p = none := by
  cases e : H p
  · rfl
  · rw [s _ _ e] at h; cases h
theorem upd_twice {H : Hp} {D : Addr} {a b : HO} : upd (upd H D a) D b = upd H D b := by
  funext x
  by_cases e : x = D
  · subst e; rw [upd_same, upd_same]
  · rw [upd_ne e, upd_ne e, upd_ne e]
theorem take_next {α : Type} {l : List α} {i : Nat} {c : α} (h : l[i]? = some c) : l.take (i + 1) = l.take i ++ [c] := by
  rw [List.take_add_one, h]; rfl
section
variable {P : Program} {w : World} {K : Frag} {mg : Str → Option Value} {base : Heap} {f C aForms aParts : Addr} {fd : FuncData}
theorem ok_NoText (F : Fun K "__init__" "NoText.__init__" s_NoText_init f fd) (O : OexC K C) (n : PySem.W.findIn K (.ref C) "line" = some none) : FnOk P w K mg base CX0 1 f fd ["self", "line"] (spErr1 C "line") := by
  refine F.ok sc_NoText_init (fun vs H Q E h => ?_) (fun cdv A outer s H vs Q E hr h => ?_)
  · obtain ⟨_, _, rfl, _⟩ := h
    rfl
  · obtain ⟨a, y, rfl, ha, k⟩ := h
    refine ⟨_, (pss_one (ps_ost (pv 0) (pv 1))), ?_⟩
    walk_at "el"
    refine ⟨a, C, rfl, O, n, .inl ⟨ha, fun dx hd ne => ?_⟩⟩
    walk_at "el"
    exact k dx hd ne
theorem ok_integer_of (F : Fun K "integer_of" "integer_of" s_integer_of f fd) (T : Tb mg) (kM : ∃ u, mg "MOST_DIGITS" = some u ∧ L2.RelV (.int 40) u) : FnOk P w K mg base CX0 1 f fd ["word"] spIo := by
  refine F.ok sc_integer_of (fun vs H Q E h => ?_) (fun cdv A outer s H vs Q E hr h => ?_)
  · obtain ⟨_, rfl, _⟩ := h
    rfl
  · obtain ⟨z, rfl, hz, k⟩ := h
    refine ⟨_, (pss_cons (ps_set (i := 1) sc_integer_of.nd rfl (Or.inl rfl) (pe_m1 PySem.F.slot_str_removeprefix PySem.F.type_str_removeprefix mt_removeprefix (pv 0) pe_str))
  (pss_cons (ps_if (PW.pt (pw_or (pt_not (pt_truth (pv 1) (fun _ => rfl))) (pw_or (pt_cmpR op_gt (pe_callB call_len_str rfl T.b.len_ boot_len (pa_cons (pv 1) pa_nil)) (pe_gc (v := .int 40) rfl kM) (nomark _)) (pw_or1 (pt_not (pt_val (pe_callB (cr_all rfl) rfl T.b.all_ (by decide +kernel) (pa_cons (pe_lc (own := [("digit", 2)]) rfl sc_integer_of.nd (pi_str (pv 1)) (blkOk_by (own := [("digit", 2)]) (N := N_integer_of) (sc := defScope s_integer_of) (by decide +kernel)) (fun _ _ _ _ _ => (pg_name (i := 2) sc_integer_of.nd rfl (Or.inl rfl))) (fun _ _ _ _ _ => pts_nil) (fun _ _ _ _ _ => (pe_cmpR op_in_sign (pv 2) pe_str rfl))) pa_nil))))))))
    (pss_one (ps_ret pe_non))
    pss_nil)
  (pss_cons (ps_set (i := 3) sc_integer_of.nd rfl (Or.inl rfl) (pe_callTy call_int_str rfl T.b.int_ (by decide +kernel) (pa_cons (pv 0) pa_nil)))
  (pss_cons (ps_if (pt_cmpR (u_ne hr.units) (pe_callTy call_str_int rfl T.b.str_ (by decide +kernel) (pa_cons (pv 3) pa_nil)) (pv 0) (nomark _))
    (pss_one (ps_ret pe_non))
    pss_nil)
  (pss_one (ps_ret (pv 3))))))), ?_⟩
    walk_at "el"
    refine ⟨⟨z, rfl⟩, ?_⟩
    walk_at "el"
    refine ⟨z, "-", rfl, rfl, Nat.le_trans hz (by decide), ?_⟩
    rw [rm_eq]
    walk_at "el"
    have hl : (figS z).length ≤ sizeLine := Nat.le_trans (Nat.le_trans (figS_le z) hz) (by decide)
    have no : digs z = false → intW z = none := fun e => by unfold intW; rw [e]; rfl
    by_cases h0 : (figS z).length = 0
    · refine ⟨false, ⟨hl, by rw [h0]; rfl⟩, ?_⟩
      walk_at "el"
      have e : intW z = none := no (by
        rw [figS_len] at h0
        unfold digs
        rw [List.eq_nil_of_length_eq_zero h0]; rfl)
      have := k H (Same.refl _)
      rw [e] at this
      exact this
    · refine ⟨true, ⟨hl, by simp; omega⟩, ?_⟩
      walk_at "el"
      refine ⟨_, rfl, hl, ?_⟩
      walk_at "el"
      refine ite2 (fun h1 => ?_) (fun h1 => ?_)
      · walk_at "el"
        have e : intW z = none := no (by
          rw [figS_len] at h1
          unfold digs
          have : ¬ ((figs z.cps.toList).length ≤ 40) := by have := of_decide_eq_true h1; omega
          simp [this])
        have := k H (Same.refl _)
        rw [e] at this
        exact this
      · walk_at "el"
        refine ⟨_, rfl, fun D hD => ?_⟩
        refine lc_of walk_str (fun i H2 => H2 = upd H D (.lst ((((figs z.cps.toList).take i).map dig).map V.bl))) rfl (fun _ _ _ _ => trivial) ?_ ?_
        · rintro i x H2 H3 hi rfl ⟨rfl, c, hc, rfl⟩
          rw [figS_list] at hc
          walk_at "el"
          refine ⟨rfl, ?_⟩
          walk_at "el"
          refine ⟨c, _, rfl, rfl, ?_⟩
          rw [in_digits]
          have hlen : ((((figs z.cps.toList).take i).map dig).map V.bl).length < sizeLine := by
            have : sizeLine = 16777216 := rfl
            rw [List.length_map, List.length_map, List.length_take]
            have h8 := figs_le z.cps.toList
            rw [TX.len_list] at h8
            omega
          refine ⟨_, upd_same, hlen, ?_⟩
          rw [upd_twice, take_next hc, List.map_append, List.map_append]
          rfl
        · rintro H2 rfl
          walk_at "el"
          have hs : (figS z).cps.size = (figs z.cps.toList).length := figS_len z
          rw [hs, List.take_length]
          have sm := nw_of hD (.lst (((figs z.cps.toList).map dig).map V.bl))
          refine ⟨D, _, rfl, SqL.of upd_same, _, rfl, ?_⟩
          generalize upd H D (.lst (((figs z.cps.toList).map dig).map V.bl)) = H2 at sm ⊢
          have e : (List.map dig (figs z.cps.toList)).all id = (figs z.cps.toList).all dig := by rw [List.all_map]; rfl
          rw [e]
          have hd : digs z = (figs z.cps.toList).all dig := by
            unfold digs
            rw [figS_len] at h0 h1
            have a : (figs z.cps.toList).isEmpty = false := by
              cases e : figs z.cps.toList
              · rw [e] at h0; exact absurd rfl h0
              · rfl
            have b : decide ((figs z.cps.toList).length ≤ 40) = true := by
              have := of_decide_eq_false (Bool.not_eq_true _ |>.mp h1)
              exact decide_eq_true (by omega)
            rw [a, b]; rfl
          rw [← hd]
          have := k H2 sm
          cases hb : digs z
          · rw [no hb] at this
            walk_at "el"
            exact this
          · walk_at "el"
            refine ⟨z, _, rfl, digs_int hb, Nat.le_trans (digs_len hb) (by decide), ?_⟩
            walk_at "el"
            refine ⟨log_of (digs_log hb), ?_⟩
            walk_at "el"
            unfold intW at this
            rw [hb, if_pos rfl] at this
            by_cases hv : showI (valW z) = z
            · rw [if_pos hv] at this
              have hv' : decide (V.str (Str.ofString (toString (valW z))) = V.str z) = true := decide_eq_true (congrArg V.str hv)
              rw [hv']
              walk_at "el"
              exact this
            · rw [if_neg hv] at this
              have hv' : decide (V.str (Str.ofString (toString (valW z))) = V.str z) = false := decide_eq_false fun c => hv (V.str.inj c)
              rw [hv']
              walk_at "el"
              exact this

def spRow (K : Frag) : Sp := fun vs H Q _ => ∃ (a : Addr) (ws : List Str), vs = [.ref a] ∧ SqL K H a (ws.map V.str) ∧ (ws.map (·.length)).sum + ws.length ≤ 1000000 ∧ Q (.str (if ws = [] then "none" else Txt.join sp1 ws)) H
def spShK (K : Frag) : Sp := fun vs H Q _ => ∃ (a : Addr) (ws : List Str), vs = [.ref a] ∧ SqT K H a (ws.map V.str) ∧ (ws.map (·.length)).sum + ws.length ≤ 1000000 ∧ ∀ H', Same H H' → Q (.str (if ws = [] then "none" else Txt.join sp1 ws)) H'
def spShT (K : Frag) : Sp := fun vs H Q _ => ∃ (a : Addr) (ns : List Int), vs = [.ref a] ∧ SqT K H a (ns.map V.int) ∧ ns.length ≤ 2000 ∧ (∀ n ∈ ns, n.natAbs < 10 ^ 40) ∧ ∀ H', Same H H' → Q (.str (if ns = [] then "none" else Txt.join sp1 (ns.map showI))) H'
/-! ### reading -/
/-- the words of a line -/
def wordsF (l : Str) : List Str := if l = "none" then [] else Txt.split l sp1
def lanes (a : Str) : List Str := Txt.split a nl
def line0 (a : Str) : Str := (lanes a).headD Str.empty
def spWi : Sp := fun vs H Q _ => ∃ z : Str, vs = [.str z] ∧ z.length ≤ 100000 ∧ ∀ H' p, Same H H' → H p = none → H' p = some (.lst ((wordsF z).map V.str)) → Q (.ref p) H'
def tooF (H : Hp) (E : XK) (C : Addr) (n : Int) : Prop := ∀ H' d, Same H H' → H' d = none → E (.ref C) (some d) (upd H' d (.xd [("line", .int n)]))
def spLo (K : Frag) (C : Addr) : Sp := fun vs H Q E => ∃ x, vs = [x] ∧ Th K H x ∧ ((∀ z, x ≠ .str z) → tooF H E C 1) ∧ ∀ z, x = .str z → z.length ≤ 7000000 ∧ ∀ H' p, Same H H' → H p = none → H' p = some (.lst ((lanes z).map V.str)) → Q (.ref p) H'
theorem ok_lines_of (F : Fun K "_lines_of" "_lines_of" s__lines_of f fd) (T : Tb mg) (c_NoText : ErrG P w K mg base "NoText" C ["self", "line"] (spErr1 C "line")) : FnOk P w K mg base (L2.CX P w) 3 f fd ["text"] (spLo K C) := by
  refine F.okX sc__lines_of (fun vs H Q E h => ?_) (fun cdv A outer s H vs Q E hr h => ?_)
  · obtain ⟨_, rfl, _⟩ := h
    rfl
  · obtain ⟨x, rfl, th, k1, k2⟩ := h
    refine ⟨_, (pss_cons (ps_if (pt_not (pt_val (pe_callB u_isi rfl T.b.isinstance_ boot_isinstance (pa_cons (pv 0) (pa_cons (pe_bltn (v := V.ty "str") rfl T.b.str_ (by decide +kernel) rfl) pa_nil)))))
    (pss_one (ps_rz c_NoText (hr.mono (by decide)) rfl (takes_of rfl rfl rfl rfl) (pa_cons pe_int pa_nil)))
    pss_nil)
  (pss_one (ps_ret (pe_split (pv 0) pe_str)))), ?_⟩
    obtain ⟨t, kt⟩ := th.kit
    walk_at "el"
    by_cases hs : ∃ z, x = .str z
    · obtain ⟨z, rfl⟩ := hs
      obtain ⟨hl, k⟩ := k2 z rfl
      walk_at "el"
      rw [show isS (V.str z) = true from rfl]
      walk_at "el"
      refine ⟨⟨_, rfl⟩, ?_⟩
      walk_at "el"
      have : sizeLine = 16777216 := rfl
      refine ⟨z, nl, rfl, by rw [nl_eq], rfl, by omega, fun p hp => k _ p (nw_of hp _) hp upd_same⟩
    · have e := k1 fun z h => hs ⟨z, h⟩
      rw [show isS x = false by cases x <;> first | rfl | exact absurd ⟨_, rfl⟩ hs]
      walk_at "el"
      refine a_rz ?_
      walk_at "el"
      exact n_err1 fun d hd => e H d (Same.refl _) hd
def spCl (K : Frag) (C : Addr) : Sp := fun vs H Q E => ∃ (p : Addr) (xs : List V), vs = [.ref p] ∧ SqL K H p xs ∧ (1 < xs.length → tooF H E C 2) ∧ (xs.length ≤ 1 → Q .non H)
theorem tooF.mono {H H1 : Hp} {E : XK} {C : Addr} {n : Int} (h : tooF H E C n) (s : Same H H1) : tooF H1 E C n := fun H' d s' hd => h H' d (s.trans s') hd
/-- what reading kinds comes to: the words, or the line that is wrong -/
def kindsO (z : Str) : List Str ⊕ Int :=
  if (wordsF (line0 z)).all (fun w => kindB (.str w)) then (if 1 < (lanes z).length then .inr 2 else .inl (wordsF (line0 z))) else .inr 1
/-- what reading times comes to -/
def timesO (z : Str) : List Int ⊕ Int :=
  if (wordsF (line0 z)).all (fun w => (intW w).isSome) then (if 1 < (lanes z).length then .inr 2 else .inl ((wordsF (line0 z)).filterMap intW)) else .inr 1
def spRk (K : Frag) (C : Addr) : Sp := fun vs H Q E => ∃ x, vs = [x] ∧ Th K H x ∧ ((∀ z, x ≠ .str z) → tooF H E C 1) ∧ ∀ z, x = .str z → z.length ≤ 20000 ∧ (match kindsO z with
  | .inr n => tooF H E C n
  | .inl ws => ∀ H' p, Same H H' → H p = none → H' p = some (.tup (ws.map V.str)) → Q (.ref p) H')
theorem lanes_ne (z : Str) : lanes z = line0 z :: (lanes z).tail := by
  have := split_ne z nl
  unfold line0 lanes
  cases h : Txt.split z nl with
  | nil => exact absurd h this
  | cons a r => rfl
theorem line0_len (z : Str) : (line0 z).length ≤ z.length := split_mem z 10 (p := line0 z) (by
  show line0 z ∈ lanes z
  rw [lanes_ne z]; exact List.mem_cons_self)
theorem words_len (l : Str) : ((wordsF l).map (·.length)).sum + (wordsF l).length ≤ l.length + 1 := by
  unfold wordsF
  split
  · simp
  · exact split_len l 32
end
end EL

/- part K91B -/
namespace EL
open PySem PySem.Spec PyProof.Rows L2
open PySem.W (Frag)
open TX
abbrev s__value_of : Stmt := top 39
abbrev N__value_of : List Str := ["word"]
theorem sc__value_of : FnScope N__value_of ["word"] (defScope s__value_of) := ⟨rfl, rfl, rfl, by decide +kernel, rfl, by decide +kernel, by decide +kernel⟩
abbrev s__item_told : Stmt := top 38
abbrev N__item_told : List Str := ["word", "values"]
theorem sc__item_told : FnScope N__item_told ["word", "values"] (defScope s__item_told) := ⟨rfl, rfl, rfl, by decide +kernel, rfl, by decide +kernel, by decide +kernel⟩
local macro_rules | `(tactic| walk_at "el1") => `(tactic| with_reducible first
  | refine a_sasg ?_ | refine a_sdrop ?_ | refine a_saugS ?_ | refine a_spar ?_ | refine a_seq ?_ | refine a_asg ?_ | refine a_drop ?_ | refine a_ret ?_ | refine a_if ?_ | refine a_next ?_
  | refine a_op ?_ | refine a_cons ?_ | refine a_nil ?_ | refine a_cb ?_ | refine a_call ?_ | refine a_c ?_ | refine a_gn ?_ | refine a_nx ?_ | refine a_rt ?_ | refine a_un ?_
  | refine a_test ?_ | refine a_B ?_ | refine a_bl ?_ | refine a_and ?_ | refine a_or ?_ | refine a_not ?_ | refine a_andV ?_ | refine a_orV ?_ | refine a_notV ?_ | refine a_ifx ?_ | refine a_chain ?_
  | refine a_nT ?_ | refine a_nF ?_ | refine a_fld ?_ | refine a_getF ?_ | refine a_T ?_ | refine a_F ?_ | refine a_tup ?_ | refine a_lst ?_ | refine a_sub ?_ | refine a_augS ?_ | refine a_two ?_ | refine a_I0 ?_ | refine a_U ?_ | refine n_add ?_ | refine n_int ?_ | refine n_ib ?_ | refine a_ip ?_ | refine a_rng1 ?_ | refine a_rng2 ?_ | refine a_bm ?_ | refine a_abs ?_ | refine a_pairs ?_ | refine a_pairs0 ?_ | refine a_bk ?_ | refine a_prp ?_ | refine a_lc ?_ | refine a_yes ?_ | refine a_sl ?_ | refine a_nop ?_ | refine a_prt ?_ | refine a_ex1 ?_ | refine a_for ?_ | refine a_sfor ?_ | refine a_iE1 ?_ | refine a_iEs ?_ | refine a_iEz ?_ | refine a_iEnum ?_ | refine a_iTup ?_ | refine a_iList ?_ | refine a_gcons ?_ | refine a_gnil ?_ | refine a_revT ?_ | refine a_spar3 ?_ | refine a_par3 ?_ | refine a_three ?_)
local macro_rules | `(tactic| walk_at "el2") => `(tactic| first
  | (refine a_var (by rfl) ?_)
  | (refine n_ixL (SqL.of (by assumption)) (by rfl) ?_) | (refine n_ixT (SqT.of (by assumption)) (by rfl) ?_) | (refine n_eq (by rfl) ?_) | (refine n_ne (by rfl) ?_)
  | (refine n_isN ?_) | (refine n_notN ?_) | (refine n_isB ?_) | (refine n_notB ?_) | (refine n_isBI ?_) | (refine n_notBI ?_) | (refine n_len (.inl (SqL.of (by assumption))) ?_) | (refine n_len (.inr (SqT.of (by assumption))) ?_)
  | (refine a_getL (SqL.of (by assumption)) (by rfl) ?_)
  | (refine n_isInt (by assumption) ?_) | (refine n_isBool (by assumption) ?_) | (refine n_isStr (by assumption) ?_) | (refine n_isTup (by assumption) ?_) | (refine n_isLst (by assumption) ?_))
local macro_rules | `(tactic| walk_at "el") => `(tactic| repeat (first | walk_at "el1" | walk_at "el2"))

/-- what a word behind the first one stands for -/
def valV1 (z : Str) : V := if kindB (.str z) then .str z else match intW z with | some n => .int n | none => .non
def spV1 : Sp := fun vs H Q _ => ∃ z : Str, vs = [.str z] ∧ z.length ≤ 7000000 ∧ ∀ H', Same H H' → Q (valV1 z) H'
/-- an item's values, as the first word wants them -/
def itemV (wd : Str) (xs : List V) : List V := if wd = "known" then xs ++ xs else if wd = "least" ∨ wd = "most" then cutV xs none (some 1) ++ [.str wd] ++ cutV xs (some 1) none else xs
def spItT (K : Frag) : Sp := fun vs H Q _ => ∃ (wd : Str) (p : Addr) (xs : List V), vs = [.str wd, .ref p] ∧ H p = some (.tup xs) ∧ xs.length ≤ 8000000 ∧ ∀ q H', Same H H' → H' q = some (.tup (itemV wd xs)) → Q (.ref q) H'
section
variable {P : Program} {w : World} {K : Frag} {mg : Str → Option Value} {base : Heap} {f C aForms aParts : Addr} {fd : FuncData}
theorem ok_value_of (F : Fun K "_value_of" "_value_of" s__value_of f fd) (T : Tb mg) (c_is_kind : Cal P w K mg base CX0 1 "is_kind" ["thing"] (spB kindB K)) (c_integer_of : Cal P w K mg base CX0 1 "integer_of" ["word"] spIo) : FnOk P w K mg base CX0 2 f fd ["word"] spV1 := by
  refine F.ok sc__value_of (fun vs H Q E h => ?_) (fun cdv A outer s H vs Q E hr h => ?_)
  · obtain ⟨_, rfl, _⟩ := h
    rfl
  · obtain ⟨z, rfl, hz, k⟩ := h
    refine ⟨_, (pss_cons (ps_if (pt_val (pe_cal c_is_kind (hr.mono (by decide)) pass0 (pa_cons (pv 0) pa_nil)))
    (pss_one (ps_ret (pv 0)))
    pss_nil)
  (pss_one (ps_ret (pe_cal c_integer_of (hr.mono (by decide)) pass0 (pa_cons (pv 0) pa_nil))))), ?_⟩
    walk_at "el"
    refine ⟨.str z, rfl, .str _, fun H1 s1 => ?_⟩
    unfold valV1 at k
    cases hb : kindB (.str z)
    · rw [hb] at k
      walk_at "el"
      refine ⟨z, rfl, hz, fun H2 s2 => ?_⟩
      exact k H2 (s1.trans s2)
    · rw [hb] at k
      walk_at "el"
      exact k H1 s1
theorem ok_item_told (F : Fun K "_item_told" "_item_told" s__item_told f fd) (T : Tb mg) : FnOk P w K mg base CX0 1 f fd ["word", "values"] (spItT K) := by
  refine F.ok sc__item_told (fun vs H Q E h => ?_) (fun cdv A outer s H vs Q E hr h => ?_)
  · obtain ⟨_, _, _, rfl, _⟩ := h
    rfl
  · obtain ⟨wd, p, xs, rfl, hp, hl, k⟩ := h
    refine ⟨_, (pss_cons (ps_if (pt_cmpR (u_eq hr.units) (pv 0) pe_str (nomark _))
    (pss_one (ps_ret (pe_op u_add (pv 1) (pv 1))))
    pss_nil)
  (pss_cons (ps_if (pt_cmpR u_in (pv 0) (pe_tup (pa_cons pe_str (pa_cons pe_str pa_nil))) rfl)
    (pss_one (ps_ret (pe_op u_add (pe_op u_add (pe_slice u_slice (pv 1) po_none (po_some pe_int)) (pe_tup (pa_cons (pv 0) pa_nil))) (pe_slice u_slice (pv 1) (po_some pe_int) po_none))))
    pss_nil)
  (pss_one (ps_ret (pv 1))))), ?_⟩
    have hs0 : sizeLine = 16777216 := rfl
    have dk : ∀ a b : Str, decide (V.str a = V.str b) = decide (a = b) := fun a b => by
      rw [Bool.eq_iff_iff, decide_eq_true_iff, decide_eq_true_iff]; exact ⟨fun h => V.str.inj h, fun h => congrArg V.str h⟩
    unfold itemV at k
    walk_at "el"
    rw [dk]
    by_cases h1 : wd = "known"
    · rw [decide_eq_true h1]
      rw [if_pos h1] at k
      walk_at "el"
      exact n_catT hp hp (by omega) fun q H' s' g => k q H' s' g
    · rw [decide_eq_false h1]
      rw [if_neg h1] at k
      walk_at "el"
      refine ⟨by show 2 ≤ sizeLine; decide, fun p1 hp1 => ?_⟩
      have e1 := nw_of hp1 (.tup [.str "least", .str "most"])
      refine n_inT upd_same rfl rfl ?_
      have ei : inV (.str wd) [.str "least", .str "most"] = decide (wd = "least" ∨ wd = "most") := by
        show (_ == _ || (_ == _ || false)) = _
        rw [Bool.or_false, Bool.eq_iff_iff]
        simp
        exact ⟨fun h => h.imp Eq.symm Eq.symm, fun h => h.imp Eq.symm Eq.symm⟩
      rw [ei]
      have hp2 := e1 _ _ hp
      generalize upd H p1 (.tup [.str "least", .str "most"]) = H1 at e1 hp2 ⊢
      by_cases h2 : wd = "least" ∨ wd = "most"
      · rw [decide_eq_true h2]
        rw [if_pos h2] at k
        walk_at "el"
        refine n_slT hp2 fun q1 H2 s2 g2 => ?_
        have c1 := cutV_length xs none (some 1)
        have c2 := cutV_length xs (some 1) none
        walk_at "el"
        refine ⟨by show 1 ≤ sizeLine; decide, fun p3 hp3 => ?_⟩
        have e3 := nw_of hp3 (.tup [.str wd])
        refine n_catT (e3 _ _ g2) upd_same (by show _ + 1 ≤ sizeLine; omega) fun q4 H4 s4 g4 => ?_
        walk_at "el"
        have s24 := (s2.trans e3).trans s4
        refine n_slT (s24 _ _ hp2) fun q5 H5 s5 g5 => ?_
        refine n_catT (s5 _ _ g4) g5 (by rw [List.length_append]; show _ + 1 + _ ≤ sizeLine; omega) fun q6 H6 s6 g6 => ?_
        exact k q6 H6 (((e1.trans s24).trans s5).trans s6) g6
      · rw [decide_eq_false h2]
        rw [if_neg h2] at k
        walk_at "el"
        exact k p H1 e1 hp2
end
end EL

/- part K91C -/
namespace EL
open PySem PySem.Spec PyProof.Rows L2
open PySem.W (Frag)
open TX
abbrev s__size_in : Stmt := top 42
abbrev N__size_in : List Str := ["lines", "at", "word", "most", "words", "size"]
theorem sc__size_in : FnScope N__size_in ["lines", "at", "word", "most"] (defScope s__size_in) := ⟨rfl, rfl, rfl, by decide +kernel, rfl, by decide +kernel, by decide +kernel⟩
local macro_rules | `(tactic| walk_at "el1") => `(tactic| with_reducible first
  | refine a_sasg ?_ | refine a_sdrop ?_ | refine a_saugS ?_ | refine a_spar ?_ | refine a_seq ?_ | refine a_asg ?_ | refine a_drop ?_ | refine a_ret ?_ | refine a_if ?_ | refine a_next ?_
  | refine a_op ?_ | refine a_cons ?_ | refine a_nil ?_ | refine a_cb ?_ | refine a_call ?_ | refine a_c ?_ | refine a_gn ?_ | refine a_nx ?_ | refine a_rt ?_ | refine a_un ?_
  | refine a_test ?_ | refine a_B ?_ | refine a_bl ?_ | refine a_and ?_ | refine a_or ?_ | refine a_not ?_ | refine a_andV ?_ | refine a_orV ?_ | refine a_notV ?_ | refine a_ifx ?_ | refine a_chain ?_
  | refine a_nT ?_ | refine a_nF ?_ | refine a_fld ?_ | refine a_getF ?_ | refine a_T ?_ | refine a_F ?_ | refine a_tup ?_ | refine a_lst ?_ | refine a_sub ?_ | refine a_augS ?_ | refine a_two ?_ | refine a_I0 ?_ | refine a_U ?_ | refine n_add ?_ | refine n_int ?_ | refine n_ib ?_ | refine a_ip ?_ | refine a_rng1 ?_ | refine a_rng2 ?_ | refine a_bm ?_ | refine a_abs ?_ | refine a_pairs ?_ | refine a_pairs0 ?_ | refine a_bk ?_ | refine a_prp ?_ | refine a_lc ?_ | refine a_yes ?_ | refine a_sl ?_ | refine a_nop ?_ | refine a_prt ?_ | refine a_ex1 ?_ | refine a_for ?_ | refine a_sfor ?_ | refine a_iE1 ?_ | refine a_iEs ?_ | refine a_iEz ?_ | refine a_iEnum ?_ | refine a_iTup ?_ | refine a_iList ?_ | refine a_gcons ?_ | refine a_gnil ?_ | refine a_revT ?_ | refine a_spar3 ?_ | refine a_par3 ?_ | refine a_three ?_)
local macro_rules | `(tactic| walk_at "el2") => `(tactic| first
  | (refine a_var (by rfl) ?_)
  | (refine n_ixL (SqL.of (by assumption)) (by rfl) ?_) | (refine n_ixT (SqT.of (by assumption)) (by rfl) ?_) | (refine n_eq (by rfl) ?_) | (refine n_ne (by rfl) ?_)
  | (refine n_isN ?_) | (refine n_notN ?_) | (refine n_isB ?_) | (refine n_notB ?_) | (refine n_isBI ?_) | (refine n_notBI ?_) | (refine n_len (.inl (SqL.of (by assumption))) ?_) | (refine n_len (.inr (SqT.of (by assumption))) ?_)
  | (refine a_getL (SqL.of (by assumption)) (by rfl) ?_)
  | (refine n_isInt (by assumption) ?_) | (refine n_isBool (by assumption) ?_) | (refine n_isStr (by assumption) ?_) | (refine n_isTup (by assumption) ?_) | (refine n_isLst (by assumption) ?_))
local macro_rules | `(tactic| walk_at "el") => `(tactic| repeat (first | walk_at "el1" | walk_at "el2"))

theorem cut_init (xs : List V) (v : V) : cutV (xs ++ [v]) none (some (-1)) = xs := by
  unfold cutV
  have e : HT.sIx (xs ++ [v]).length (xs ++ [v]).length (some (-1)) = xs.length := by
    unfold HT.sIx
    simp only [List.length_append, List.length_singleton]
    rw [if_pos (by decide)]
    omega
  have e0 : HT.sIx (xs ++ [v]).length 0 none = 0 := rfl
  rw [e, e0, List.drop_zero]
  simp
/-- all signs are code points -/
def okS9 (z : Str) : Prop := ∀ c ∈ z.cps.toList, c < 1114112
/-- the number behind a word, at most so great -/
def sizeO (ws : List Str) (word : Str) (most : Int) : Option Int :=
  if ws.dropLast = [word] then (match intW (ws.getLastD Str.empty) with | some n => if 0 ≤ n ∧ n ≤ most then some n else none | none => none) else none
def spSz (K : Frag) (C : Addr) : Sp := fun vs H Q E => ∃ (p : Addr) (ls : List Str) (k : Nat) (word : Str) (most : Int), vs = [.ref p, .int k, .str word, .int most] ∧ H p = some (.lst (ls.map V.str)) ∧ k ≤ ls.length ∧ (k = ls.length → tooF H E C (k + 1)) ∧
  ∀ l, ls[k]? = some l → l.length ≤ 7000000 ∧ SeqAt.shaped (.list ((Txt.split l sp1).dropLast.map PyData.str)) = true ∧ SeqAt.shaped (.list [.str word]) = true ∧
    match sizeO (Txt.split l sp1) word most with
    | some n => ∀ H', Same H H' → Q (.int n) H'
    | none => tooF H E C (k + 1)
theorem dp_strs9 {K : Frag} {H : Hp} : ∀ zs : List Str, DpAll K H (zs.map V.str) (zs.map PyData.str)
  | [] => .nil
  | z :: r => .cons (.str z) (dp_strs9 r)
theorem eqv_one (ini : List Str) (word : Str) : PyData.eqv (.list (ini.map PyData.str)) (.list [.str word]) = decide (ini = [word]) := by
  match ini with
  | [] => rfl
  | [a] =>
    show (a == word && true) = _
    rw [Bool.and_true, Bool.eq_iff_iff]; simp
  | a :: b :: r =>
    show (a == word && false) = _
    rw [Bool.and_false]; simp
section
variable {P : Program} {w : World} {K : Frag} {mg : Str → Option Value} {base : Heap} {f C aForms aParts : Addr} {fd : FuncData}
theorem ok_size_in (F : Fun K "_size_in" "_size_in" s__size_in f fd) (T : Tb mg) (c_integer_of : Cal P w K mg base CX0 1 "integer_of" ["word"] spIo) (c_is_below : Cal P w K mg base CX0 2 "is_below" ["thing", "many"] (spBelow K)) (c_NoText : ErrG P w K mg base "NoText" C ["self", "line"] (spErr1 C "line")) : FnOk P w K mg base (L2.CX P w) 3 f fd ["lines", "at", "word", "most"] (spSz K C) := by
  refine F.okX sc__size_in (fun vs H Q E h => ?_) (fun cdv A outer s H vs Q E hr h => ?_)
  · obtain ⟨_, _, _, _, _, rfl, _⟩ := h
    rfl
  · obtain ⟨p, ls, k, word, most, rfl, hp, hk, k0, k1⟩ := h
    refine ⟨_, (pss_cons (ps_if (pt_cmpR (u_eq hr.units) (pv 1) (pe_callB u_len rfl T.b.len_ boot_len (pa_cons (pv 0) pa_nil)) (nomark _))
    (pss_one (ps_rz c_NoText (hr.mono (by decide)) rfl (takes_of rfl rfl rfl rfl) (pa_cons (pe_op u_add (pv 1) pe_int) pa_nil)))
    pss_nil)
  (pss_cons (ps_set (i := 4) sc__size_in.nd rfl (Or.inl rfl) (pe_split (pe_ix ix_seq (pv 0) (pv 1) (fun _ _ => rfl)) pe_str))
  (pss_cons (ps_set (i := 5) sc__size_in.nd rfl (Or.inl rfl) (pe_cal c_integer_of (hr.mono (by decide)) pass0 (pa_cons (pe_ix ix_seq (pv 4) (pe_un un_neg pe_int) (fun _ _ => rfl)) pa_nil)))
  (pss_cons (ps_if (PW.pt (pw_or (pt_cmpR (u_ne hr.units) (pe_slice u_slice (pv 4) po_none (po_some (pe_un un_neg pe_int))) (pe_lst (pa_cons (pv 2) pa_nil)) (nomark _)) (pw_or1 (pt_not (pt_val (pe_cal c_is_below (hr.mono (by decide)) pass0 (pa_cons (pv 5) (pa_cons (pe_op u_add (pv 3) pe_int) pa_nil))))))))
    (pss_one (ps_rz c_NoText (hr.mono (by decide)) rfl (takes_of rfl rfl rfl rfl) (pa_cons (pe_op u_add (pv 1) pe_int) pa_nil)))
    pss_nil)
  (pss_one (ps_ret (pv 5))))))), ?_⟩
    have hs0 : sizeLine = 16777216 := rfl
    walk_at "el"
    rw [List.length_map]
    by_cases h0 : k = ls.length
    · rw [show decide (V.int (k : Int) = V.int (ls.length : Int)) = true from decide_eq_true (by rw [h0])]
      walk_at "el"
      refine a_rz ?_
      walk_at "el"
      exact n_err1 fun d hd => k0 h0 H d (Same.refl _) hd
    · rw [show decide (V.int (k : Int) = V.int (ls.length : Int)) = false from decide_eq_false fun c => h0 (by have := V.int.inj c; omega)]
      have hk2 : k < ls.length := by omega
      obtain ⟨l, hl⟩ : ∃ l, ls[k]? = some l := ⟨_, List.getElem?_eq_getElem hk2⟩
      obtain ⟨hll, sh1, sh2, kk⟩ := k1 l hl
      obtain ⟨ini, la, hw⟩ : ∃ ini la, Txt.split l sp1 = ini ++ [la] := by
        have hne := split_ne l sp1
        exact ⟨_, _, (List.dropLast_concat_getLast hne).symm⟩
      have hla : la.length ≤ 7000000 := by
        have := split_mem l 32 (p := la) (by show la ∈ Txt.split l sp1; rw [hw]; simp)
        omega
      rw [hw] at sh1 kk
      rw [List.dropLast_concat] at sh1
      walk_at "el"
      unfold tM1
      walk_at "el"
      refine n_ixL (SqL.of hp) (atI_nat (by rw [List.getElem?_map, hl]; rfl)) ?_
      refine ⟨⟨_, rfl⟩, ?_⟩
      walk_at "el"
      refine ⟨l, sp1, rfl, by rw [sp_eq], rfl, by omega, fun q hq => ?_⟩
      rw [hw, List.map_append]
      have e1 := nw_of hq (.lst (ini.map V.str ++ [V.str la]))
      have gq : upd H q (.lst (ini.map V.str ++ [V.str la])) q = some (.lst (ini.map V.str ++ [V.str la])) := upd_same
      change (fun H1 => _) (upd H q (.lst (ini.map V.str ++ [V.str la])))
      generalize upd H q (.lst (ini.map V.str ++ [V.str la])) = H1 at e1 gq ⊢
      walk_at "el"
      refine n_ixL (SqL.of gq) (atI_last _ _) ?_
      walk_at "el"
      refine ⟨la, rfl, hla, fun H2 s2 => ?_⟩
      walk_at "el"
      refine .inl ⟨q, _, rfl, SqL.of (s2 _ _ gq), fun q2 hq2 => ?_⟩
      rw [cut_init]
      have e3 := nw_of hq2 (.lst (ini.map V.str))
      walk_at "el"
      refine ⟨by show 1 ≤ sizeLine; decide, fun q3 hq3 => ?_⟩
      have e4 := nw_of hq3 (.lst [.str word])
      refine n_neD (.lst (SqL.of (e4 _ _ upd_same)) (dp_strs9 ini)) (.lst (SqL.of upd_same) (.cons (.str word) .nil)) sh1 sh2 ?_
      rw [eqv_one]
      have s4 : Same H _ := ((e1.trans s2).trans e3).trans e4
      generalize upd (upd H2 q2 (.lst (ini.map V.str))) q3 (.lst [.str word]) = H4 at s4 ⊢
      unfold sizeO at kk
      rw [List.dropLast_concat, List.getLastD_concat] at kk
      by_cases h1 : ini = [word]
      · rw [if_pos h1] at kk
        rw [decide_eq_true h1]
        walk_at "el"
        cases hn : intW la with
        | none =>
          rw [hn] at kk
          dsimp only at kk
          refine ⟨.non, most + 1, rfl, .non, fun H5 s5 => ?_⟩
          rw [show belowB .non (most + 1) = false from rfl]
          walk_at "el"
          refine a_rz ?_
          walk_at "el"
          exact n_err1 fun d hd => kk H5 d (s4.trans s5) hd
        | some n =>
          rw [hn] at kk
          dsimp only at kk
          refine ⟨.int n, most + 1, rfl, .int _, fun H5 s5 => ?_⟩
          have eb : belowB (.int n) (most + 1) = decide (0 ≤ n ∧ n ≤ most) := by
            show (decide _ && decide _) = _
            rw [Bool.eq_iff_iff]; simp; omega
          rw [eb]
          by_cases h2 : 0 ≤ n ∧ n ≤ most
          · rw [decide_eq_true h2]
            rw [if_pos h2] at kk
            walk_at "el"
            exact kk H5 (s4.trans s5)
          · rw [decide_eq_false h2]
            rw [if_neg h2] at kk
            walk_at "el"
            refine a_rz ?_
            walk_at "el"
            exact n_err1 fun d hd => kk H5 d (s4.trans s5) hd
      · rw [if_neg h1] at kk
        rw [decide_eq_false h1]
        walk_at "el"
        refine a_rz ?_
        walk_at "el"
        exact n_err1 fun d hd => kk H4 d s4 hd
end
end EL

/- part K91D -/
namespace EL
open PySem PySem.Spec PyProof.Rows L2
open PySem.W (Frag)
open TX
abbrev s_first_refused : Stmt := top 36
abbrev N_first_refused : List Str := ["part", "item", "events", "witnesses", "wrong"]
theorem sc_first_refused : FnScope N_first_refused ["part", "item", "events", "witnesses"] (defScope s_first_refused) := ⟨rfl, rfl, rfl, by decide +kernel, rfl, by decide +kernel, by decide +kernel⟩
local macro_rules | `(tactic| walk_at "el1") => `(tactic| with_reducible first
  | refine a_sasg ?_ | refine a_sdrop ?_ | refine a_saugS ?_ | refine a_spar ?_ | refine a_seq ?_ | refine a_asg ?_ | refine a_drop ?_ | refine a_ret ?_ | refine a_if ?_ | refine a_next ?_
  | refine a_op ?_ | refine a_cons ?_ | refine a_nil ?_ | refine a_cb ?_ | refine a_call ?_ | refine a_c ?_ | refine a_gn ?_ | refine a_nx ?_ | refine a_rt ?_ | refine a_un ?_
  | refine a_test ?_ | refine a_B ?_ | refine a_bl ?_ | refine a_and ?_ | refine a_or ?_ | refine a_not ?_ | refine a_andV ?_ | refine a_orV ?_ | refine a_notV ?_ | refine a_ifx ?_ | refine a_chain ?_
  | refine a_nT ?_ | refine a_nF ?_ | refine a_fld ?_ | refine a_getF ?_ | refine a_T ?_ | refine a_F ?_ | refine a_tup ?_ | refine a_lst ?_ | refine a_sub ?_ | refine a_augS ?_ | refine a_two ?_ | refine a_I0 ?_ | refine a_U ?_ | refine n_add ?_ | refine n_int ?_ | refine n_ib ?_ | refine a_ip ?_ | refine a_rng1 ?_ | refine a_rng2 ?_ | refine a_bm ?_ | refine a_abs ?_ | refine a_pairs ?_ | refine a_pairs0 ?_ | refine a_bk ?_ | refine a_prp ?_ | refine a_lc ?_ | refine a_yes ?_ | refine a_sl ?_ | refine a_nop ?_ | refine a_prt ?_ | refine a_ex1 ?_ | refine a_for ?_ | refine a_sfor ?_ | refine a_iE1 ?_ | refine a_iEs ?_ | refine a_iEz ?_ | refine a_iEnum ?_ | refine a_iTup ?_ | refine a_iList ?_ | refine a_gcons ?_ | refine a_gnil ?_ | refine a_revT ?_ | refine a_spar3 ?_ | refine a_par3 ?_ | refine a_three ?_)
local macro_rules | `(tactic| walk_at "el2") => `(tactic| first
  | (refine a_var (by rfl) ?_)
  | (refine n_ixL (SqL.of (by assumption)) (by rfl) ?_) | (refine n_ixT (SqT.of (by assumption)) (by rfl) ?_) | (refine n_eq (by rfl) ?_) | (refine n_ne (by rfl) ?_)
  | (refine n_isN ?_) | (refine n_notN ?_) | (refine n_isB ?_) | (refine n_notB ?_) | (refine n_isBI ?_) | (refine n_notBI ?_) | (refine n_len (.inl (SqL.of (by assumption))) ?_) | (refine n_len (.inr (SqT.of (by assumption))) ?_)
  | (refine a_getL (SqL.of (by assumption)) (by rfl) ?_)
  | (refine n_isInt (by assumption) ?_) | (refine n_isBool (by assumption) ?_) | (refine n_isStr (by assumption) ?_) | (refine n_isTup (by assumption) ?_) | (refine n_isLst (by assumption) ?_))
local macro_rules | `(tactic| walk_at "el") => `(tactic| repeat (first | walk_at "el1" | walk_at "el2"))

def spFr (K : Frag) : Sp := fun vs H Q _ => ∃ (p : Pt) (a : Addr) (xs : List V) (ev wi : Int), vs = [.str p.name, .ref a, .int ev, .int wi] ∧ H a = some (.tup xs) ∧ xs.length = p.form.length ∧ (∀ x ∈ xs, Th K H x) ∧ StandsTo p xs ev wi p.form.length ∧
  ((p = .cla ∧ ∀ H', Same H H' → Q .non H') ∨ (p ≠ .cla ∧ ∃ n : Int, xs[2]? = some (.int n) ∧ ∀ H', Same H H' → Q (if 1000000000000 < n.natAbs then .int 2 else .non) H'))
section
variable {P : Program} {w : World} {K : Frag} {mg : Str → Option Value} {base : Heap} {f C aForms aParts : Addr} {fd : FuncData}
theorem ok_first_refused (F : Fun K "first_refused" "first_refused" s_first_refused f fd) (T : Tb mg) (kT : ∃ u, mg "GREATEST_TOLD" = some u ∧ L2.RelV (.int 1000000000000) u) (c_first_wrong : Cal P w K mg base CX0 4 "first_wrong" ["part", "values", "events", "witnesses"] (spFw K)) :
    FnOk P w K mg base CX0 5 f fd ["part", "item", "events", "witnesses"] (spFr K) := by
  refine F.ok sc_first_refused (fun vs H Q E h => ?_) (fun cdv A outer s H vs Q E hr h => ?_)
  · obtain ⟨_, _, _, _, _, rfl, _⟩ := h
    rfl
  · obtain ⟨p, a, xs, ev, wi, rfl, ha, hl, th, st, k⟩ := h
    refine ⟨_, (pss_cons (ps_set (i := 4) sc_first_refused.nd rfl (Or.inl rfl) (pe_cal c_first_wrong (hr.mono (by decide)) pass0 (pa_cons (pv 0) (pa_cons (pv 1) (pa_cons (pv 2) (pa_cons (pv 3) pa_nil))))))
  (pss_cons (ps_if (PW.pt (pw_and (pt_cmpR u_is (pv 4) pe_non (nomark _)) (pw_and (pt_cmpR (u_ne hr.units) (pv 0) pe_str (nomark _)) (pw_and1 (pt_cmpR op_gt (pe_callB call_abs rfl T.b.abs_ (by decide +kernel) (pa_cons (pe_ix ix_seq (pv 1) pe_int (fun _ _ => rfl)) pa_nil)) (pe_gc (v := .int 1000000000000) rfl kT) (nomark _))))))
    (pss_one (ps_ret pe_int))
    pss_nil)
  (pss_one (ps_ret (pv 4))))), ?_⟩
    walk_at "el"
    refine ⟨p, a, xs, ev, wi, rfl, ha, hl, th, fun _ H1 s1 => ?_, fun i wd x h1 h2 h3 h4 => ?_⟩
    · walk_at "el"
      rw [decide_eq_true rfl]
      walk_at "el"
      rcases k with ⟨rfl, k⟩ | ⟨np, n, hn, k⟩
      · rw [show decide (V.str Pt.cla.name = V.str "clauses") = true from by decide +kernel]
        walk_at "el"
        exact k H1 s1
      · rw [show decide (V.str p.name = V.str "clauses") = false from by cases p <;> first | exact absurd rfl np | decide +kernel]
        walk_at "el"
        refine n_ixT (SqT.of (s1 _ _ ha)) (atI_nat (j := 2) hn) ?_
        walk_at "el"
        have k := k H1 s1
        have e : decide (1000000000000 < (if n < 0 then -n else n)) = decide (1000000000000 < n.natAbs) := by
          rw [Bool.eq_iff_iff, decide_eq_true_iff, decide_eq_true_iff]
          split <;> omega
        rw [e]
        by_cases h9 : 1000000000000 < n.natAbs
        · rw [decide_eq_true h9]
          rw [if_pos h9] at k
          walk_at "el"
          exact k
        · rw [decide_eq_false h9]
          rw [if_neg h9] at k
          walk_at "el"
          exact k
    · have hj : i < p.form.length := by
        cases hx : decide (i < p.form.length)
        · rw [List.getElem?_eq_none (by have := of_decide_eq_false hx; omega)] at h2; cases h2
        · exact of_decide_eq_true hx
      have := st i hj wd x h2 h3
      rw [h4] at this; cases this
end
end EL

/- part K91E -/
namespace EL
open PySem PySem.Spec PyProof.Rows L2
open PySem.W (Frag)
open TX
abbrev s_lines : Stmt := top 52
abbrev N_lines : List Str := ["_law_events", "_law_witnesses", "_law_parts_here", "_law_found", "_law_w", "_law_e", "_law_x", "_law_a", "_law_b", "_law_g", "_law_side", "_law_kind_here", "_law_v", "_law_last", "_law_words"]
theorem sc_lines : FnScope N_lines ["_law_events", "_law_witnesses", "_law_parts_here"] (defScope s_lines) := ⟨rfl, rfl, rfl, by decide +kernel, rfl, by decide +kernel, by decide +kernel⟩
local macro_rules | `(tactic| walk_at "el1") => `(tactic| with_reducible first
  | refine a_sasg ?_ | refine a_sdrop ?_ | refine a_saugS ?_ | refine a_spar ?_ | refine a_seq ?_ | refine a_asg ?_ | refine a_drop ?_ | refine a_ret ?_ | refine a_if ?_ | refine a_next ?_
  | refine a_op ?_ | refine a_cons ?_ | refine a_nil ?_ | refine a_cb ?_ | refine a_call ?_ | refine a_c ?_ | refine a_gn ?_ | refine a_nx ?_ | refine a_rt ?_ | refine a_un ?_
  | refine a_test ?_ | refine a_B ?_ | refine a_bl ?_ | refine a_and ?_ | refine a_or ?_ | refine a_not ?_ | refine a_andV ?_ | refine a_orV ?_ | refine a_notV ?_ | refine a_ifx ?_ | refine a_chain ?_
  | refine a_nT ?_ | refine a_nF ?_ | refine a_fld ?_ | refine a_getF ?_ | refine a_T ?_ | refine a_F ?_ | refine a_tup ?_ | refine a_lst ?_ | refine a_sub ?_ | refine a_augS ?_ | refine a_two ?_ | refine a_I0 ?_ | refine a_U ?_ | refine n_add ?_ | refine n_int ?_ | refine n_ib ?_ | refine a_ip ?_ | refine a_rng1 ?_ | refine a_rng2 ?_ | refine a_bm ?_ | refine a_abs ?_ | refine a_pairs ?_ | refine a_pairs0 ?_ | refine a_bk ?_ | refine a_prp ?_ | refine a_lc ?_ | refine a_yes ?_ | refine a_sl ?_ | refine a_nop ?_ | refine a_prt ?_ | refine a_ex1 ?_ | refine a_for ?_ | refine a_sfor ?_ | refine a_iE1 ?_ | refine a_iEs ?_ | refine a_iEz ?_ | refine a_iEnum ?_ | refine a_iTup ?_ | refine a_iList ?_ | refine a_gcons ?_ | refine a_gnil ?_ | refine a_revT ?_ | refine a_spar3 ?_ | refine a_par3 ?_ | refine a_three ?_)
local macro_rules | `(tactic| walk_at "el2") => `(tactic| first
  | (refine a_var (by rfl) ?_)
  | (refine n_ixL (SqL.of (by assumption)) (by rfl) ?_) | (refine n_ixT (SqT.of (by assumption)) (by rfl) ?_) | (refine n_eq (by rfl) ?_) | (refine n_ne (by rfl) ?_)
  | (refine n_isN ?_) | (refine n_notN ?_) | (refine n_isB ?_) | (refine n_notB ?_) | (refine n_isBI ?_) | (refine n_notBI ?_) | (refine n_len (.inl (SqL.of (by assumption))) ?_) | (refine n_len (.inr (SqT.of (by assumption))) ?_)
  | (refine a_getL (SqL.of (by assumption)) (by rfl) ?_)
  | (refine n_isInt (by assumption) ?_) | (refine n_isBool (by assumption) ?_) | (refine n_isStr (by assumption) ?_) | (refine n_isTup (by assumption) ?_) | (refine n_isLst (by assumption) ?_))
local macro_rules | `(tactic| walk_at "el") => `(tactic| repeat (first | walk_at "el1" | walk_at "el2"))

def rJoin (K : Frag) : V → List V → Hp → VK → Prop := fun x xs H Q => ∃ a p, ∃ ys : List Str, x = .str a ∧ xs = [.ref p] ∧ (SqL K H p (ys.map V.str) ∨ SqT K H p (ys.map V.str)) ∧ (ys.map (·.length)).sum + ys.length * a.length ≤ 16777216 ∧ Q (.str (Txt.join a ys)) H
theorem eqv_pair (a b : Int) (s t : Str) : PyData.eqv (.tuple [.int a, .str s]) (.tuple [.int b, .str t]) = decide (a = b ∧ s = t) := by
  show (a == b && (s == t && true)) = _
  rw [Bool.and_true, Bool.eq_iff_iff]; simp
def headW (ev wi : Int) : List (List Str) := [["events", showI ev], ["witnesses", showI wi]]
def linesW (ev wi : Int) (D : PD) : List (List Str) := headW ev wi ++ D.T.map wT ++ D.G.map wG ++ D.S.map wS ++ D.L.map wL
def spLines : Sp := fun vs H Q _ => ∃ (ev wi : Int) (p : Addr) (l : Pt → Addr) (xs : Pt → List V) (D : PD), vs = [.int ev, .int wi, .ref p] ∧ 0 ≤ ev ∧ ev ≤ 8 ∧ 0 ≤ wi ∧ wi ≤ 8 ∧ H p = some (.lst [.ref (l .tel), .ref (l .gap), .ref (l .sur), .ref (l .cla)]) ∧ (∀ u, H (l u) = some (.lst (xs u))) ∧ PR H xs D ∧ D.Ok ev wi ∧
  (∀ u, (xs u).length ≤ 100) ∧ ∀ q H', Same H H' → H' q = some (.lst (((linesW ev wi D).map lineS).map V.str)) → Q (.ref q) H'
section
variable {P : Program} {w : World} {K : Frag} {mg : Str → Option Value} {base : Heap} {f C aForms aParts : Addr} {fd : FuncData}
theorem ok_lines (F : Fun K "_law_lines" "_law_lines" s_lines f fd) (T : Tb mg) : FnOk P w K mg base CX0 1 f fd ["_law_events", "_law_witnesses", "_law_parts_here"] spLines := by
  refine F.ok sc_lines (fun vs H Q E h => ?_) (fun cdv A outer s H vs Q E hr h => ?_)
  · obtain ⟨_, _, _, _, _, _, rfl, _⟩ := h
    rfl
  · obtain ⟨ev, wi, p, l, xs, D, rfl, e0, e8, w0, w8, hp, hl, R, ok, ln, k⟩ := h
    refine ⟨_, (Evl.pss_cut (ps_set (i := 3) sc_lines.nd rfl (Or.inl rfl) (pe_lst (pa_cons (pe_op op_add_str pe_str (pe_callTy call_str_int rfl T.b.str_ (by decide +kernel) (pa_cons (pv 0) pa_nil))) (pa_cons (pe_op op_add_str pe_str (pe_callTy call_str_int rfl T.b.str_ (by decide +kernel) (pa_cons (pv 1) pa_nil))) pa_nil))))
  (Evl.pss_cut (ps_set (i := 3) sc_lines.nd rfl (Or.inl rfl) (pe_op u_add (pv 3) (pe_lc (own := [("_law_w", 4), ("_law_e", 5), ("_law_x", 6)]) rfl sc_lines.nd (u_iter (pe_ix ix_seq (pv 2) pe_int (fun _ _ => rfl))) (blkOk_by (own := [("_law_w", 4), ("_law_e", 5), ("_law_x", 6)]) (N := N_lines) (sc := defScope s_lines) (by decide +kernel)) (fun _ _ _ _ _ => (show PG _ _ (gTup K 3 _) from (pg_tup rfl (pgs_cons (pg_name (i := 4) sc_lines.nd rfl (Or.inl rfl)) (pgs_cons (pg_name (i := 5) sc_lines.nd rfl (Or.inl rfl)) (pgs_cons (pg_name (i := 6) sc_lines.nd rfl (Or.inl rfl)) pgs_nil)))))) (fun _ _ _ _ _ => pts_nil) (fun _ _ _ _ _ => (show PE _ _ (tM1 (rJoin K) _ _) from (pe_join pe_str (pe_lst (pa_cons pe_str (pa_cons (pe_callTy call_str_int rfl T.b.str_ (by decide +kernel) (pa_cons (pv 4) pa_nil)) (pa_cons (pe_callTy call_str_int rfl T.b.str_ (by decide +kernel) (pa_cons (pv 5) pa_nil)) (pa_cons (pe_callTy call_str_int rfl T.b.str_ (by decide +kernel) (pa_cons (pv 6) pa_nil)) pa_nil)))))))))))
  (Evl.pss_cut (ps_set (i := 3) sc_lines.nd rfl (Or.inl rfl) (pe_op u_add (pv 3) (pe_lc (own := [("_law_a", 7), ("_law_b", 8), ("_law_g", 9)]) rfl sc_lines.nd (u_iter (pe_ix ix_seq (pv 2) pe_int (fun _ _ => rfl))) (blkOk_by (own := [("_law_a", 7), ("_law_b", 8), ("_law_g", 9)]) (N := N_lines) (sc := defScope s_lines) (by decide +kernel)) (fun _ _ _ _ _ => (show PG _ _ (gTup K 3 _) from (pg_tup rfl (pgs_cons (pg_name (i := 7) sc_lines.nd rfl (Or.inl rfl)) (pgs_cons (pg_name (i := 8) sc_lines.nd rfl (Or.inl rfl)) (pgs_cons (pg_name (i := 9) sc_lines.nd rfl (Or.inl rfl)) pgs_nil)))))) (fun _ _ _ _ _ => pts_nil) (fun _ _ _ _ _ => (show PE _ _ (tM1 (rJoin K) _ _) from (pe_join pe_str (pe_lst (pa_cons pe_str (pa_cons (pe_callTy call_str_int rfl T.b.str_ (by decide +kernel) (pa_cons (pv 7) pa_nil)) (pa_cons (pe_callTy call_str_int rfl T.b.str_ (by decide +kernel) (pa_cons (pv 8) pa_nil)) (pa_cons (pe_callTy call_str_int rfl T.b.str_ (by decide +kernel) (pa_cons (pv 9) pa_nil)) pa_nil)))))))))))
  (Evl.pss_cut (ps_set (i := 3) sc_lines.nd rfl (Or.inl rfl) (pe_op u_add (pv 3) (pe_lc (own := [("_law_e", 5), ("_law_side", 10), ("_law_x", 6)]) rfl sc_lines.nd (u_iter (pe_ix ix_seq (pv 2) pe_int (fun _ _ => rfl))) (blkOk_by (own := [("_law_e", 5), ("_law_side", 10), ("_law_x", 6)]) (N := N_lines) (sc := defScope s_lines) (by decide +kernel)) (fun _ _ _ _ _ => (show PG _ _ (gTup K 3 _) from (pg_tup rfl (pgs_cons (pg_name (i := 5) sc_lines.nd rfl (Or.inl rfl)) (pgs_cons (pg_name (i := 10) sc_lines.nd rfl (Or.inl rfl)) (pgs_cons (pg_name (i := 6) sc_lines.nd rfl (Or.inl rfl)) pgs_nil)))))) (fun _ _ _ _ _ => pts_nil) (fun _ _ _ _ _ => (show PE _ _ (tM1 (rJoin K) _ _) from (pe_join pe_str (pe_lst (pa_cons (pv 10) (pa_cons (pe_callTy call_str_int rfl T.b.str_ (by decide +kernel) (pa_cons (pv 5) pa_nil)) (pa_cons (pe_callTy call_str_int rfl T.b.str_ (by decide +kernel) (pa_cons (pv 6) pa_nil)) pa_nil))))))))))
  (pss_cons (ps_for PassesOwn.never rfl (u_iter (pe_ix ix_seq (pv 2) pe_int (fun _ _ => rfl))) (pg_tup rfl (pgs_cons (pg_name (i := 4) sc_lines.nd rfl (Or.inl rfl)) (pgs_cons (pg_name (i := 11) sc_lines.nd rfl (Or.inl rfl)) (pgs_cons (pg_name (i := 12) sc_lines.nd rfl (Or.inl rfl)) (pgs_cons (pg_name (i := 13) sc_lines.nd rfl (Or.inl rfl)) pgs_nil)))))
    (pss_cons (ps_set (i := 14) sc_lines.nd rfl (Or.inl rfl) (pe_lst (pa_cons pe_str (pa_cons (pe_callTy call_str_int rfl T.b.str_ (by decide +kernel) (pa_cons (pv 4) pa_nil)) (pa_cons (pv 11) (pa_cons (pe_callTy call_str_int rfl T.b.str_ (by decide +kernel) (pa_cons (pv 12) pa_nil)) (pa_cons (pv 13) pa_nil)))))))
  (Evl.pss_cut (ps_if (pt_cmpR (u_eq hr.units) (pe_tup (pa_cons (pv 4) (pa_cons (pv 11) pa_nil))) (pe_tup (pa_cons (pv 12) (pa_cons (pv 13) pa_nil))) (nomark _))
    (pss_one (ps_set (i := 14) sc_lines.nd rfl (Or.inl rfl) (pe_lst (pa_cons pe_str (pa_cons (pe_callTy call_str_int rfl T.b.str_ (by decide +kernel) (pa_cons (pv 4) pa_nil)) (pa_cons (pv 11) pa_nil))))))
    pss_nil)
  (pss_one (ps_expr (pe_bm PySem.F.plainAttrs_list PySem.F.slot_list_append PySem.F.type_list_append mt_append (pv 3) (pa_cons (pe_join pe_str (pv 14)) pa_nil)))))))
  (pss_one (ps_ret (pv 3)))))))), ?_⟩
    have hs0 : sizeLine = 16777216 := rfl
    have nE : ev.natAbs < 10 ^ 40 := Nat.lt_of_le_of_lt (by omega : ev.natAbs ≤ 8) (by decide +kernel)
    have nW : wi.natAbs < 10 ^ 40 := Nat.lt_of_le_of_lt (by omega : wi.natAbs ≤ 8) (by decide +kernel)
    have lE := showI_len nE
    have lW := showI_len nW
    refine a_cut (fun σ' H' => Same H H' ∧ ∃ g, H g = none ∧ H' g = some (.lst (((headW ev wi).map lineS).map V.str)) ∧ σ' = [some (.int ev), some (.int wi), some (.ref p), some (.ref g), none, none, none, none, none, none, none, none, none, none, none]) ?_ ?_
    · walk_at "el"
      refine ⟨log_of (Nat.lt_trans nE (by decide +kernel)), ?_⟩
      refine ⟨_, _, rfl, rfl, by show _ + (showI ev).length ≤ _; rw [show ("events " : Str).length = 7 from by decide +kernel]; omega, ?_⟩
      walk_at "el"
      refine ⟨log_of (Nat.lt_trans nW (by decide +kernel)), ?_⟩
      refine ⟨_, _, rfl, rfl, by show _ + (showI wi).length ≤ _; rw [show ("witnesses " : Str).length = 10 from by decide +kernel]; omega, ?_⟩
      walk_at "el"
      refine ⟨by show 2 ≤ sizeLine; decide, fun g hg => ?_⟩
      have e1 : ("events " : Str) ++ Str.ofString (toString ev) = lineS ["events", showI ev] := str_ext (by
        rw [line_list, app_list]
        show _ ++ (showI ev).cps.toList = _
        simp only [List.map, flat]
        rw [show ("events " : Str).cps.toList = ("events" : Str).cps.toList ++ [32] from by decide +kernel]; simp)
      have e2 : ("witnesses " : Str) ++ Str.ofString (toString wi) = lineS ["witnesses", showI wi] := str_ext (by
        rw [line_list, app_list]
        show _ ++ (showI wi).cps.toList = _
        simp only [List.map, flat]
        rw [show ("witnesses " : Str).cps.toList = ("witnesses" : Str).cps.toList ++ [32] from by decide +kernel]; simp)
      rw [e1, e2]
      exact ⟨nw_of hg _, g, hg, upd_same, rfl⟩
    rintro σ' H1 ⟨s1, g1, ng1, hg1, rfl⟩
    refine a_cut (fun σ' H' => Same H H' ∧ ∃ g, H g = none ∧ H' g = some (.lst (((headW ev wi ++ D.T.map wT).map lineS).map V.str)) ∧ σ' = [some (.int ev), some (.int wi), some (.ref p), some (.ref g), none, none, none, none, none, none, none, none, none, none, none]) ?_ ?_
    · walk_at "el"
      refine .inl ?_
      walk_at "el"
      refine n_ixL (SqL.of (s1 _ _ hp)) (by rfl) ?_
      have hl1 := s1 _ _ (hl .tel)
      refine ⟨l .tel, rfl, ⟨_, SqL.of hl1⟩, fun D0 hD0 => ?_⟩
      have d0 := nw_of hD0 (.lst [])
      have R1 := R.same s1
      refine lc_of (walk_list (xs := xs .tel)) (fun i H3 => Same H1 H3 ∧ H3 D0 = some (.lst ((((D.T.take i).map wT).map lineS).map V.str))) ⟨d0, upd_same⟩ (fun i H3 hi h => SqL.of (h.1 _ _ hl1)) ?_ ?_
      · rintro i x H3 H4 hi ⟨s3, d3⟩ ⟨rfl, hx⟩
        obtain ⟨u, x', rfl, hx', hu⟩ := R1.t.at_ i x hx
        obtain ⟨⟨a0, a1⟩, ⟨b0, b1⟩, c0, c1⟩ := ok.t x' (List.mem_of_getElem? hx')
        have n1 : x'.1.natAbs < 10 ^ 40 := Nat.lt_of_le_of_lt (by omega : x'.1.natAbs ≤ 8) (by decide +kernel)
        have n2 : x'.2.1.natAbs < 10 ^ 40 := Nat.lt_of_le_of_lt (by omega : x'.2.1.natAbs ≤ 8) (by decide +kernel)
        have n3 : x'.2.2.natAbs < 10 ^ 40 := Nat.lt_of_le_of_lt (by omega : x'.2.2.natAbs ≤ 1000000000000000) (by decide +kernel)
        have l1 := showI_len n1
        have l2 := showI_len n2
        have l3 := showI_len n3
        walk_at "el"
        refine ⟨u, _, rfl, SqT.of (s3 _ _ hu), rfl, ?_⟩
        walk_at "el"
        refine ⟨rfl, ?_⟩
        walk_at "el"
        unfold tM1
        walk_at "el"
        refine ⟨⟨_, rfl⟩, ?_⟩
        walk_at "el"
        refine ⟨log_of (Nat.lt_trans n1 (by decide +kernel)), ?_⟩
        walk_at "el"
        refine ⟨log_of (Nat.lt_trans n2 (by decide +kernel)), ?_⟩
        walk_at "el"
        refine ⟨log_of (Nat.lt_trans n3 (by decide +kernel)), ?_⟩
        walk_at "el"
        refine ⟨by show 4 ≤ sizeLine; decide, fun q hq => ?_⟩
        have e5 := nw_of hq (.lst ((wT x').map V.str))
        have hsum : ((wT x').map (·.length)).sum + (wT x').length * sp1.length ≤ 16777216 := by
          show ("tell" : Str).length + ((showI x'.1).length + ((showI x'.2.1).length + ((showI x'.2.2).length + 0))) + 4 * 1 ≤ 16777216
          rw [show ("tell" : Str).length = 4 from by decide +kernel]; omega
        refine ⟨sp1, q, wT x', congrArg V.str sp_eq, rfl, .inl (SqL.of upd_same), hsum, ?_⟩
        have hlt : i < (xs .tel).length := hi
        have hl9 := ln .tel
        refine ⟨_, e5 _ _ d3, ?_, L2.Same.mu (s3.trans e5) hD0, ?_⟩
        · rw [List.length_map, List.length_map, List.length_map, List.length_take]; omega
        · rw [upd_same, take_next hx', List.map_append, List.map_append, List.map_append]; rfl
      · rintro H3 ⟨s3, d3⟩
        rw [R.t.len, List.take_length] at d3
        walk_at "el"
        have hl9 := ln .tel
        have hl8 := R.t.len
        refine n_cat (s3 _ _ hg1) d3 (by simp only [List.length_map, List.length_append]; have h2 : (headW ev wi).length = 2 := rfl; omega) fun g2 hg2 => ?_
        exact ⟨(s1.trans s3).trans (nw_of hg2 _), g2, none_b (s1.trans s3) hg2, by rw [upd_same, ← List.map_append, ← List.map_append], rfl⟩
    clear g1 ng1 hg1 s1 H1
    rintro σ' H1 ⟨s1, g1, ng1, hg1, rfl⟩
    refine a_cut (fun σ' H' => Same H H' ∧ ∃ g, H g = none ∧ H' g = some (.lst (((headW ev wi ++ D.T.map wT ++ D.G.map wG).map lineS).map V.str)) ∧ σ' = [some (.int ev), some (.int wi), some (.ref p), some (.ref g), none, none, none, none, none, none, none, none, none, none, none]) ?_ ?_
    · walk_at "el"
      refine .inl ?_
      walk_at "el"
      refine n_ixL (SqL.of (s1 _ _ hp)) (by rfl) ?_
      have hl1 := s1 _ _ (hl .gap)
      refine ⟨l .gap, rfl, ⟨_, SqL.of hl1⟩, fun D0 hD0 => ?_⟩
      have d0 := nw_of hD0 (.lst [])
      have R1 := R.same s1
      refine lc_of (walk_list (xs := xs .gap)) (fun i H3 => Same H1 H3 ∧ H3 D0 = some (.lst ((((D.G.take i).map wG).map lineS).map V.str))) ⟨d0, upd_same⟩ (fun i H3 hi h => SqL.of (h.1 _ _ hl1)) ?_ ?_
      · rintro i x H3 H4 hi ⟨s3, d3⟩ ⟨rfl, hx⟩
        obtain ⟨u, x', rfl, hx', hu⟩ := R1.g.at_ i x hx
        obtain ⟨⟨a0, a1⟩, ⟨b0, b1⟩, c0, c1⟩ := ok.g x' (List.mem_of_getElem? hx')
        have n1 : x'.1.natAbs < 10 ^ 40 := Nat.lt_of_le_of_lt (by omega : x'.1.natAbs ≤ 8) (by decide +kernel)
        have n2 : x'.2.1.natAbs < 10 ^ 40 := Nat.lt_of_le_of_lt (by omega : x'.2.1.natAbs ≤ 8) (by decide +kernel)
        have n3 : x'.2.2.natAbs < 10 ^ 40 := Nat.lt_of_le_of_lt (by omega : x'.2.2.natAbs ≤ 1000000000000000) (by decide +kernel)
        have l1 := showI_len n1
        have l2 := showI_len n2
        have l3 := showI_len n3
        walk_at "el"
        refine ⟨u, _, rfl, SqT.of (s3 _ _ hu), rfl, ?_⟩
        walk_at "el"
        refine ⟨rfl, ?_⟩
        walk_at "el"
        unfold tM1
        walk_at "el"
        refine ⟨⟨_, rfl⟩, ?_⟩
        walk_at "el"
        refine ⟨log_of (Nat.lt_trans n1 (by decide +kernel)), ?_⟩
        walk_at "el"
        refine ⟨log_of (Nat.lt_trans n2 (by decide +kernel)), ?_⟩
        walk_at "el"
        refine ⟨log_of (Nat.lt_trans n3 (by decide +kernel)), ?_⟩
        walk_at "el"
        refine ⟨by show 4 ≤ sizeLine; decide, fun q hq => ?_⟩
        have e5 := nw_of hq (.lst ((wG x').map V.str))
        have hsum : ((wG x').map (·.length)).sum + (wG x').length * sp1.length ≤ 16777216 := by
          show ("gap" : Str).length + ((showI x'.1).length + ((showI x'.2.1).length + ((showI x'.2.2).length + 0))) + 4 * 1 ≤ 16777216
          rw [show ("gap" : Str).length = 3 from by decide +kernel]; omega
        refine ⟨sp1, q, wG x', congrArg V.str sp_eq, rfl, .inl (SqL.of upd_same), hsum, ?_⟩
        have hlt : i < (xs .gap).length := hi
        have hl9 := ln .gap
        refine ⟨_, e5 _ _ d3, ?_, L2.Same.mu (s3.trans e5) hD0, ?_⟩
        · rw [List.length_map, List.length_map, List.length_map, List.length_take]; omega
        · rw [upd_same, take_next hx', List.map_append, List.map_append, List.map_append]; rfl
      · rintro H3 ⟨s3, d3⟩
        rw [R.g.len, List.take_length] at d3
        walk_at "el"
        have hl9 := ln .gap
        have hl8 := R.g.len
        refine n_cat (s3 _ _ hg1) d3 (by simp only [List.length_map, List.length_append]; have h2 : (headW ev wi).length = 2 := rfl; have h3 := ln .tel; have h4 := R.t.len; omega) fun g2 hg2 => ?_
        exact ⟨(s1.trans s3).trans (nw_of hg2 _), g2, none_b (s1.trans s3) hg2, by rw [upd_same, ← List.map_append, ← List.map_append], rfl⟩
    clear g1 ng1 hg1 s1 H1
    rintro σ' H1 ⟨s1, g1, ng1, hg1, rfl⟩
    refine a_cut (fun σ' H' => Same H H' ∧ ∃ g, H g = none ∧ H' g = some (.lst (((headW ev wi ++ D.T.map wT ++ D.G.map wG ++ D.S.map wS).map lineS).map V.str)) ∧ σ' = [some (.int ev), some (.int wi), some (.ref p), some (.ref g), none, none, none, none, none, none, none, none, none, none, none]) ?_ ?_
    · walk_at "el"
      refine .inl ?_
      walk_at "el"
      refine n_ixL (SqL.of (s1 _ _ hp)) (by rfl) ?_
      have hl1 := s1 _ _ (hl .sur)
      refine ⟨l .sur, rfl, ⟨_, SqL.of hl1⟩, fun D0 hD0 => ?_⟩
      have d0 := nw_of hD0 (.lst [])
      have R1 := R.same s1
      refine lc_of (walk_list (xs := xs .sur)) (fun i H3 => Same H1 H3 ∧ H3 D0 = some (.lst ((((D.S.take i).map wS).map lineS).map V.str))) ⟨d0, upd_same⟩ (fun i H3 hi h => SqL.of (h.1 _ _ hl1)) ?_ ?_
      · rintro i x H3 H4 hi ⟨s3, d3⟩ ⟨rfl, hx⟩
        obtain ⟨u, x', rfl, hx', hu⟩ := R1.s.at_ i x hx
        obtain ⟨⟨a0, a1⟩, hw, c0, c1⟩ := ok.s x' (List.mem_of_getElem? hx')
        have n1 : x'.1.natAbs < 10 ^ 40 := Nat.lt_of_le_of_lt (by omega : x'.1.natAbs ≤ 8) (by decide +kernel)
        have n3 : x'.2.2.natAbs < 10 ^ 40 := Nat.lt_of_le_of_lt (by omega : x'.2.2.natAbs ≤ 1000000000000000) (by decide +kernel)
        have l1 := showI_len n1
        have l2 : x'.2.1.length ≤ 5 := by rcases hw with h | h <;> rw [h] <;> decide +kernel
        have l3 := showI_len n3
        walk_at "el"
        refine ⟨u, _, rfl, SqT.of (s3 _ _ hu), rfl, ?_⟩
        walk_at "el"
        refine ⟨rfl, ?_⟩
        walk_at "el"
        unfold tM1
        walk_at "el"
        refine ⟨⟨_, rfl⟩, ?_⟩
        walk_at "el"
        refine ⟨log_of (Nat.lt_trans n1 (by decide +kernel)), ?_⟩
        walk_at "el"
        refine ⟨log_of (Nat.lt_trans n3 (by decide +kernel)), ?_⟩
        walk_at "el"
        refine ⟨by show 3 ≤ sizeLine; decide, fun q hq => ?_⟩
        have e5 := nw_of hq (.lst ((wS x').map V.str))
        have hsum : ((wS x').map (·.length)).sum + (wS x').length * sp1.length ≤ 16777216 := by
          show (x'.2.1).length + ((showI x'.1).length + ((showI x'.2.2).length + 0)) + 3 * 1 ≤ 16777216
          omega
        refine ⟨sp1, q, wS x', congrArg V.str sp_eq, rfl, .inl (SqL.of upd_same), hsum, ?_⟩
        have hlt : i < (xs .sur).length := hi
        have hl9 := ln .sur
        refine ⟨_, e5 _ _ d3, ?_, L2.Same.mu (s3.trans e5) hD0, ?_⟩
        · rw [List.length_map, List.length_map, List.length_map, List.length_take]; omega
        · rw [upd_same, take_next hx', List.map_append, List.map_append, List.map_append]; rfl
      · rintro H3 ⟨s3, d3⟩
        rw [R.s.len, List.take_length] at d3
        walk_at "el"
        have hl9 := ln .sur
        have hl8 := R.s.len
        refine n_cat (s3 _ _ hg1) d3 (by simp only [List.length_map, List.length_append]; have h2 : (headW ev wi).length = 2 := rfl; have h3 := ln .tel; have h4 := R.t.len; have h5 := ln .gap; have h6 := R.g.len; omega) fun g2 hg2 => ?_
        exact ⟨(s1.trans s3).trans (nw_of hg2 _), g2, none_b (s1.trans s3) hg2, by rw [upd_same, ← List.map_append, ← List.map_append], rfl⟩
    clear g1 ng1 hg1 s1 H1
    rintro σ' H1 ⟨s1, g1, ng1, hg1, rfl⟩
    walk_at "el"
    refine .inl ?_
    walk_at "el"
    refine n_ixL (SqL.of (s1 _ _ hp)) (by rfl) ?_
    have hl1 := s1 _ _ (hl .cla)
    have nl1 : l .cla ≠ g1 := fun z => by have := hl .cla; rw [z, ng1] at this; cases this
    refine ⟨l .cla, rfl, ⟨_, SqL.of hl1⟩, ?_⟩
    refine lp_it (walk_list (xs := xs .cla)) (fun i σ H2 => Kp g1 H1 H2 ∧ H2 g1 = some (.lst (((headW ev wi ++ D.T.map wT ++ D.G.map wG ++ D.S.map wS ++ (D.L.take i).map wL).map lineS).map V.str)) ∧ ∃ v4 v11 v12 v13 v14, σ = [some (.int ev), some (.int wi), some (.ref p), some (.ref g1), v4, none, none, none, none, none, none, v11, v12, v13, v14]) ⟨Kp.refl _ _, by simpa using hg1, _, _, _, _, _, rfl⟩ (fun i σ H2 hi h => SqL.of (h.1 _ _ nl1 hl1)) ?_ ?_
    · rintro i x σ H2 H3 hi ⟨k2, d2, v4, v11, v12, v13, v14, rfl⟩ ⟨rfl, hx⟩
      obtain ⟨u, x', rfl, hx', hu⟩ := R.l.at_ i x hx
      have nu : u ≠ g1 := fun z => by rw [z, ng1] at hu; cases hu
      obtain ⟨⟨a0, a1⟩, hw, ⟨b0, b1⟩, hw2⟩ := ok.l x' (List.mem_of_getElem? hx')
      have n1 : x'.1.natAbs < 10 ^ 40 := Nat.lt_of_le_of_lt (by omega : x'.1.natAbs ≤ 8) (by decide +kernel)
      have n3 : x'.2.2.1.natAbs < 10 ^ 40 := Nat.lt_of_le_of_lt (by omega : x'.2.2.1.natAbs ≤ 8) (by decide +kernel)
      have l1 := showI_len n1
      have l2 : x'.2.1.length ≤ 5 := by rcases hw with h | h <;> rw [h] <;> decide +kernel
      have l4 : x'.2.2.2.length ≤ 5 := by rcases hw2 with h | h <;> rw [h] <;> decide +kernel
      have l3 := showI_len n3
      walk_at "el"
      refine ⟨u, _, rfl, SqT.of (k2 _ _ nu (s1 _ _ hu)), rfl, ?_⟩
      walk_at "el"
      refine ⟨log_of (Nat.lt_trans n1 (by decide +kernel)), ?_⟩
      walk_at "el"
      refine ⟨log_of (Nat.lt_trans n3 (by decide +kernel)), ?_⟩
      walk_at "el"
      refine ⟨by show 5 ≤ sizeLine; decide, fun q1 hq1 => ?_⟩
      have e1 := nw_of hq1
      walk_at "el"
      refine a_cut (fun σ' H' => Same H3 H' ∧ ∃ qw, H' qw = some (.lst ((wL x').map V.str)) ∧ σ' = [some (.int ev), some (.int wi), some (.ref p), some (.ref g1), some (.int x'.1), none, none, none, none, none, none, some (.str x'.2.1), some (.int x'.2.2.1), some (.str x'.2.2.2), some (.ref qw)]) ?_ ?_
      · walk_at "el"
        refine ⟨by show 2 ≤ sizeLine; decide, fun q2 hq2 => ?_⟩
        have e2 := nw_of hq2 (.tup [.int x'.1, .str x'.2.1])
        walk_at "el"
        refine ⟨by show 2 ≤ sizeLine; decide, fun q3 hq3 => ?_⟩
        have e3 := nw_of hq3 (.tup [.int x'.2.2.1, .str x'.2.2.2])
        have so : ∀ s : Str, s = "early" ∨ s = "late" → PyData.strOk s = true := fun s h => by rcases h with rfl | rfl <;> decide +kernel
        refine n_eqD (.tup (SqT.of (e3 _ _ upd_same)) (.cons (.int _) (.cons (.str _) .nil))) (.tup (SqT.of upd_same) (.cons (.int _) (.cons (.str _) .nil))) (shp_is (so _ hw)) (shp_is (so _ hw2)) ?_
        rw [eqv_pair]
        have s3' := ((e1 (.lst [.str "clause", .str (showI x'.1), .str x'.2.1, .str (showI x'.2.2.1), .str x'.2.2.2])).trans e2).trans e3
        by_cases c : x'.1 = x'.2.2.1 ∧ x'.2.1 = x'.2.2.2
        · rw [decide_eq_true c]
          walk_at "el"
          refine ⟨log_of (Nat.lt_trans n1 (by decide +kernel)), ?_⟩
          walk_at "el"
          refine ⟨by show 3 ≤ sizeLine; decide, fun q4 hq4 => ?_⟩
          exact ⟨s3'.trans (nw_of hq4 _), q4, by unfold wL; rw [if_pos c]; exact upd_same, rfl⟩
        · rw [decide_eq_false c]
          walk_at "el"
          exact ⟨s3', q1, by unfold wL; rw [if_neg c]; exact e3 _ _ (e2 _ _ upd_same), rfl⟩
      rintro σ' H4 ⟨s4, qw, hqw, rfl⟩
      walk_at "el"
      have k24 : Kp g1 H1 H4 := k2.trans (same_kp s4)
      have d4 := s4 _ _ d2
      have hsum : ((wL x').map (·.length)).sum + (wL x').length * sp1.length ≤ 16777216 := by
        unfold wL
        split
        · show ("known" : Str).length + ((showI x'.1).length + (x'.2.1.length + 0)) + 3 * 1 ≤ 16777216
          rw [show ("known" : Str).length = 5 from by decide +kernel]; omega
        · show ("clause" : Str).length + ((showI x'.1).length + (x'.2.1.length + ((showI x'.2.2.1).length + (x'.2.2.2.length + 0)))) + 5 * 1 ≤ 16777216
          rw [show ("clause" : Str).length = 6 from by decide +kernel]; omega
      refine ⟨.inl ⟨rfl, _, SqL.of d4⟩, ?_⟩
      unfold tM1
      walk_at "el"
      refine ⟨⟨_, rfl⟩, ?_⟩
      walk_at "el"
      refine ⟨sp1, qw, wL x', congrArg V.str sp_eq, rfl, .inl (SqL.of hqw), hsum, ?_⟩
      walk_at "el"
      have hlt : i < (xs .cla).length := hi
      have h3 := ln .tel
      have h4 := R.t.len
      have h5 := ln .gap
      have h6 := R.g.len
      have h7 := ln .sur
      have h8 := R.s.len
      have h9 := ln .cla
      have h2 : (headW ev wi).length = 2 := rfl
      refine ⟨g1, _, .str _, rfl, rfl, d4, by simp only [List.length_map, List.length_append, List.length_take]; omega, ?_⟩
      walk_at "el"
      exact ⟨k24.bag, by rw [upd_same, take_next hx']; simp only [List.map_append, List.map_cons, List.map_nil, List.append_assoc]; rfl, _, _, _, _, _, rfl⟩
    · rintro σ H2 ⟨k2, d2, v4, v11, v12, v13, v14, rfl⟩
      rw [R.l.len, List.take_length] at d2
      walk_at "el"
      refine k g1 H2 (fun b o hb => k2 b o (fun z => by rw [z, ng1] at hb; cases hb) (s1 b o hb)) d2
end
end EL

/- part BM -/
namespace EL
open PySem PySem.Spec PyProof.Rows L2
open PySem.W (Frag)
abbrev s_Book_is_plain : Stmt := inClass (top 27) 8
abbrev N_Book_is_plain : List Str := ["self"]
theorem sc_Book_is_plain : FnScope N_Book_is_plain ["self"] (defScope s_Book_is_plain) := ⟨rfl, rfl, rfl, by decide +kernel, rfl, by decide +kernel, by decide +kernel⟩
abbrev s_Book_told_by : Stmt := inClass (top 27) 9
abbrev N_Book_told_by : List Str := ["self", "w"]
theorem sc_Book_told_by : FnScope N_Book_told_by ["self", "w"] (defScope s_Book_told_by) := ⟨rfl, rfl, rfl, by decide +kernel, rfl, by decide +kernel, by decide +kernel⟩
local macro_rules | `(tactic| walk_at "el1") => `(tactic| with_reducible first
  | refine a_sasg ?_ | refine a_sdrop ?_ | refine a_saugS ?_ | refine a_spar ?_ | refine a_seq ?_ | refine a_asg ?_ | refine a_drop ?_ | refine a_ret ?_ | refine a_if ?_ | refine a_next ?_
  | refine a_op ?_ | refine a_cons ?_ | refine a_nil ?_ | refine a_cb ?_ | refine a_call ?_ | refine a_c ?_ | refine a_gn ?_ | refine a_nx ?_ | refine a_rt ?_ | refine a_un ?_
  | refine a_test ?_ | refine a_B ?_ | refine a_bl ?_ | refine a_and ?_ | refine a_or ?_ | refine a_not ?_ | refine a_andV ?_ | refine a_orV ?_ | refine a_notV ?_ | refine a_ifx ?_ | refine a_chain ?_
  | refine a_nT ?_ | refine a_nF ?_ | refine a_fld ?_ | refine a_getF ?_ | refine a_T ?_ | refine a_F ?_ | refine a_tup ?_ | refine a_lst ?_ | refine a_sub ?_ | refine a_augS ?_ | refine a_two ?_ | refine a_I0 ?_ | refine a_U ?_ | refine n_add ?_ | refine n_int ?_ | refine n_ib ?_ | refine a_ip ?_ | refine a_rng1 ?_ | refine a_rng2 ?_ | refine a_bm ?_ | refine a_abs ?_ | refine a_pairs ?_ | refine a_pairs0 ?_ | refine a_bk ?_ | refine a_prp ?_ | refine a_lc ?_ | refine a_yes ?_ | refine a_sl ?_ | refine a_nop ?_ | refine a_prt ?_ | refine a_ex1 ?_ | refine a_for ?_ | refine a_sfor ?_ | refine a_iE1 ?_ | refine a_iEs ?_ | refine a_iEz ?_ | refine a_iEnum ?_ | refine a_iTup ?_ | refine a_iList ?_ | refine a_gcons ?_ | refine a_gnil ?_ | refine a_revT ?_ | refine a_spar3 ?_ | refine a_par3 ?_ | refine a_three ?_)
local macro_rules | `(tactic| walk_at "el2") => `(tactic| first
  | (refine a_var (by rfl) ?_)
  | (refine n_ixL (SqL.of (by assumption)) (by rfl) ?_) | (refine n_ixT (SqT.of (by assumption)) (by rfl) ?_) | (refine n_eq (by rfl) ?_) | (refine n_ne (by rfl) ?_)
  | (refine n_isN ?_) | (refine n_notN ?_) | (refine n_isB ?_) | (refine n_notB ?_) | (refine n_isBI ?_) | (refine n_notBI ?_) | (refine n_len (.inl (SqL.of (by assumption))) ?_) | (refine n_len (.inr (SqT.of (by assumption))) ?_)
  | (refine a_getL (SqL.of (by assumption)) (by rfl) ?_)
  | (refine n_isInt (by assumption) ?_) | (refine n_isBool (by assumption) ?_) | (refine n_isStr (by assumption) ?_) | (refine n_isTup (by assumption) ?_) | (refine n_isLst (by assumption) ?_))
local macro_rules | `(tactic| walk_at "el") => `(tactic| repeat (first | walk_at "el1" | walk_at "el2"))

/-! ### methods of a book -/
structure MthG (P : Program) (w : World) (K : Frag) (mg : Str → Option Value) (base : Heap) (C : Addr) (k : Nat) (m : Str) (ps : List Str) (sp : Sp) : Prop where
  ex : ∃ f fd, Meth K C m f ∧ FnOk P w K mg base CX0 k f fd ps sp ∧ L2.Binds K fd ps []
  cl : Cls K C
theorem pe_mth {X : Cx} {C : Addr} {k : Nat} {m : Str} {ps : List Str} {sp : Sp} {o e : Expr} {es : List Expr} {ta : TE} {t : TA} {pos : Pos} {apos : Pos} {pl : Sem Bool} (G : MthG X.prog X.w X.K X.mg X.base C k m ps sp) (hr : Room k X.A) (hx : Passes CX0 X E0) (he : PE X o ta) (ha : PA X (e :: es) t)
    (hst : starEach (e :: es) X.env = (false, eval e X.env) :: starEach es X.env := by rfl) (hpl : (backTo pos (starEach es X.env)).any (·.1) = false := by rfl)
    (ht : eval (.Call (.Attribute o m apos) (e :: es) [] pos) X.env = (do
      let ov ← eval o X.env
      standAt apos.atName
      let (f, first) ← holding [ov] (getMethod ov m pl)
      callWith pos f first (backTo pos (starEach (e :: es) X.env)) (backToKw pos (keywordEach [] X.env))) := by rfl) :
    PE X (.Call (.Attribute o m apos) (e :: es) [] pos) (tMeth C m sp [] E0 ta t) := by
  obtain ⟨f, fd, hm, F, hb⟩ := G.ex
  exact pe_meth he G.cl hm F hr hb .nil hx ha hst hpl ht
def plainB (D : PD) : Bool := D.L.all fun x => decide (x.1 = x.2.2.1) || !decide (x.2.1 = x.2.2.2)
def toldI (D : PD) (w : Int) (n : Nat) : List Int := ((List.range n).filter fun i => decide ((D.T[i]?).map (fun x => x.1) = some w)).map Int.ofNat
theorem told_succ {D : PD} {w : Int} {n : Nat} : toldI D w (n + 1) = toldI D w n ++ (if (D.T[n]?).map (fun x => x.1) = some w then [(n : Int)] else []) := by
  unfold toldI
  rw [List.range_succ, List.filter_append, List.map_append, List.filter_cons]
  congr 1
  by_cases h : (D.T[n]?).map (fun x => x.1) = some w
  · rw [if_pos h, if_pos (decide_eq_true h)]; rfl
  · rw [if_neg h, if_neg (fun z => h (of_decide_eq_true z))]; rfl
theorem told_len {D : PD} {w : Int} {n : Nat} : (toldI D w n).length ≤ n := by
  unfold toldI
  rw [List.length_map]
  exact Nat.le_trans (List.length_filter_le ..) (by rw [List.length_range]; exact Nat.le_refl _)
def spPlain (K : Frag) (C : Addr) : Sp := fun vs H Q _ => ∃ (A : BA) (D : PD), vs = [.ref A.o] ∧ BB K C H A D ∧ D.L.length ≤ 1000 ∧ ∀ H', Same H H' → Q (.bl (plainB D)) H'
def spTold (K : Frag) (C : Addr) : Sp := fun vs H Q _ => ∃ (A : BA) (D : PD) (w : Int), vs = [.ref A.o, .int w] ∧ BB K C H A D ∧ D.T.length ≤ 1000 ∧ ∀ H' r, Same H H' → H r = none → H' r = some (.lst ((toldI D w D.T.length).map V.int)) → Q (.ref r) H'
section
variable {P : Program} {w : World} {K : Frag} {mg : Str → Option Value} {base : Heap} {f : Addr} {fd : FuncData} {C : Addr}
def spPlC : Sp := fun vs H Q _ => ∃ (a : Addr) (y : Int × Str × Int × Str), vs = [.ref a] ∧ H a = some (.tup (encL y)) ∧ Q (.bl (decide (y.1 = y.2.2.1) || !decide (y.2.1 = y.2.2.2))) H
/-! a book's parts as data -/
abbrev dT (x : Int × Int × Int) : PyData := .tuple [.int x.1, .int x.2.1, .int x.2.2]
abbrev dS (x : Int × Str × Int) : PyData := .tuple [.int x.1, .str x.2.1, .int x.2.2]
abbrev dL (x : Int × Str × Int × Str) : PyData := .tuple [.int x.1, .str x.2.1, .int x.2.2.1, .str x.2.2.2]
theorem rows_tail {α : Type} {enc : α → List V} {H : Hp} {v : V} {xs : List V} {y : α} {D : List α} (h : RowsAre enc H (v :: xs) (y :: D)) : RowsAre enc H xs D := ⟨Nat.succ.inj h.len, fun i w hw => by
  obtain ⟨q, x, a, b, c⟩ := h.at_ (i + 1) w hw
  exact ⟨q, x, a, b, c⟩⟩
theorem rows_dp {α : Type} {enc : α → List V} {dec : α → PyData} {K : Frag} {H : Hp} (he : ∀ (q : Addr) (x : α), H q = some (.tup (enc x)) → Dp K H (.ref q) (dec x)) : ∀ {xs : List V} {D : List α}, RowsAre enc H xs D → DpAll K H xs (D.map dec)
  | [], [], _ => .nil
  | [], _ :: _, h => by have := h.len; simp at this
  | _ :: _, [], h => by have := h.len; simp at this
  | v :: xs, y :: D, h => by
    obtain ⟨q, x, rfl, hx, hq⟩ := h.at_ 0 v rfl
    cases hx
    exact .cons (he q _ hq) (rows_dp he (rows_tail h))
theorem dp_T {K : Frag} {H : Hp} {q : Addr} {x : Int × Int × Int} (h : H q = some (.tup (encT x))) : Dp K H (.ref q) (dT x) := .tup (SqT.of h) (.cons (.int _) (.cons (.int _) (.cons (.int _) .nil)))
theorem dp_S {K : Frag} {H : Hp} {q : Addr} {x : Int × Str × Int} (h : H q = some (.tup (encS x))) : Dp K H (.ref q) (dS x) := .tup (SqT.of h) (.cons (.int _) (.cons (.str _) (.cons (.int _) .nil)))
theorem dp_L {K : Frag} {H : Hp} {q : Addr} {x : Int × Str × Int × Str} (h : H q = some (.tup (encL x))) : Dp K H (.ref q) (dL x) := .tup (SqT.of h) (.cons (.int _) (.cons (.str _) (.cons (.int _) (.cons (.str _) .nil))))
theorem dp_app {K : Frag} {H : Hp} : ∀ {vs ws : List V} {ds es : List PyData}, DpAll K H vs ds → DpAll K H ws es → DpAll K H (vs ++ ws) (ds ++ es)
  | [], _, _, _, .nil, h => h
  | _ :: _, _, _, _, .cons h t, k => .cons h (dp_app t k)
def bookD (D : PD) (ev wi : Int) : PyData := .list [.int ev, .int wi, .tuple (D.T.map dT), .tuple (D.G.map dT), .tuple (D.S.map dS), .tuple (D.L.map dL)]
theorem num_abs {x : Int} (h : NumOk x) : x.natAbs < 10 ^ 40 := by
  obtain ⟨a, b⟩ := h
  exact Nat.lt_of_lt_of_le (m := 1000000000000001) (by omega) (by decide)
theorem small_abs {x : Int} (h : 0 ≤ x) (h2 : x ≤ 1000) : x.natAbs < 10 ^ 40 := Nat.lt_of_lt_of_le (m := 1001) (by omega) (by decide)
theorem sz_word {s : Str} (h : s = "early" ∨ s = "late" ∨ s = "least" ∨ s = "most") : Sz 5 0 (.str s) := by
  rcases h with rfl | rfl | rfl | rfl <;> exact (sz_str (by decide +kernel)).le (by decide +kernel) (by decide)
theorem bookD_fine {D : PD} {ev wi : Int} (ok : D.Ok ev wi) (e0 : 0 ≤ ev) (e8 : ev ≤ 8) (w0 : 0 ≤ wi) (w8 : wi ≤ 8) (l : D.T.length ≤ 100 ∧ D.G.length ≤ 100 ∧ D.S.length ≤ 100 ∧ D.L.length ≤ 100) : Fine (bookD D ev wi) := by
  have part : ∀ {α : Type} {dec : α → PyData} {E : List α}, (∀ x ∈ E, Sz 30 1 (dec x)) → E.length ≤ 100 → Sz 3100 2 (.tuple (E.map dec)) := fun {α dec E} h hl => by
    refine (sz_tup (n := 30) (k := 1) fun d hd => ?_).le (Nat.le_trans (Nat.mul_le_mul_right _ (by rw [List.length_map]; exact hl)) (by decide)) (by decide)
    obtain ⟨x, hx, rfl⟩ := List.mem_map.mp hd
    exact h x hx
  have i0 : ∀ {x : Int}, x.natAbs < 10 ^ 40 → Sz 5 0 (.int x) := fun h => (sz_int h).le (by decide) (by decide)
  have t3 : ∀ {a c d : PyData}, Sz 5 0 a → Sz 5 0 c → Sz 5 0 d → Sz 30 1 (.tuple [a, c, d]) := fun h1 h2 h3 => (sz_tup (n := 5) (k := 0) (all_cons h1 (all_cons h2 (all_cons h3 all_nil)))).le (by show 3 * 6 ≤ 30; decide) (by decide)
  have t4 : ∀ {a c d e : PyData}, Sz 5 0 a → Sz 5 0 c → Sz 5 0 d → Sz 5 0 e → Sz 30 1 (.tuple [a, c, d, e]) := fun h1 h2 h3 h4 => (sz_tup (n := 5) (k := 0) (all_cons h1 (all_cons h2 (all_cons h3 (all_cons h4 all_nil))))).le (by show 4 * 6 ≤ 30; decide) (by decide)
  have z : Sz (6 * (3100 + 1)) 3 (bookD D ev wi) := by
    refine sz_lst (n := 3100) (k := 2) (ds := [.int ev, .int wi, .tuple (D.T.map dT), .tuple (D.G.map dT), .tuple (D.S.map dS), .tuple (D.L.map dL)]) (all_cons ((i0 (small_abs e0 (by omega))).le (by decide) (by decide)) (all_cons ((i0 (small_abs w0 (by omega))).le (by decide) (by decide)) (all_cons (part (fun x hx => ?_) l.1) (all_cons (part (fun x hx => ?_) l.2.1) (all_cons (part (fun x hx => ?_) l.2.2.1) (all_cons (part (fun x hx => ?_) l.2.2.2) all_nil))))))
    · have o := ok.t x hx
      exact t3 (i0 (small_abs o.1.1 (by omega))) (i0 (small_abs o.2.1.1 (by omega))) (i0 (num_abs o.2.2))
    · have o := ok.g x hx
      exact t3 (i0 (small_abs o.1.1 (by omega))) (i0 (small_abs o.2.1.1 (by omega))) (i0 (num_abs o.2.2))
    · have o := ok.s x hx
      exact t3 (i0 (small_abs o.1.1 (by omega))) (sz_word (o.2.1.elim (fun h => .inr (.inr (.inl h))) fun h => .inr (.inr (.inr h)))) (i0 (num_abs o.2.2))
    · have o := ok.l x hx
      exact t4 (i0 (small_abs o.1.1 (by omega))) (sz_word (o.2.1.elim .inl fun h => .inr (.inl h))) (i0 (small_abs o.2.2.1.1 (by omega))) (sz_word (o.2.2.2.elim .inl fun h => .inr (.inl h)))
  exact z.fine (by decide) (by decide)
def spBookIs (K : Frag) (C : Addr) : Sp := fun vs H Q _ => ∃ (A : BA) (D : PD) (b p : Addr) (l : Pt → Addr) (xs : Pt → List V), vs = [.ref A.o, .int A.ev, .int A.wi, .ref p] ∧ BB K C H A D ∧ LP H b p l xs D ∧ D.Ok A.ev A.wi ∧ 0 ≤ A.ev ∧ A.ev ≤ 8 ∧ 0 ≤ A.wi ∧ A.wi ≤ 8 ∧
  (D.T.length ≤ 100 ∧ D.G.length ≤ 100 ∧ D.S.length ≤ 100 ∧ D.L.length ≤ 100) ∧ ∀ H', Same H H' → Q (.bl true) H'
end
end EL

/- part BE -/
namespace EL
open PySem PySem.Spec PyProof.Rows L2
open PySem.W (Frag)
abbrev s_Book_eq : Stmt := inClass (top 27) 7
abbrev N_Book_eq : List Str := ["self", "other"]
theorem sc_Book_eq : FnScope N_Book_eq ["self", "other"] (defScope s_Book_eq) := ⟨rfl, rfl, rfl, by decide +kernel, rfl, by decide +kernel, by decide +kernel⟩
local macro_rules | `(tactic| walk_at "el1") => `(tactic| with_reducible first
  | refine a_sasg ?_ | refine a_sdrop ?_ | refine a_saugS ?_ | refine a_spar ?_ | refine a_seq ?_ | refine a_asg ?_ | refine a_drop ?_ | refine a_ret ?_ | refine a_if ?_ | refine a_next ?_
  | refine a_op ?_ | refine a_cons ?_ | refine a_nil ?_ | refine a_cb ?_ | refine a_call ?_ | refine a_c ?_ | refine a_gn ?_ | refine a_nx ?_ | refine a_rt ?_ | refine a_un ?_
  | refine a_test ?_ | refine a_B ?_ | refine a_bl ?_ | refine a_and ?_ | refine a_or ?_ | refine a_not ?_ | refine a_andV ?_ | refine a_orV ?_ | refine a_notV ?_ | refine a_ifx ?_ | refine a_chain ?_
  | refine a_nT ?_ | refine a_nF ?_ | refine a_fld ?_ | refine a_getF ?_ | refine a_T ?_ | refine a_F ?_ | refine a_tup ?_ | refine a_lst ?_ | refine a_sub ?_ | refine a_augS ?_ | refine a_two ?_ | refine a_I0 ?_ | refine a_U ?_ | refine n_add ?_ | refine n_int ?_ | refine n_ib ?_ | refine a_ip ?_ | refine a_rng1 ?_ | refine a_rng2 ?_ | refine a_bm ?_ | refine a_abs ?_ | refine a_pairs ?_ | refine a_pairs0 ?_ | refine a_bk ?_ | refine a_prp ?_ | refine a_lc ?_ | refine a_yes ?_ | refine a_sl ?_ | refine a_nop ?_ | refine a_prt ?_ | refine a_ex1 ?_ | refine a_for ?_ | refine a_sfor ?_ | refine a_iE1 ?_ | refine a_iEs ?_ | refine a_iEz ?_ | refine a_iEnum ?_ | refine a_iTup ?_ | refine a_iList ?_ | refine a_gcons ?_ | refine a_gnil ?_ | refine a_revT ?_ | refine a_spar3 ?_ | refine a_par3 ?_ | refine a_three ?_)
local macro_rules | `(tactic| walk_at "el2") => `(tactic| first
  | (refine a_var (by rfl) ?_)
  | (refine n_ixL (SqL.of (by assumption)) (by rfl) ?_) | (refine n_ixT (SqT.of (by assumption)) (by rfl) ?_) | (refine n_eq (by rfl) ?_) | (refine n_ne (by rfl) ?_)
  | (refine n_isN ?_) | (refine n_notN ?_) | (refine n_isB ?_) | (refine n_notB ?_) | (refine n_isBI ?_) | (refine n_notBI ?_) | (refine n_len (.inl (SqL.of (by assumption))) ?_) | (refine n_len (.inr (SqT.of (by assumption))) ?_)
  | (refine a_getL (SqL.of (by assumption)) (by rfl) ?_)
  | (refine n_isInt (by assumption) ?_) | (refine n_isBool (by assumption) ?_) | (refine n_isStr (by assumption) ?_) | (refine n_isTup (by assumption) ?_) | (refine n_isLst (by assumption) ?_))
local macro_rules | `(tactic| walk_at "el") => `(tactic| repeat (first | walk_at "el1" | walk_at "el2"))

/-! ### == of a book and a book, a list, None -/
def rEqI (C : Addr) (sp : Sp) : R2 := fun x y H Q => ∃ a dx fs, x = .ref a ∧ H a = some (.ins C dx fs) ∧ ((∃ b dy gs, y = .ref b ∧ H b = some (.ins C dy gs)) ∨ y = .non ∨ ∃ b ys, y = .ref b ∧ H b = some (.lst ys)) ∧ sp [x, y] H Q E0
theorem back_rel {P : Value → Shared → Prop} {z : V} {v : Value} {s' : Shared} (r : RelV z v) (h : P v s') : PySem.W.CmpBack P v s' := by
  cases z with
  | non => cases r; exact h
  | bl b => cases r; exact h
  | int i => obtain ⟨t, rfl⟩ := r; exact h
  | str x => obtain ⟨t, rfl⟩ := r; exact h
  | byt b => obtain ⟨t, e⟩ := (show ∃ t, v = Value.bytes b t from r); cases e; exact h
  | flt b => obtain ⟨t, e⟩ := (show ∃ t, v = Value.float b t from r); cases e; exact h
  | ref a => cases (show v = Value.ref a from r); exact h
  | ty n => cases (show v = Value.type n from r); exact h
theorem op_eqI {X : Cx} {C f : Addr} {fd : FuncData} {n : Nat} {sp : Sp} (F : FnOk X.prog X.w X.K X.mg X.base CX0 n f fd ["self", "other"] sp) (hs : PySem.W.findIn X.K (.ref C) "__eq__" = some (some (.ref f))) (hf : PySem.W.isFn X.K (.ref f) = true)
    (hl : PySem.W.notFirst X.K C (.type "list") = true) (hn : PySem.W.notFirst X.K C (.type "NoneType") = true) (hb : L2.Binds X.K fd ["self", "other"] []) (hr : Room n X.A) (hx : Passes CX0 X E0) : OpR X (compareOp .Eq) (rEqI C sp) := by
  intro pins s σ H x y v u Q I rx ry h
  obtain ⟨a, dx, fs, rfl, ha, hy, q⟩ := h
  cases rx
  obtain ⟨mA, J, _⟩ := ins_get I.hok ha
  obtain ⟨od, J, _⟩ := J.look
  obtain ⟨m, hF⟩ := I.fr
  show wpAny (model X.prog X.w) X.A (richCompare .Eq (.ref a) u) (EP X pins σ Q) X.xe s
  obtain ⟨tb, hlook, hnf⟩ : ∃ tb, PySem.W.Looks (model X.prog X.w) s.heap (typeOf u) tb ∧ PySem.W.notFirst X.K C tb = true := by
    rcases hy with ⟨b, dy, gs, rfl, hb'⟩ | rfl | ⟨b, ys, rfl, hb'⟩
    · cases ry
      obtain ⟨mB, J', _⟩ := ins_get I.hok hb'
      obtain ⟨od', J', _⟩ := J'.look
      exact ⟨.ref C, J'.type, by simp [PySem.W.notFirst]⟩
    · cases ry
      exact ⟨.type "NoneType", fun A Q E s _ q => wpAny_pure q, hn⟩
    · cases ry
      obtain ⟨_, its, nn, rv, e⟩ := I.hok b _ hb'
      exact ⟨.type "list", fun A Q E s k q => wpAny_typeOf_ref (k _ _ e) q, hl⟩
  refine PySem.W.cmp_K (op := .Eq) (tb := tb) hr.units0 hF I.ok.mod.kin J hlook hnf hs hf ?_
  have hlen := F.len _ _ _ _ q
  have r2 : Vals [V.ref a, y] [Value.ref a, u] := .cons rfl (.cons ry .nil)
  refine wpAny_call (codeAny_mono (F.run X.A X.stack s H ⟨[.ref a, u], []⟩ [.ref a, u] [.ref a, y] Q E0 hr I.env0 (by
    have := hb s [.ref a, u] I.kIn (by simpa using hlen)
    simpa using this) r2 q) fun r s' hq => ?_)
  cases r with
  | error e => exact hx pins σ H s e s' I hq
  | ok fl =>
    cases fl with
    | ret w =>
      obtain ⟨z, H', I', rz, qz⟩ := I.after hq
      exact back_rel rz ⟨z, H', I', rz, qz⟩
    | next => exact False.elim hq
    | brk => exact False.elim hq
    | cont => exact False.elim hq
/-- two books said the same -/
def sameD (D E : PD) (ev wi ev' wi' : Int) : Bool := decide (ev = ev') && (decide (wi = wi') && (PyData.eqv (.tuple (D.T.map dT)) (.tuple (E.T.map dT)) && (PyData.eqv (.tuple (D.G.map dT)) (.tuple (E.G.map dT)) && (PyData.eqv (.tuple (D.S.map dS)) (.tuple (E.S.map dS)) && PyData.eqv (.tuple (D.L.map dL)) (.tuple (E.L.map dL))))))
structure EqT (K : Frag) (mg : Str → Option Value) (C : Addr) : Prop where
  g : mg "Book" = some (.ref C)
  kB : PySem.W.kitOne K (.ref C) (.ref C) = some true
  kL : PySem.W.kitOne K (.type "list") (.ref C) = some false
  kN : PySem.W.kitOne K (.type "NoneType") (.ref C) = some false
theorem eqT_of {K : Frag} {mg : Str → Option Value} {C : Addr} (g : mg "Book" = some (.ref C)) (hc : PySem.W.isClsIn K C = true) (ht : PySem.W.typeIn K (.ref C) = some (.type "type")) (hl : PySem.W.subIn K (.type "list") (.ref C) = some false) (hn : PySem.W.subIn K (.type "NoneType") (.ref C) = some false) : EqT K mg C := by
  have c : ∀ {T : String} {r : Bool}, PySem.W.subIn K (.type T) (.ref C) = some r → PySem.W.kitOne K (.type T) (.ref C) = some r := fun {T r} h => by
    have c1 : (PySem.W.clsIn K C).isSome = true := hc
    unfold PySem.W.kitOne
    rw [if_neg (by simp)]
    show (if ((PySem.W.clsIn K C).isSome && PySem.W.typeIn K (.ref C) == some (.type "type")) = true then PySem.W.subIn K (.type T) (.ref C) else none) = _
    rw [c1, ht, if_pos (by simp)]
    exact h
  exact ⟨g, by unfold PySem.W.kitOne; rw [if_pos (by simp)], c hl, c hn⟩
def spEqB (K : Frag) (C : Addr) : Sp := fun vs H Q _ => (∃ (A B : BA) (D E : PD), vs = [.ref A.o, .ref B.o] ∧ BB K C H A D ∧ BB K C H B E ∧ D.Ok A.ev A.wi ∧ E.Ok B.ev B.wi ∧ Q (.bl (sameD D E A.ev A.wi B.ev B.wi)) H) ∨
  ∃ (A : BA) (D : PD) (y : V), vs = [.ref A.o, y] ∧ BB K C H A D ∧ (y = .non ∨ ∃ b ys, y = .ref b ∧ H b = some (.lst ys)) ∧ Q (.bl false) H
theorem shp_part {α : Type} {dec : α → PyData} {E : List α} (h : ∀ x ∈ E, (dec x).canLay0 = true ∧ (dec x).depth ≤ 1) : SeqAt.shaped (.tuple (E.map dec)) = true := by
  have c : PyData.canLayAll0 (E.map dec) = true := by
    induction E with
    | nil => rfl
    | cons a r ih =>
      show ((dec a).canLay0 && PyData.canLayAll0 (r.map dec)) = true
      rw [(h a (List.mem_cons_self ..)).1, ih fun x hx => h x (List.mem_cons_of_mem _ hx)]; rfl
  have d : PyData.depthAll (E.map dec) ≤ 1 := by
    clear c
    induction E with
    | nil => exact Nat.zero_le _
    | cons a r ih =>
      show max (dec a).depth (PyData.depthAll (r.map dec)) ≤ 1
      exact Nat.max_le.mpr ⟨(h a (List.mem_cons_self ..)).2, ih fun x hx => h x (List.mem_cons_of_mem _ hx)⟩
  show (PyData.canLayAll0 (E.map dec) && decide (PyData.depthAll (E.map dec) + 1 ≤ 64)) = true
  rw [c, decide_eq_true (by omega)]
  rfl
theorem wordOk {s : Str} (h : s = "early" ∨ s = "late" ∨ s = "least" ∨ s = "most") : PyData.strOk s = true := by rcases h with rfl | rfl | rfl | rfl <;> decide +kernel
theorem shp_all {D : PD} {ev wi : Int} (ok : D.Ok ev wi) : SeqAt.shaped (.tuple (D.T.map dT)) = true ∧ SeqAt.shaped (.tuple (D.G.map dT)) = true ∧ SeqAt.shaped (.tuple (D.S.map dS)) = true ∧ SeqAt.shaped (.tuple (D.L.map dL)) = true := by
  refine ⟨shp_part fun x hx => ⟨rfl, by show max 0 (max 0 (max 0 0)) + 1 ≤ 1; decide⟩, shp_part fun x hx => ⟨rfl, by show max 0 (max 0 (max 0 0)) + 1 ≤ 1; decide⟩, shp_part fun x hx => ⟨?_, by show max 0 (max 0 (max 0 0)) + 1 ≤ 1; decide⟩, shp_part fun x hx => ⟨?_, by show max 0 (max 0 (max 0 (max 0 0))) + 1 ≤ 1; decide⟩⟩
  · show (true && (PyData.strOk x.2.1 && (true && true))) = true
    rw [wordOk ((ok.s x hx).2.1.elim (fun h => .inr (.inr (.inl h))) fun h => .inr (.inr (.inr h)))]; rfl
  · show (true && (PyData.strOk x.2.1 && (true && (PyData.strOk x.2.2.2 && true)))) = true
    have o := ok.l x hx
    rw [wordOk (o.2.1.elim .inl fun h => .inr (.inl h)), wordOk (o.2.2.2.elim .inl fun h => .inr (.inl h))]; rfl
section
variable {P : Program} {w : World} {K : Frag} {mg : Str → Option Value} {base : Heap} {f : Addr} {fd : FuncData} {C : Addr}
theorem ok_eq (F : Fun K "__eq__" "Book.__eq__" s_Book_eq f fd) (T : Tb mg) (B0 : BkC K C) (ET : EqT K mg C) : FnOk P w K mg base CX0 1 f fd ["self", "other"] (spEqB K C) := by
  refine F.ok sc_Book_eq (fun vs H Q E h => ?_) (fun cdv A outer s H vs Q E hr h => ?_)
  · rcases h with ⟨_, _, _, _, rfl, _⟩ | ⟨_, _, _, rfl, _⟩ <;> rfl
  · have gB := ET.g
    refine ⟨_, (pss_one (ps_ret (pe_and (pe_callB u_isi rfl T.b.isinstance_ boot_isinstance (pa_cons (pv 1) (pa_cons (pe_glob (v := .ref C) rfl gB rfl) pa_nil))) (pe_and (pe_cmpR (u_eq hr.units) (pe_fld (pv 0) rfl) (pe_fld (pv 1) rfl) (nomark _)) (pe_and (pe_cmpR (u_eq hr.units) (pe_fld (pv 0) rfl) (pe_fld (pv 1) rfl) (nomark _)) (pe_and (pe_cmpR (u_eq hr.units) (pe_fld (pv 0) rfl) (pe_fld (pv 1) rfl) (nomark _)) (pe_and (pe_cmpR (u_eq hr.units) (pe_fld (pv 0) rfl) (pe_fld (pv 1) rfl) (nomark _)) (pe_and (pe_cmpR (u_eq hr.units) (pe_fld (pv 0) rfl) (pe_fld (pv 1) rfl) (nomark _)) (pe_one (pe_cmpR (u_eq hr.units) (pe_fld (pv 0) rfl) (pe_fld (pv 1) rfl) (nomark _))))))))))), ?_⟩
    have fi : ∀ (a b : Int), decide (V.int a = V.int b) = decide (a = b) := fun a b => by
      rw [Bool.eq_iff_iff, decide_eq_true_iff, decide_eq_true_iff]
      exact ⟨fun h => V.int.inj h, fun h => by rw [h]⟩
    rcases h with ⟨A, B, D, G, rfl, hA, hB, okA, okB, k⟩ | ⟨A, D, y, rfl, hA, hy, k⟩
    · obtain ⟨p1, p2, p3, p4⟩ := shp_all okA
      obtain ⟨q1, q2, q3, q4⟩ := shp_all okB
      unfold sameD at k
      walk_at "el"
      refine .inl ⟨.ref B.o, .ref C, .ref C, .ref C, true, rfl, .own C, .base (.ins hB.bk B0.own.cl B0.own.cls B0.own.get B0.own.tak B0.own.obj), ET.kB, ?_⟩
      walk_at "el"
      refine ⟨A.o, C, A.dx, _, _, rfl, hA.bk, B0.own.cl, B0.n0, rfl, ?_⟩
      walk_at "el"
      refine ⟨B.o, C, B.dx, _, _, rfl, hB.bk, B0.own.cl, B0.n0, rfl, ?_⟩
      walk_at "el"
      rw [fi]
      rcases c0 : decide (A.ev = B.ev)
      · rw [c0, Bool.false_and] at k
        walk_at "el"
        exact k
      rw [c0, Bool.true_and] at k
      walk_at "el"
      refine ⟨A.o, C, A.dx, _, _, rfl, hA.bk, B0.own.cl, B0.n1, rfl, ?_⟩
      walk_at "el"
      refine ⟨B.o, C, B.dx, _, _, rfl, hB.bk, B0.own.cl, B0.n1, rfl, ?_⟩
      walk_at "el"
      rw [fi]
      rcases c1 : decide (A.wi = B.wi)
      · rw [c1, Bool.false_and] at k
        walk_at "el"
        exact k
      rw [c1, Bool.true_and] at k
      walk_at "el"
      refine ⟨A.o, C, A.dx, _, _, rfl, hA.bk, B0.own.cl, B0.n2, rfl, ?_⟩
      walk_at "el"
      refine ⟨B.o, C, B.dx, _, _, rfl, hB.bk, B0.own.cl, B0.n2, rfl, ?_⟩
      walk_at "el"
      refine n_eqD (.tup hA.tT (rows_dp (fun q x h => dp_T h) hA.r.t)) (.tup hB.tT (rows_dp (fun q x h => dp_T h) hB.r.t)) p1 q1 ?_
      rcases c2 : PyData.eqv (.tuple (D.T.map dT)) (.tuple (G.T.map dT))
      · rw [c2, Bool.false_and] at k
        walk_at "el"
        exact k
      rw [c2, Bool.true_and] at k
      walk_at "el"
      refine ⟨A.o, C, A.dx, _, _, rfl, hA.bk, B0.own.cl, B0.n3, rfl, ?_⟩
      walk_at "el"
      refine ⟨B.o, C, B.dx, _, _, rfl, hB.bk, B0.own.cl, B0.n3, rfl, ?_⟩
      walk_at "el"
      refine n_eqD (.tup hA.tG (rows_dp (fun q x h => dp_T h) hA.r.g)) (.tup hB.tG (rows_dp (fun q x h => dp_T h) hB.r.g)) p2 q2 ?_
      rcases c3 : PyData.eqv (.tuple (D.G.map dT)) (.tuple (G.G.map dT))
      · rw [c3, Bool.false_and] at k
        walk_at "el"
        exact k
      rw [c3, Bool.true_and] at k
      walk_at "el"
      refine ⟨A.o, C, A.dx, _, _, rfl, hA.bk, B0.own.cl, B0.n4, rfl, ?_⟩
      walk_at "el"
      refine ⟨B.o, C, B.dx, _, _, rfl, hB.bk, B0.own.cl, B0.n4, rfl, ?_⟩
      walk_at "el"
      refine n_eqD (.tup hA.tS (rows_dp (fun q x h => dp_S h) hA.r.s)) (.tup hB.tS (rows_dp (fun q x h => dp_S h) hB.r.s)) p3 q3 ?_
      rcases c4 : PyData.eqv (.tuple (D.S.map dS)) (.tuple (G.S.map dS))
      · rw [c4, Bool.false_and] at k
        walk_at "el"
        exact k
      rw [c4, Bool.true_and] at k
      walk_at "el"
      refine ⟨A.o, C, A.dx, _, _, rfl, hA.bk, B0.own.cl, B0.n5, rfl, ?_⟩
      walk_at "el"
      refine ⟨B.o, C, B.dx, _, _, rfl, hB.bk, B0.own.cl, B0.n5, rfl, ?_⟩
      walk_at "el"
      refine n_eqD (.tup hA.tL (rows_dp (fun q x h => dp_L h) hA.r.l)) (.tup hB.tL (rows_dp (fun q x h => dp_L h) hB.r.l)) p4 q4 ?_
      exact k
    · walk_at "el"
      rcases hy with rfl | ⟨b, ys, rfl, hb⟩
      · refine .inl ⟨.non, .ref C, .type "NoneType", .ref C, false, rfl, .own C, .base .non, ET.kN, ?_⟩
        walk_at "el"
        exact k
      · refine .inl ⟨.ref b, .ref C, .type "list", .ref C, false, rfl, .own C, .base (.lst hb), ET.kL, ?_⟩
        walk_at "el"
        exact k
end
end EL

/- part BN -/
namespace NK
open PySem PySem.Spec PyProof.Rows
open PySem.W (Frag InstAt Looks)
open Sem (wp)
open Builtin
section
variable {prog : Program} {w : World} {A : Around} {E : Value → Shared → Prop} {s : Shared} {K : Frag} {x C L f : Addr} {h₀ : Heap} {m : Str → Option Value} {ox : Obj} {od : Option Obj} {b tb : Value}
theorem ifBound_objNe {M : Model} {args : List Value} {Q : Option Value → Shared → Prop} (X : K.In s.heap) (I : PySem.W.InstAt s.heap x ox C od) (hs : PySem.W.findIn K (.ref C) "__ne__" = some (some (.builtin "object.__ne__")))
    (h : wpAny M A (call (.builtin "object.__ne__") (.ref x :: args)) (fun v => Q (some v)) E s) : wpAny M A (callSpecialIfBound? (.ref x) "__ne__" args) Q E s := by
  simp only [callSpecialIfBound?, bindSpecialIfBound?]
  refine wpAny_holding (wpAny_bind (wpAny_bind (wpAny_bind (I.type.here ((PySem.W.looks_findIn X hs).here ?_)))))
  refine wpAny_bind (wpAny_askSetting (wpAny_ite ?_))
  have fin : wpAny M A (call (.builtin "object.__ne__") ([.ref x] ++ args) >>= fun v => pure (some v)) Q E s := wpAny_bind (wpAny_mono h (fun v s' h' => wpAny_pure h') fun _ _ h' => h')
  split
  · exact wpAny_bind (wpAny_of_eq (F.cmp_object.ne.bind _) (wpAny_pure (by exact fin)))
  · exact wpAny_tryCatch (wpAny_bind (wpAny_of_eq (F.cmp_object.ne.bind _) (wpAny_pure (by exact fin))))
theorem objNe_K (X : K.In s.heap) (I : PySem.W.InstAt s.heap x ox C od) (hs : PySem.W.findIn K (.ref C) "__eq__" = some (some (.ref f))) (hf : PySem.W.isFn K (.ref f) = true) (hu : A.units < cLine) {Q : Fin → Shared → Prop}
    (h : wpAny (model prog w) A (call (.ref f) [.ref x, b]) (fun v s' => ∃ c, v = .bool c ∧ Q (.done (.ret (.bool (!c)))) s') E s) :
    wpAny (model prog w) A (Builtin.«object.__ne__» ⟨[.ref x, b], []⟩) Q E s := by
  unfold Builtin.«object.__ne__»
  repeat (first
    | with_reducible refine wpAny_cRoomFor hu ?_
    | (refine wpAny_bind (m := callSpecialIfBound? (.ref x) (Str.ofString "__eq__") [b])
        (PySem.W.ifBound_K X I hs hf (wpAny_mono h (fun r s' hr => by
          obtain ⟨b, rfl, hq⟩ := hr
          repeat (first | exact hq | exact wpAny_pure hq | exact wpAny_truthy_bool hq | (refine wpAny_bind (m := truthy (.bool _)) (wpAny_truthy_bool ?_)) | wp_step)) fun _ _ e => e)))
    | wp_step)
theorem cmp_ne {Q : Value → Shared → Prop} (hu : A.units + 1 < cLine) (FR : Fr h₀ L s.heap m) (X₀ : K.In h₀) (I : InstAt s.heap x ox C od) (hb : Looks (model prog w) s.heap (typeOf b) tb) (hn : PySem.W.notFirst K C tb = true)
    (hm : PySem.W.mroIn K C (.type "object") = some true) (hne : PySem.W.findIn K (.ref C) "__ne__" = some (some (.builtin "object.__ne__")))
    (hs : PySem.W.findIn K (.ref C) "__eq__" = some (some (.ref f))) (hf : PySem.W.isFn K (.ref f) = true)
    (h : wpAny (model prog w) A.in1 (call (.ref f) [.ref x, b]) (fun v s' => ∃ c, v = .bool c ∧ Q (.bool (!c)) s') E s) : wpAny (model prog w) A (richCompare .NotEq (.ref x) b) Q E s := by
  have X := X₀.keeps FR.keep
  have one : wpAny (model prog w) A (tryCompare (.ref x) "__ne__" b) (fun r s' => ∃ v, r = some v ∧ Q v s') E s := by
    unfold tryCompare
    refine wpAny_bind (ifBound_objNe X I hne (wpAny_call (codeAny_call_builtin F.cmp_object.ne.plain F.cmpEntry_ne (PySem.W.check_slot F.cmpKind_ne F.cmpSplit_ne (I.type.andThen (PySem.W.looks_mroIn X hm)) (F.cmpArgs_ne _ _)
      (objNe_K (A := A.in1) X I hs hf hu (wpAny_mono h (fun v s' hv => ?_) fun _ _ e => e))))))
    obtain ⟨c, rfl, hq⟩ := hv
    first | exact ⟨c, rfl, wpAny_pure ⟨_, rfl, hq⟩⟩ | exact ⟨c, rfl, wpAny_pure (wpAny_pure ⟨_, rfl, hq⟩)⟩ | exact ⟨c, rfl, ⟨_, rfl, hq⟩⟩
  unfold richCompare
  simp only [oneThing_ref]
  refine wpAny_holding (wpAny_bind (wpAny_cRoomFor (Nat.lt_of_succ_lt hu) ?_))
  rw [cmpInfo_NotEq]
  dsimp only
  refine wpAny_bind (I.type.here (wpAny_bind (hb.here ?_)))
  split
  · rename_i q
    have e : PySem.W.subIn K tb (.ref C) = some false := by
      rcases Bool.or_eq_true_iff.mp hn with e | e
      · rw [beq_iff_eq.mp e] at q; simp at q
      · exact beq_iff_eq.mp e
    refine wpAny_bind ((PySem.W.looks_subIn X e).here ?_)
    simp only [Bool.false_eq_true, if_false]
    refine wpAny_bind (wpAny_mono one (fun r s' z => ?_) fun _ _ e => e)
    obtain ⟨v, rfl, hq⟩ := z
    exact wpAny_pure hq
  · refine wpAny_bind (wpAny_pure ?_)
    simp only [Bool.false_eq_true, if_false]
    refine wpAny_bind (wpAny_mono one (fun r s' z => ?_) fun _ _ e => e)
    obtain ⟨v, rfl, hq⟩ := z
    exact wpAny_pure hq
end
end NK
namespace EL
open PySem PySem.Spec PyProof.Rows L2
open PySem.W (Frag)
def rNeI (C : Addr) (sp : Sp) : R2 := fun x y H Q => ∃ a dx fs, x = .ref a ∧ H a = some (.ins C dx fs) ∧ ((∃ b dy gs, y = .ref b ∧ H b = some (.ins C dy gs)) ∨ y = .non ∨ ∃ b ys, y = .ref b ∧ H b = some (.lst ys)) ∧ sp [x, y] H (fun v H' => ∃ b, v = .bl b ∧ Q (.bl (!b)) H') E0
theorem op_neI {X : Cx} {C f : Addr} {fd : FuncData} {n : Nat} {sp : Sp} (F : FnOk X.prog X.w X.K X.mg X.base CX0 n f fd ["self", "other"] sp) (hm : PySem.W.mroIn X.K C (.type "object") = some true) (hne : PySem.W.findIn X.K (.ref C) "__ne__" = some (some (.builtin "object.__ne__")))
    (hs : PySem.W.findIn X.K (.ref C) "__eq__" = some (some (.ref f))) (hf : PySem.W.isFn X.K (.ref f) = true)
    (hl : PySem.W.notFirst X.K C (.type "list") = true) (hn : PySem.W.notFirst X.K C (.type "NoneType") = true) (hb : L2.Binds X.K fd ["self", "other"] []) (hr : Room (n + 1) X.A) (hx : Passes CX0 X E0) : OpR X (compareOp .NotEq) (rNeI C sp) := by
  intro pins s σ H x y v u Q I rx ry h
  obtain ⟨a, dx, fs, rfl, ha, hy, q⟩ := h
  cases rx
  obtain ⟨mA, J, _⟩ := ins_get I.hok ha
  obtain ⟨od, J, _⟩ := J.look
  obtain ⟨m, hF⟩ := I.fr
  show wpAny (model X.prog X.w) X.A (richCompare .NotEq (.ref a) u) (EP X pins σ Q) X.xe s
  obtain ⟨tb, hlook, hnf⟩ : ∃ tb, PySem.W.Looks (model X.prog X.w) s.heap (typeOf u) tb ∧ PySem.W.notFirst X.K C tb = true := by
    rcases hy with ⟨b, dy, gs, rfl, hb'⟩ | rfl | ⟨b, ys, rfl, hb'⟩
    · cases ry
      obtain ⟨mB, J', _⟩ := ins_get I.hok hb'
      obtain ⟨od', J', _⟩ := J'.look
      exact ⟨.ref C, J'.type, by simp [PySem.W.notFirst]⟩
    · cases ry
      exact ⟨.type "NoneType", fun A Q E s _ q => wpAny_pure q, hn⟩
    · cases ry
      obtain ⟨_, its, nn, rv, e⟩ := I.hok b _ hb'
      exact ⟨.type "list", fun A Q E s k q => wpAny_typeOf_ref (k _ _ e) q, hl⟩
  refine NK.cmp_ne (tb := tb) (by have := hr.units; omega) hF I.ok.mod.kin J hlook hnf hm hne hs hf ?_
  have hlen := F.len _ _ _ _ q
  have r2 : Vals [V.ref a, y] [Value.ref a, u] := .cons rfl (.cons ry .nil)
  refine wpAny_call (codeAny_mono (F.run X.A.in1 X.stack s H ⟨[.ref a, u], []⟩ [.ref a, u] [.ref a, y] _ E0 hr.in1 I.env0.in1 (by
    have := hb s [.ref a, u] I.kIn (by simpa using hlen)
    simpa using this) r2 q) fun r s' hq => ?_)
  cases r with
  | error e => exact hx pins σ H s e s' I hq
  | ok fl =>
    cases fl with
    | ret w =>
      obtain ⟨z, H', I', rz, qz⟩ := I.after hq
      obtain ⟨b, rfl, qz⟩ := qz
      cases rz
      exact ⟨b, rfl, .bl (!b), H', I', rfl, qz⟩
    | next => exact False.elim hq
    | brk => exact False.elim hq
    | cont => exact False.elim hq
/-- a class whose == is its own `__eq__` of books -/
structure EqG (P : Program) (w : World) (K : Frag) (mg : Str → Option Value) (base : Heap) (C : Addr) : Prop where
  ex : ∃ f fd, FnOk P w K mg base CX0 1 f fd ["self", "other"] (spEqB K C) ∧ PySem.W.findIn K (.ref C) "__eq__" = some (some (.ref f)) ∧ PySem.W.isFn K (.ref f) = true ∧ L2.Binds K fd ["self", "other"] []
  ob : PySem.W.mroIn K C (.type "object") = some true
  ne : PySem.W.findIn K (.ref C) "__ne__" = some (some (.builtin "object.__ne__"))
  nl : PySem.W.notFirst K C (.type "list") = true
  nn : PySem.W.notFirst K C (.type "NoneType") = true
theorem op_eqG {X : Cx} {C : Addr} (G : EqG X.prog X.w X.K X.mg X.base C) (hr : Room 1 X.A) (hx : Passes CX0 X E0) : OpR X (compareOp .Eq) (rEqI C (spEqB X.K C)) := by
  obtain ⟨f, fd, F, hs, hf, hb⟩ := G.ex
  exact op_eqI F hs hf G.nl G.nn hb hr hx
theorem op_neG {X : Cx} {C : Addr} (G : EqG X.prog X.w X.K X.mg X.base C) (hr : Room 2 X.A) (hx : Passes CX0 X E0) : OpR X (compareOp .NotEq) (rNeI C (spEqB X.K C)) := by
  obtain ⟨f, fd, F, hs, hf, hb⟩ := G.ex
  exact op_neI F G.ob G.ne hs hf G.nl G.nn hb hr hx
section
variable {K : Frag} {C : Addr} {H : Hp} {Q : VK} {A B : BA} {D E : PD}
theorem n_eqBB (hA : BB K C H A D) (hB : BB K C H B E) (oA : D.Ok A.ev A.wi) (oB : E.Ok B.ev B.wi) (q : Q (.bl (sameD D E A.ev A.wi B.ev B.wi)) H) : rEqI C (spEqB K C) (.ref A.o) (.ref B.o) H Q :=
  ⟨A.o, A.dx, _, rfl, hA.bk, .inl ⟨B.o, B.dx, _, rfl, hB.bk⟩, .inl ⟨A, B, D, E, rfl, hA, hB, oA, oB, q⟩⟩
theorem n_eqBN (hA : BB K C H A D) (q : Q (.bl false) H) : rEqI C (spEqB K C) (.ref A.o) .non H Q :=
  ⟨A.o, A.dx, _, rfl, hA.bk, .inr (.inl rfl), .inr ⟨A, D, _, rfl, hA, .inl rfl, q⟩⟩
theorem n_eqBL {b : Addr} {ys : List V} (hA : BB K C H A D) (hb : H b = some (.lst ys)) (q : Q (.bl false) H) : rEqI C (spEqB K C) (.ref A.o) (.ref b) H Q :=
  ⟨A.o, A.dx, _, rfl, hA.bk, .inr (.inr ⟨b, ys, rfl, hb⟩), .inr ⟨A, D, _, rfl, hA, .inr ⟨b, ys, rfl, hb⟩, q⟩⟩
theorem n_neBB (hA : BB K C H A D) (hB : BB K C H B E) (oA : D.Ok A.ev A.wi) (oB : E.Ok B.ev B.wi) (q : Q (.bl (!sameD D E A.ev A.wi B.ev B.wi)) H) : rNeI C (spEqB K C) (.ref A.o) (.ref B.o) H Q :=
  ⟨A.o, A.dx, _, rfl, hA.bk, .inl ⟨B.o, B.dx, _, rfl, hB.bk⟩, .inl ⟨A, B, D, E, rfl, hA, hB, oA, oB, _, rfl, q⟩⟩
end
end EL

/- part BG -/
namespace EL
open PySem PySem.Spec PyProof.Rows L2
open PySem.W (Frag)
abbrev s_Bookparts_by_name : Stmt := inClass (top 27) 23
abbrev N_Bookparts_by_name : List Str := ["self"]
theorem sc_Bookparts_by_name : FnScope N_Bookparts_by_name ["self"] (defScope s_Bookparts_by_name) := ⟨rfl, rfl, rfl, by decide +kernel, rfl, by decide +kernel, by decide +kernel⟩
abbrev s_Bookwith_parts : Stmt := inClass (top 27) 24
abbrev N_Bookwith_parts : List Str := ["self", "parts"]
theorem sc_Bookwith_parts : FnScope N_Bookwith_parts ["self", "parts"] (defScope s_Bookwith_parts) := ⟨rfl, rfl, rfl, by decide +kernel, rfl, by decide +kernel, by decide +kernel⟩
abbrev s_Book_with_item : Stmt := inClass (top 27) 15
abbrev N_Book_with_item : List Str := ["self", "part", "item"]
theorem sc_Book_with_item : FnScope N_Book_with_item ["self", "part", "item"] (defScope s_Book_with_item) := ⟨rfl, rfl, rfl, by decide +kernel, rfl, by decide +kernel, by decide +kernel⟩
abbrev s_Book_with_gap : Stmt := inClass (top 27) 11
abbrev N_Book_with_gap : List Str := ["self", "a", "b", "g"]
theorem sc_Book_with_gap : FnScope N_Book_with_gap ["self", "a", "b", "g"] (defScope s_Book_with_gap) := ⟨rfl, rfl, rfl, by decide +kernel, rfl, by decide +kernel, by decide +kernel⟩
abbrev s_Book_without : Stmt := inClass (top 27) 17
abbrev N_Book_without : List Str := ["self", "part", "index"]
theorem sc_Book_without : FnScope N_Book_without ["self", "part", "index"] (defScope s_Book_without) := ⟨rfl, rfl, rfl, by decide +kernel, rfl, by decide +kernel, by decide +kernel⟩
abbrev s_Book_items_in : Stmt := inClass (top 27) 16
abbrev N_Book_items_in : List Str := ["self", "part"]
theorem sc_Book_items_in : FnScope N_Book_items_in ["self", "part"] (defScope s_Book_items_in) := ⟨rfl, rfl, rfl, by decide +kernel, rfl, by decide +kernel, by decide +kernel⟩
local macro_rules | `(tactic| walk_at "el1") => `(tactic| with_reducible first
  | refine a_sasg ?_ | refine a_sdrop ?_ | refine a_saugS ?_ | refine a_spar ?_ | refine a_seq ?_ | refine a_asg ?_ | refine a_drop ?_ | refine a_ret ?_ | refine a_if ?_ | refine a_next ?_
  | refine a_op ?_ | refine a_cons ?_ | refine a_nil ?_ | refine a_cb ?_ | refine a_call ?_ | refine a_c ?_ | refine a_gn ?_ | refine a_nx ?_ | refine a_rt ?_ | refine a_un ?_
  | refine a_test ?_ | refine a_B ?_ | refine a_bl ?_ | refine a_and ?_ | refine a_or ?_ | refine a_not ?_ | refine a_andV ?_ | refine a_orV ?_ | refine a_notV ?_ | refine a_ifx ?_ | refine a_chain ?_
  | refine a_nT ?_ | refine a_nF ?_ | refine a_fld ?_ | refine a_getF ?_ | refine a_T ?_ | refine a_F ?_ | refine a_tup ?_ | refine a_lst ?_ | refine a_sub ?_ | refine a_augS ?_ | refine a_two ?_ | refine a_I0 ?_ | refine a_U ?_ | refine n_add ?_ | refine n_int ?_ | refine n_ib ?_ | refine a_ip ?_ | refine a_rng1 ?_ | refine a_rng2 ?_ | refine a_bm ?_ | refine a_abs ?_ | refine a_pairs ?_ | refine a_pairs0 ?_ | refine a_bk ?_ | refine a_prp ?_ | refine a_lc ?_ | refine a_yes ?_ | refine a_sl ?_ | refine a_nop ?_ | refine a_prt ?_ | refine a_ex1 ?_ | refine a_for ?_ | refine a_sfor ?_ | refine a_iE1 ?_ | refine a_iEs ?_ | refine a_iEz ?_ | refine a_iEnum ?_ | refine a_iTup ?_ | refine a_iList ?_ | refine a_gcons ?_ | refine a_gnil ?_ | refine a_revT ?_ | refine a_spar3 ?_ | refine a_par3 ?_ | refine a_three ?_)
local macro_rules | `(tactic| walk_at "el2") => `(tactic| first
  | (refine a_var (by rfl) ?_)
  | (refine n_ixL (SqL.of (by assumption)) (by rfl) ?_) | (refine n_ixT (SqT.of (by assumption)) (by rfl) ?_) | (refine n_eq (by rfl) ?_) | (refine n_ne (by rfl) ?_)
  | (refine n_isN ?_) | (refine n_notN ?_) | (refine n_isB ?_) | (refine n_notB ?_) | (refine n_isBI ?_) | (refine n_notBI ?_) | (refine n_len (.inl (SqL.of (by assumption))) ?_) | (refine n_len (.inr (SqT.of (by assumption))) ?_)
  | (refine a_getL (SqL.of (by assumption)) (by rfl) ?_)
  | (refine n_isInt (by assumption) ?_) | (refine n_isBool (by assumption) ?_) | (refine n_isStr (by assumption) ?_) | (refine n_isTup (by assumption) ?_) | (refine n_isLst (by assumption) ?_))
local macro_rules | `(tactic| walk_at "el") => `(tactic| repeat (first | walk_at "el1" | walk_at "el2"))

/-! ### books made of a book -/
theorem pe_mth0 {X : Cx} {C : Addr} {k : Nat} {m : Str} {ps : List Str} {sp : Sp} {o : Expr} {ta : TE} {pos : Pos} {apos : Pos} {pl : Sem Bool} (G : MthG X.prog X.w X.K X.mg X.base C k m ps sp) (hr : Room k X.A) (hx : Passes CX0 X E0) (he : PE X o ta)
    (ht : eval (.Call (.Attribute o m apos) [] [] pos) X.env = (do
      let ov ← eval o X.env
      standAt apos.atName
      let (f, first) ← holding [ov] (getMethod ov m pl)
      callWith pos f first (backTo pos (starEach [] X.env)) (backToKw pos (keywordEach [] X.env))) := by rfl) :
    PE X (.Call (.Attribute o m apos) [] [] pos) (tMeth C m sp [] E0 ta tNil) := by
  obtain ⟨f, fd, hm, F, hb⟩ := G.ex
  exact pe_meth0 he G.cl hm F hr hb .nil hx ht
theorem a_mth {C : Addr} {m : Str} {sp : Sp} {ta : TE} {t : TA} {σ : L2.St} {H : Hp} {Q : VK} (q : ta σ H fun x H1 => ∃ a dx fs, x = .ref a ∧ H1 a = some (.ins C dx fs) ∧ fs.lookup m = none ∧ t σ H1 fun vs H2 => sp (x :: vs) H2 Q E0) : tMeth C m sp [] E0 ta t σ H Q := by
  show ta σ H fun x H1 => ∃ a dx fs, x = .ref a ∧ H1 a = some (.ins C dx fs) ∧ fs.lookup m = none ∧ t σ H1 fun vs H2 => sp (x :: (vs ++ [])) H2 Q E0
  simpa only [List.append_nil] using q

theorem room1 {k : Nat} {A : Around} (r : Room k A) : A.units + 1 < cLine := by have := r.un; omega
theorem a_disp {trs : List (TE × TE)} {σ : L2.St} {H : Hp} {Q : VK} (q : ∀ p, H p = none → tPairs trs σ (upd H p (.dK [])) fun ps H2 => H2 p = some (.dK []) ∧ ∃ kvs : List (Key × V), ps = kvs.map (fun kv => (kV kv.1, kv.2)) ∧ kvs.length ≤ 15 ∧ Q (.ref p) (upd H2 p (.dK (mergeK [] kvs)))) : tDisp trs σ H Q := q
theorem a_dget {td ty : TE} {σ : L2.St} {H : Hp} {Q : VK} (q : td σ H fun x H1 => ty σ H1 fun y H2 => ∃ a v, x = .ref a ∧ DGet H2 a y (some v) ∧ Q v H2) : tDGet td ty σ H Q := q
abbrev parts4 (a b c d : V) : List (Key × V) := [(.inr "tellings", a), (.inr "gaps", b), (.inr "sure", c), (.inr "clauses", d)]
theorem merge4 {a b c d : V} : mergeK [] (parts4 a b c d) = parts4 a b c d := by
  have n1 : ¬ ("tellings" : Str) = "gaps" := by decide
  have n2 : ¬ ("tellings" : Str) = "sure" := by decide
  have n3 : ¬ ("tellings" : Str) = "clauses" := by decide
  have n4 : ¬ ("gaps" : Str) = "sure" := by decide
  have n5 : ¬ ("gaps" : Str) = "clauses" := by decide
  have n6 : ¬ ("sure" : Str) = "clauses" := by decide
  simp [mergeK, putK, n1, n2, n3, n4, n5, n6]
section
variable {a b c d : V}
theorem get4a : valV (parts4 a b c d) (.inr "tellings") = some a := valV_pos rfl
theorem get4b : valV (parts4 a b c d) (.inr "gaps") = some b := by rw [valV_neg (by intro h; cases h), valV_pos rfl]
theorem get4c : valV (parts4 a b c d) (.inr "sure") = some c := by rw [valV_neg (by intro h; cases h), valV_neg (by intro h; cases h), valV_pos rfl]
theorem get4d : valV (parts4 a b c d) (.inr "clauses") = some d := by rw [valV_neg (by intro h; cases h), valV_neg (by intro h; cases h), valV_neg (by intro h; cases h), valV_pos rfl]
theorem put4b {x : V} : putK (parts4 a b c d) (.inr "gaps") x = parts4 a x c d := by
  have n1 : ¬ ("tellings" : Str) = "gaps" := by decide
  have n4 : ¬ ("sure" : Str) = "gaps" := by decide
  have n5 : ¬ ("clauses" : Str) = "gaps" := by decide
  simp [putK, n1, n4, n5]
end
/-- four texts, told by a function -/
abbrev partsF (φ : Pt → Addr) : List (Key × V) := parts4 (.ref (φ .tel)) (.ref (φ .gap)) (.ref (φ .sur)) (.ref (φ .cla))
def setA (φ : Pt → Addr) (p : Pt) (x : Addr) : Pt → Addr := fun u => if u = p then x else φ u
theorem setA_at {φ : Pt → Addr} {p : Pt} {x : Addr} : setA φ p x p = x := if_pos rfl
theorem setA_ne {φ : Pt → Addr} {p u : Pt} {x : Addr} (h : u ≠ p) : setA φ p x u = φ u := if_neg h
theorem getF (φ : Pt → Addr) (p : Pt) : valV (partsF φ) (.inr p.name) = some (.ref (φ p)) := by
  cases p
  · exact get4a
  · exact get4b
  · exact get4c
  · exact get4d
theorem putF4 (φ : Pt → Addr) (p : Pt) (x : Addr) : putK (partsF φ) (.inr p.name) (.ref x) = partsF (setA φ p x) := by
  have n1 : ¬ ("tellings" : Str) = "gaps" := by decide
  have n2 : ¬ ("tellings" : Str) = "sure" := by decide
  have n3 : ¬ ("tellings" : Str) = "clauses" := by decide
  have n4 : ¬ ("gaps" : Str) = "tellings" := by decide
  have n5 : ¬ ("gaps" : Str) = "sure" := by decide
  have n6 : ¬ ("gaps" : Str) = "clauses" := by decide
  have n7 : ¬ ("sure" : Str) = "tellings" := by decide
  have n8 : ¬ ("sure" : Str) = "gaps" := by decide
  have n9 : ¬ ("sure" : Str) = "clauses" := by decide
  have m1 : ¬ ("clauses" : Str) = "tellings" := by decide
  have m2 : ¬ ("clauses" : Str) = "gaps" := by decide
  have m3 : ¬ ("clauses" : Str) = "sure" := by decide
  cases p <;> simp [putK, setA, Pt.name, n1, n2, n3, n4, n5, n6, n7, n8, n9, m1, m2, m3]
theorem dget4 {H : Hp} {d : Addr} {kvs : List (Key × V)} {s : Str} {v : V} (hd : H d = some (.dK kvs)) (e : valV kvs (.inr s) = some v) : DGet H d (.str s) (some v) := by
  rw [← e]
  exact DGet.k (k := .inr s) hd
theorem n_catS {K : Frag} {H : Hp} {Q : VK} {a b : Addr} {xs ys : List V} (ha : SqT K H a xs) (hb : SqT K H b ys) (z : xs.length + ys.length ≤ sizeLine) (q : ∀ p H', Same H H' → SqT K H' p (xs ++ ys) → Q (.ref p) H') : rAdd K (.ref a) (.ref b) H Q := by
  refine .inr (.inr ⟨a, b, xs, ys, rfl, rfl, ha, hb, z, fun e => ?_, fun e1 e2 => ?_, fun _ _ p hp => q p _ (L2.Same.nw (Same.refl _) hp) (SqT.of upd_same)⟩)
  · subst e
    exact q b H (Same.refl _) hb
  · subst e2
    exact q a H (Same.refl _) (by rw [List.append_nil]; exact ha)
theorem sqT_upd {K : Frag} {H : Hp} {a r : Addr} {xs : List V} {kvs : List (Key × V)} {o : HO} (h : SqT K H a xs) (hr : H r = some (.dK kvs)) : SqT K (upd H r o) a xs := by
  rcases h with (h | ⟨q, h⟩) | h
  · exact .inl (.inl (by rw [upd_ne (fun z => by rw [z, hr] at h; cases h)]; exact h))
  · exact .inl (.inr ⟨q, by rw [upd_ne (fun z => by rw [z, hr] at h; cases h)]; exact h⟩)
  · exact .inr h
theorem n_slS {K : Frag} {H : Hp} {Q : VK} {a : Addr} {xs : List V} {lo hi : Option Int} (ha : SqT K H a xs) (q : ∀ p H', Same H H' → SqT K H' p (cutV xs lo hi) → Q (.ref p) H') : rSlice K (.ref a) lo hi H Q := by
  refine .inr ⟨a, xs, rfl, ha, fun e => ?_, fun _ p hp => q p _ (L2.Same.nw (Same.refl _) hp) (SqT.of upd_same)⟩
  refine q a H (Same.refl _) ?_
  have w : cutV xs lo hi = xs := by
    unfold cutV
    rw [e.1, e.2, List.drop_zero, Nat.sub_zero, List.take_length]
  rw [w]
  exact ha
theorem cut_to {xs : List V} {i : Nat} : cutV xs none (some (i : Int)) = xs.take i := by
  unfold cutV
  rw [HT.sIx_none, HT.sIx_nat, List.drop_zero, Nat.sub_zero, ← List.take_take, List.take_length]
theorem cut_from {xs : List V} {i : Nat} : cutV xs (some (i : Int)) none = xs.drop i := by
  unfold cutV
  rw [HT.sIx_none, HT.sIx_nat, List.take_of_length_le (by rw [List.length_drop]; exact Nat.le_refl _)]
  rcases Nat.le_total i xs.length with h | h
  · rw [Nat.min_eq_left h]
  · rw [Nat.min_eq_right h, List.drop_eq_nil_of_le (Nat.le_refl _), List.drop_eq_nil_of_le h]
def BA.ad (A : BA) : Pt → Addr | .tel => A.t | .gap => A.g | .sur => A.s | .cla => A.q
def spPBN (K : Frag) (C : Addr) : Sp := fun vs H Q _ => ∃ (A : BA) (D : PD), vs = [.ref A.o] ∧ BB K C H A D ∧ ∀ H' r, Same H H' → H r = none → H' r = some (.dK (partsF A.ad)) → Q (.ref r) H'
def spWP (K : Frag) (C : Addr) : Sp := fun vs H Q _ => ∃ (A : BA) (D : PD) (d : Addr) (φ : Pt → Addr) (ys : Pt → List V), vs = [.ref A.o, .ref d] ∧ BB K C H A D ∧ H d = some (.dK (partsF φ)) ∧ 0 ≤ A.ev ∧ A.ev ≤ 8 ∧ 0 ≤ A.wi ∧ A.wi ≤ 8 ∧
  (∀ u, PartOk K u H (φ u) (ys u) A.ev A.wi) ∧ NewBook K C A.ev A.wi (ys .tel) (ys .gap) (ys .sur) (ys .cla) H Q
/-- a book whose items are valid, with room for a gap more -/
structure BookV (K : Frag) (C : Addr) (H : Hp) (A : BA) (D : PD) : Prop where
  bb : BB K C H A D
  e0 : 0 ≤ A.ev
  e8 : A.ev ≤ 8
  w0 : 0 ≤ A.wi
  w8 : A.wi ≤ 8
  len : ∀ u, (A.xs u).length ≤ 24
  items : ∀ u, ∀ x ∈ A.xs u, ItemOk u H x A.ev A.wi
theorem BB.sq {K : Frag} {C : Addr} {H : Hp} {A : BA} {D : PD} (h : BB K C H A D) : ∀ u, SqT K H (A.ad u) (A.xs u)
  | .tel => h.tT
  | .gap => h.tG
  | .sur => h.tS
  | .cla => h.tL
theorem BookV.same {K : Frag} {C : Addr} {H H' : Hp} {A : BA} {D : PD} (h : BookV K C H A D) (s : Same H H') : BookV K C H' A D := ⟨h.bb.same s, h.e0, h.e8, h.w0, h.w8, h.len, fun u x hx => (h.items u x hx).same s⟩
def spWI (K : Frag) (C : Addr) : Sp := fun vs H Q _ => ∃ (A : BA) (D : PD) (it : Addr) (p : Pt) (ys : List V), H it = some (.tup ys) ∧ vs = [.ref A.o, .str p.name, .ref it] ∧ BookV K C H A D ∧ (A.xs p).length ≤ 23 ∧ ItemOk p H (.ref it) A.ev A.wi ∧ NewBook K C A.ev A.wi (setP A.xs p (A.xs p ++ [.ref it]) .tel) (setP A.xs p (A.xs p ++ [.ref it]) .gap) (setP A.xs p (A.xs p ++ [.ref it]) .sur) (setP A.xs p (A.xs p ++ [.ref it]) .cla) H Q
def spWG (K : Frag) (C : Addr) : Sp := fun vs H Q _ => ∃ (A : BA) (D : PD) (a b g : Int), vs = [.ref A.o, .int a, .int b, .int g] ∧ BookV K C H A D ∧ (A.xs .gap).length ≤ 23 ∧ 0 ≤ a ∧ a < A.ev ∧ 0 ≤ b ∧ b < A.ev ∧ b ≠ a ∧ -1000000000000000 ≤ g ∧ g ≤ 1000000000000000 ∧
  ∀ p o dx t g' s c H', Same H H' → H o = none → H' p = some (.tup [.int a, .int b, .int g]) → H' o = some (bookO C dx A.ev A.wi t g' s c) → SqT K H' t (A.xs .tel) → SqT K H' g' (A.xs .gap ++ [.ref p]) → SqT K H' s (A.xs .sur) → SqT K H' c (A.xs .cla) → Q (.ref o) H'
abbrev cutP (A : BA) (p : Pt) (i : Nat) : Pt → List V := setP A.xs p ((A.xs p).take i ++ (A.xs p).drop (i + 1))
def spWO (K : Frag) (C : Addr) : Sp := fun vs H Q _ => ∃ (A : BA) (D : PD) (p : Pt) (i : Nat), vs = [.ref A.o, .str p.name, .int (i : Int)] ∧ BookV K C H A D ∧ i < (A.xs p).length ∧ NewBook K C A.ev A.wi (cutP A p i .tel) (cutP A p i .gap) (cutP A p i .sur) (cutP A p i .cla) H Q
def spII (K : Frag) (C : Addr) : Sp := fun vs H Q _ => ∃ (A : BA) (D : PD) (p : Pt), vs = [.ref A.o, .str p.name] ∧ BB K C H A D ∧ ∀ H', Same H H' → Q (.ref (A.ad p)) H'
section
variable {P : Program} {w : World} {K : Frag} {mg : Str → Option Value} {base : Heap} {f : Addr} {fd : FuncData} {C C_Wrong C_NoIndex : Addr} {D0 : BookD}
end
end EL

/- part K91F -/
namespace EL
open PySem PySem.Spec PyProof.Rows L2
open PySem.W (Frag)
open TX
abbrev s_item_of : Stmt := top 37
abbrev N_item_of : List Str := ["line", "events", "witnesses", "word", "rest", "part", "item", "some"]
theorem sc_item_of : FnScope N_item_of ["line", "events", "witnesses"] (defScope s_item_of) := ⟨rfl, rfl, rfl, by decide +kernel, rfl, by decide +kernel, by decide +kernel⟩
local macro_rules | `(tactic| walk_at "el1") => `(tactic| with_reducible first
  | refine a_sasg ?_ | refine a_sdrop ?_ | refine a_saugS ?_ | refine a_spar ?_ | refine a_seq ?_ | refine a_asg ?_ | refine a_drop ?_ | refine a_ret ?_ | refine a_if ?_ | refine a_next ?_
  | refine a_op ?_ | refine a_cons ?_ | refine a_nil ?_ | refine a_cb ?_ | refine a_call ?_ | refine a_c ?_ | refine a_gn ?_ | refine a_nx ?_ | refine a_rt ?_ | refine a_un ?_
  | refine a_test ?_ | refine a_B ?_ | refine a_bl ?_ | refine a_and ?_ | refine a_or ?_ | refine a_not ?_ | refine a_andV ?_ | refine a_orV ?_ | refine a_notV ?_ | refine a_ifx ?_ | refine a_chain ?_
  | refine a_nT ?_ | refine a_nF ?_ | refine a_fld ?_ | refine a_getF ?_ | refine a_T ?_ | refine a_F ?_ | refine a_tup ?_ | refine a_lst ?_ | refine a_sub ?_ | refine a_augS ?_ | refine a_two ?_ | refine a_I0 ?_ | refine a_U ?_ | refine n_add ?_ | refine n_int ?_ | refine n_ib ?_ | refine a_ip ?_ | refine a_rng1 ?_ | refine a_rng2 ?_ | refine a_bm ?_ | refine a_abs ?_ | refine a_pairs ?_ | refine a_pairs0 ?_ | refine a_bk ?_ | refine a_prp ?_ | refine a_lc ?_ | refine a_yes ?_ | refine a_sl ?_ | refine a_nop ?_ | refine a_prt ?_ | refine a_ex1 ?_ | refine a_for ?_ | refine a_sfor ?_ | refine a_iE1 ?_ | refine a_iEs ?_ | refine a_iEz ?_ | refine a_iEnum ?_ | refine a_iTup ?_ | refine a_iList ?_ | refine a_gcons ?_ | refine a_gnil ?_ | refine a_revT ?_ | refine a_spar3 ?_ | refine a_par3 ?_ | refine a_three ?_)
local macro_rules | `(tactic| walk_at "el2") => `(tactic| first
  | (refine a_var (by rfl) ?_)
  | (refine n_ixL (SqL.of (by assumption)) (by rfl) ?_) | (refine n_ixT (SqT.of (by assumption)) (by rfl) ?_) | (refine n_eq (by rfl) ?_) | (refine n_ne (by rfl) ?_)
  | (refine n_isN ?_) | (refine n_notN ?_) | (refine n_isB ?_) | (refine n_notB ?_) | (refine n_isBI ?_) | (refine n_notBI ?_) | (refine n_len (.inl (SqL.of (by assumption))) ?_) | (refine n_len (.inr (SqT.of (by assumption))) ?_)
  | (refine a_getL (SqL.of (by assumption)) (by rfl) ?_)
  | (refine n_isInt (by assumption) ?_) | (refine n_isBool (by assumption) ?_) | (refine n_isStr (by assumption) ?_) | (refine n_isTup (by assumption) ?_) | (refine n_isLst (by assumption) ?_))
local macro_rules | `(tactic| walk_at "el") => `(tactic| repeat (first | walk_at "el1" | walk_at "el2"))

/-! ### Book(e, .., *y) -/
section
variable {X : Cx} {C : Addr} {D : BookD} {pos p : Pos} {e : Expr} {es : List Expr} {t : TA}
theorem pe_bk6S (B : BookG X.prog X.w X.K X.mg X.base C D) (hr : Room 8 X.A) (hg : Gl X "Book") (ha : PA X (e :: es) t) (he : starEach (e :: es) X.env = (false, eval e X.env) :: starEach es X.env := by rfl) (hst : (backTo pos (starEach es X.env)).any (·.1) = true := by rfl) :
    PE X (.Call (.Name "Book" p) (e :: es) [] pos) (tBk X.K C [] t) := by
  refine ⟨fun pins s σ H Q I h => ?_⟩
  refine wpAny_Call_Name_kw (ld_glob I hg B.g ?_ (by decide))
  refine PySem.W.callWith_S2 (h₀ := X.base) I.ok.mod.kin B.made.kp (thn (ha.run pos pins s σ H _ I h) fun us s1 ⟨vs, H1, I1, r, q⟩ => ⟨I1.kIn, ?_⟩) he hst
  exact run_make B.made B.fn hr B.b6 .nil pass0 I1 r q
end
/-- the part that a word tells of -/
def partW (z : Str) : Option Pt := if z = "tell" then some .tel else if z = "gap" then some .gap else if z = "least" ∨ z = "most" then some .sur else if z = "known" ∨ z = "clause" then some .cla else none
theorem partW_cases {z : Str} {p : Pt} (h : partW z = some p) : (z = "tell" ∧ p = .tel) ∨ (z = "gap" ∧ p = .gap) ∨ (z = "least" ∧ p = .sur) ∨ (z = "most" ∧ p = .sur) ∨ (z = "known" ∧ p = .cla) ∨ (z = "clause" ∧ p = .cla) := by
  unfold partW at h
  split at h
  · cases h; exact .inl ⟨by assumption, rfl⟩
  · split at h
    · cases h; exact .inr (.inl ⟨by assumption, rfl⟩)
    · split at h
      · rename_i c; cases h
        rcases c with c | c
        · exact .inr (.inr (.inl ⟨c, rfl⟩))
        · exact .inr (.inr (.inr (.inl ⟨c, rfl⟩)))
      · split at h
        · rename_i c; cases h
          rcases c with c | c
          · exact .inr (.inr (.inr (.inr (.inl ⟨c, rfl⟩))))
          · exact .inr (.inr (.inr (.inr (.inr ⟨c, rfl⟩))))
        · cases h
structure PbT (K : Frag) (w : World) (mg : Str → Option Value) (aPB : Addr) (es : Array DictEntry) (n : Nat) : Prop where
  g : mg "PART_BY_WORD" = some (.ref aPB)
  d : KDict K w aPB es n
  k : ∀ z p, partW z = some p → KDct K w aPB z (.str p.name)
/-- the line of an item's values -/
def lineV : Pt → List V → Str
  | .tel, [.int a, .int b, .int c] => lineS (wT (a, b, c))
  | .gap, [.int a, .int b, .int c] => lineS (wG (a, b, c))
  | .sur, [.int a, .str b, .int c] => lineS (wS (a, b, c))
  | .cla, [.int a, .str b, .int c, .str d] => lineS (wL (a, b, c, d))
  | _, _ => Str.empty
/-- what a line tells -/
structure Told (line : Str) (ev wi : Int) (p : Pt) (xs : List V) (wd : Str) (rest : List Str) : Prop where
  sp : Txt.split line sp1 = wd :: rest
  pt : partW wd = some p
  it : xs = itemV wd (rest.map valV1)
  ln : xs.length = p.form.length
  st : StandsTo p xs ev wi p.form.length
  lo : p = .cla ∨ ∃ n : Int, xs[2]? = some (.int n) ∧ n.natAbs ≤ 1000000000000
  eq : lineV p xs = line
def spIof (K : Frag) (aPB : Addr) : Sp := fun vs H Q _ => ∃ (line : Str) (ev wi : Int), vs = [.str line, .int ev, .int wi] ∧ line.length ≤ 7000000 ∧ 0 ≤ ev ∧ ev ≤ 8 ∧ 0 ≤ wi ∧ wi ≤ 8 ∧
  (∀ wd rest, Txt.split line sp1 = wd :: rest → partW wd = none → PySem.W.nsIn K aPB wd = some none) ∧
  ((∀ p xs wd rest, ¬ Told line ev wi p xs wd rest) → ∀ H', Same H H' → Q .non H') ∧
  (∀ p xs wd rest, Told line ev wi p xs wd rest → ∀ H' t a, Same H H' → H' t = some (.tup [.str p.name, .ref a]) → H' a = some (.tup xs) → Q (.ref t) H')
theorem valV1_th {K : Frag} {H : Hp} (z : Str) : Th K H (valV1 z) := by
  unfold valV1
  split
  · exact .str _
  · cases intW z
    · exact .non
    · exact .int _
theorem cutV_mem {xs : List V} {a b : Option Int} {x : V} (h : x ∈ cutV xs a b) : x ∈ xs := by
  unfold cutV at h
  exact List.mem_of_mem_drop (List.mem_of_mem_take h)
theorem itemV_mem {wd : Str} {xs : List V} {x : V} (h : x ∈ itemV wd xs) : x ∈ xs ∨ ∃ s, x = .str s := by
  unfold itemV at h
  split at h
  · exact .inl ((List.mem_append.mp h).elim id id)
  · split at h
    · rcases List.mem_append.mp h with h | h
      · rcases List.mem_append.mp h with h | h
        · exact .inl (cutV_mem h)
        · exact .inr ⟨_, List.mem_singleton.mp h⟩
      · exact .inl (cutV_mem h)
    · exact .inl h
theorem itemV_th {K : Frag} {H : Hp} {wd : Str} {rest : List Str} : ∀ x ∈ itemV wd (rest.map valV1), Th K H x := fun x hx => by
  rcases itemV_mem hx with h | ⟨s, rfl⟩
  · obtain ⟨z, _, rfl⟩ := List.mem_map.mp h
    exact valV1_th z
  · exact .str _
theorem itemV_len {wd : Str} {xs : List V} : (itemV wd xs).length ≤ 2 * xs.length + 1 := by
  unfold itemV
  have c1 := cutV_length xs none (some 1)
  have c2 := cutV_length xs (some 1) none
  split
  · rw [List.length_append]; omega
  · split
    · rw [List.length_append, List.length_append]
      show _ + 1 + _ ≤ _
      omega
    · omega
theorem third_int {p : Pt} {xs : List V} {ev wi : Int} (np : p ≠ .cla) (hl : xs.length = p.form.length) (st : StandsTo p xs ev wi p.form.length) : ∃ n : Int, xs[2]? = some (.int n) := by
  have l2 : 2 < xs.length := by rw [hl]; cases p <;> first | exact absurd rfl np | decide
  have h2 : numB xs[2] = true := (st_n (x := xs[2])).symm.trans (st 2 (by cases p <;> first | exact absurd rfl np | decide) "number" xs[2] (by cases p <;> first | exact absurd rfl np | rfl) (List.getElem?_eq_getElem l2))
  obtain ⟨n, e, _⟩ := num_ok h2
  exact ⟨n, by rw [List.getElem?_eq_getElem l2, e]⟩
/-- the line of an item that stands, and what line_of asks -/
theorem line_ask {p : Pt} {H : Hp} {q : Addr} {xs : List V} {ev wi : Int} (hq : H q = some (.tup xs)) (ok : ItemOk p H (.ref q) ev wi) (e8 : ev ≤ 8) (w8 : wi ≤ 8) {Q : VK} {E : XK} (k : Q (.str (lineV p xs)) H) : spLine [.str p.name, .ref q] H Q E := by
  have big : (9 : Nat) < 10 ^ 40 := by decide +kernel
  have big2 : (1000000000000001 : Nat) < 10 ^ 40 := by decide +kernel
  cases p with
  | tel =>
    obtain ⟨q', y, e, hq', ⟨a0, a1⟩, ⟨b0, b1⟩, c0, c1⟩ := item_tel_inv ok
    cases e
    rw [hq] at hq'
    cases hq'
    exact ⟨q, .inl ⟨y, rfl, hq, by omega, by omega, by omega, k⟩⟩
  | gap =>
    obtain ⟨q', y, e, hq', ⟨a0, a1⟩, ⟨b0, b1⟩, c0, c1⟩ := item_gap_inv2 ok
    cases e
    rw [hq] at hq'
    cases hq'
    exact ⟨q, .inr (.inl ⟨y, rfl, hq, by omega, by omega, by omega, k⟩)⟩
  | sur =>
    obtain ⟨q', y, e, hq', ⟨a0, a1⟩, b, c0, c1⟩ := item_sur_inv ok
    cases e
    rw [hq] at hq'
    cases hq'
    have l : y.2.1.length ≤ 100 := by rcases b with h | h <;> rw [h] <;> decide +kernel
    exact ⟨q, .inr (.inr (.inl ⟨y, rfl, hq, by omega, l, by omega, k⟩))⟩
  | cla =>
    obtain ⟨q', y, e, hq', ⟨a0, a1⟩, b, ⟨c0, c1⟩, d⟩ := item_cla_inv ok
    cases e
    rw [hq] at hq'
    cases hq'
    have l : y.2.1.length ≤ 100 := by rcases b with h | h <;> rw [h] <;> decide +kernel
    have l2 : y.2.2.2.length ≤ 100 := by rcases d with h | h <;> rw [h] <;> decide +kernel
    exact ⟨q, .inr (.inr (.inr ⟨y, rfl, hq, by omega, l, by omega, l2, k⟩))⟩
theorem fr_lo {K : Frag} {p : Pt} {H : Hp} {a : Addr} {xs : List V} {ev wi : Int} {Q : VK} {E : XK} (ha : H a = some (.tup xs)) (hl : xs.length = p.form.length) (th : ∀ x ∈ xs, Th K H x) (st : StandsTo p xs ev wi p.form.length)
    (lo : p = .cla ∨ ∃ n : Int, xs[2]? = some (.int n) ∧ n.natAbs ≤ 1000000000000) (k : ∀ H', Same H H' → Q .non H') : spFr K [.str p.name, .ref a, .int ev, .int wi] H Q E := by
  refine ⟨p, a, xs, ev, wi, rfl, ha, hl, th, st, ?_⟩
  by_cases c : p = .cla
  · exact .inl ⟨c, k⟩
  · obtain ⟨n, hn, h⟩ := lo.resolve_left c
    exact .inr ⟨c, n, hn, fun H' s => by rw [if_neg (by omega)]; exact k H' s⟩
theorem fr_hi {K : Frag} {p : Pt} {H : Hp} {a : Addr} {xs : List V} {ev wi : Int} {Q : VK} {E : XK} (ha : H a = some (.tup xs)) (hl : xs.length = p.form.length) (th : ∀ x ∈ xs, Th K H x) (st : StandsTo p xs ev wi p.form.length)
    (lo : ¬ (p = .cla ∨ ∃ n : Int, xs[2]? = some (.int n) ∧ n.natAbs ≤ 1000000000000)) (k : ∀ H', Same H H' → Q (.int 2) H') : spFr K [.str p.name, .ref a, .int ev, .int wi] H Q E := by
  have c : p ≠ .cla := fun c => lo (.inl c)
  obtain ⟨n, hn⟩ := third_int c hl st
  exact ⟨p, a, xs, ev, wi, rfl, ha, hl, th, st, .inr ⟨c, n, hn, fun H' s => by rw [if_pos (Nat.lt_of_not_le fun h => lo (.inr ⟨n, hn, h⟩))]; exact k H' s⟩⟩
section
variable {P : Program} {w : World} {K : Frag} {mg : Str → Option Value} {base : Heap} {f C aForms aParts aPB : Addr} {fd : FuncData} {es : Array DictEntry} {nd : Nat}
theorem ok_item_of (F : Fun K "item_of" "item_of" s_item_of f fd) (T : Tb mg) (PB : PbT K w mg aPB es nd) (c_is_item : Cal P w K mg base CX0 5 "is_item" ["part", "thing", "events", "witnesses"] (spItem K)) (c_first_refused : Cal P w K mg base CX0 5 "first_refused" ["part", "item", "events", "witnesses"] (spFr K))
    (c_line_of : Cal P w K mg base CX0 1 "line_of" ["part", "item"] spLine) (c__item_told : Cal P w K mg base CX0 1 "_item_told" ["word", "values"] (spItT K)) (c__value_of : Cal P w K mg base CX0 2 "_value_of" ["word"] spV1) : FnOk P w K mg base CX0 6 f fd ["line", "events", "witnesses"] (spIof K aPB) := by
  refine F.ok sc_item_of (fun vs H Q E h => ?_) (fun cdv A outer s H vs Q E hr h => ?_)
  · obtain ⟨_, _, _, rfl, _⟩ := h
    rfl
  · obtain ⟨line, ev, wi, rfl, hl, e0, e8, w0, w8, pn, kN, kY⟩ := h
    refine ⟨_, (pss_cons (ps_asg (pe_split (pv 0) pe_str) (pg_star rfl (pgs_cons (pg_name (i := 3) sc_item_of.nd rfl (Or.inl rfl)) (pgs_cons (pg_name (i := 4) sc_item_of.nd rfl (Or.inl rfl)) pgs_nil))))
  (pss_cons (ps_if (pt_cmpR (op_notIn_kd PB.d) (pv 3) (pe_glob (v := .ref aPB) rfl PB.g rfl) rfl)
    (pss_one (ps_ret pe_non))
    pss_nil)
  (pss_cons (ps_set (i := 5) sc_item_of.nd rfl (Or.inl rfl) (pe_ix ix_kdict (pe_glob (v := .ref aPB) rfl PB.g rfl) (pv 3) (fun _ _ => rfl)))
  (pss_cons (ps_set (i := 6) sc_item_of.nd rfl (Or.inl rfl) (pe_cal c__item_told (hr.mono (by decide)) pass0 (pa_cons (pv 3) (pa_cons (pe_callTy u_tuple rfl T.b.tuple_ (by decide +kernel) (pa_cons (pe_lc (own := [("some", 7)]) rfl sc_item_of.nd (u_iter (pv 4)) (blkOk_by (own := [("some", 7)]) (N := N_item_of) (sc := defScope s_item_of) (by decide +kernel)) (fun _ _ _ _ _ => (pg_name (i := 7) sc_item_of.nd rfl (Or.inl rfl))) (fun _ _ _ _ _ => pts_nil) (fun _ _ _ _ _ => (pe_cal c__value_of (hr.mono (by decide)) pass0 (pa_cons (pv 7) pa_nil)))) pa_nil)) pa_nil))))
  (pss_cons (ps_if (PW.pt (pw_or (pt_not (pt_val (pe_cal c_is_item (hr.mono (by decide)) pass0 (pa_cons (pv 5) (pa_cons (pv 6) (pa_cons (pv 1) (pa_cons (pv 2) pa_nil))))))) (pw_or1 (pt_cmpR u_isnot (pe_cal c_first_refused (hr.mono (by decide)) pass0 (pa_cons (pv 5) (pa_cons (pv 6) (pa_cons (pv 1) (pa_cons (pv 2) pa_nil))))) pe_non (nomark _)))))
    (pss_one (ps_ret pe_non))
    pss_nil)
  (pss_cons (ps_if (pt_cmpR (u_ne hr.units) (pe_cal c_line_of (hr.mono (by decide)) pass0 (pa_cons (pv 5) (pa_cons (pv 6) pa_nil))) (pv 0) (nomark _))
    (pss_one (ps_ret pe_non))
    pss_nil)
  (pss_one (ps_ret (pe_tup (pa_cons (pv 5) (pa_cons (pv 6) pa_nil))))))))))), ?_⟩
    have hs0 : sizeLine = 16777216 := rfl
    obtain ⟨wd, rest, hw⟩ : ∃ wd rest, Txt.split line sp1 = wd :: rest := by
      cases e : Txt.split line sp1 with
      | nil => exact absurd e (split_ne line sp1)
      | cons a r => exact ⟨a, r, rfl⟩
    have sl := TX.split_len line 32
    rw [show (⟨#[32]⟩ : Str) = sp1 from rfl, hw] at sl
    simp only [List.map_cons, List.sum_cons, List.length_cons] at sl
    walk_at "el"
    refine ⟨⟨_, rfl⟩, ?_⟩
    walk_at "el"
    refine ⟨line, sp1, rfl, by rw [sp_eq], rfl, by omega, fun p hp => ?_⟩
    rw [hw]
    have e1 := nw_of hp (.lst ((wd :: rest).map V.str))
    refine ⟨p, .str wd, rest.map V.str, rfl, SqL.of upd_same, fun D hD => ?_⟩
    have e2 := nw_of hD (.lst (rest.map V.str))
    have g2 := upd_at hD (.lst (rest.map V.str))
    have s2 := e1.trans e2
    generalize upd (upd H p (.lst ((wd :: rest).map V.str))) D (.lst (rest.map V.str)) = H2 at e2 g2 s2 ⊢
    clear e1 e2
    walk_at "el"
    cases hpt : partW wd with
    | none =>
      refine ⟨wd, none, rfl, rfl, pn wd rest hw hpt, ?_⟩
      rw [show (!(none : Option Value).isSome) = true from rfl]
      walk_at "el"
      refine kN (fun p xs wd' rest' h => ?_) H2 s2
      have := h.sp
      rw [hw] at this
      cases this
      rw [h.pt] at hpt; cases hpt
    | some pt =>
      have kd := PB.k wd pt hpt
      obtain ⟨es', n', u, hl', _, hn, ru⟩ := id kd
      refine ⟨wd, some u, rfl, rfl, hn, ?_⟩
      rw [show (!(some u).isSome) = false from rfl]
      walk_at "el"
      refine ⟨_, _, _, rfl, rfl, kd, ?_⟩
      walk_at "el"
      refine .inl ?_
      walk_at "el"
      refine ⟨D, rfl, ⟨_, SqL.of g2⟩, fun Dc hDc => ?_⟩
      have e0 := nw_of hDc (.lst [])
      refine lc_of (walk_list (xs := rest.map V.str)) (fun i H3 => Same H2 H3 ∧ H3 Dc = some (.lst ((rest.take i).map valV1))) ⟨e0, upd_same⟩ (fun i H3 hi h => SqL.of (h.1 _ _ g2)) ?_ ?_
      · rintro i y H3 H4 hi ⟨s3, d3⟩ ⟨rfl, hy⟩
        obtain ⟨wz, hwz, rfl⟩ : ∃ w', rest[i]? = some w' ∧ V.str w' = y := by simpa using hy
        have hi' : i < rest.length := by simpa using hi
        have hw1 : wz.length ≤ line.length := by
          have := le_sum (List.mem_map_of_mem (f := fun s : Str => s.length) (List.mem_of_getElem? hwz))
          omega
        walk_at "el"
        refine ⟨rfl, ?_⟩
        walk_at "el"
        refine ⟨wz, rfl, by omega, fun H5 s5 => ?_⟩
        refine ⟨_, s5 _ _ d3, ?_, L2.Same.mu (s3.trans s5) hDc, ?_⟩
        · rw [List.length_map, List.length_take]; omega
        · rw [upd_same, take_next hwz, List.map_append]; rfl
      · rintro H3 ⟨s3, d3⟩
        rw [List.length_map, List.take_length] at d3
        walk_at "el"
        refine ⟨Dc, _, rfl, .inl ⟨SqL.of d3, fun tq htq0 => ?_⟩⟩
        have s4 := nw_of htq0 (.tup (rest.map valV1))
        have htq := upd_at htq0 (.tup (rest.map valV1))
        generalize upd H3 tq (.tup (rest.map valV1)) = H4 at s4 htq ⊢
        walk_at "el"
        refine ⟨wd, tq, rest.map valV1, rfl, htq, by rw [List.length_map]; omega, fun q H5 s5 hq => ?_⟩
        have th : ∀ x ∈ itemV wd (rest.map valV1), Th K H5 x := itemV_th
        have un : ∀ p xs wd' rest', Told line ev wi p xs wd' rest' → p = pt ∧ xs = itemV wd (rest.map valV1) := fun p xs wd' rest' h => by
          have := h.sp
          rw [hw] at this
          cases this
          have := h.pt
          rw [hpt] at this
          cases this
          exact ⟨rfl, h.it⟩
        have mk : ∀ (ln : (itemV wd (rest.map valV1)).length = pt.form.length) (st : StandsTo pt (itemV wd (rest.map valV1)) ev wi pt.form.length) (lo : pt = .cla ∨ ∃ n : Int, (itemV wd (rest.map valV1))[2]? = some (.int n) ∧ n.natAbs ≤ 1000000000000) (eq : lineV pt (itemV wd (rest.map valV1)) = line), Told line ev wi pt (itemV wd (rest.map valV1)) wd rest :=
          fun ln st lo eq => ⟨hw, hpt, rfl, ln, st, lo, eq⟩
        generalize itemV wd (rest.map valV1) = xs at hq th un mk
        have s05 := ((s2.trans s3).trans s4).trans s5
        clear s3 s4 s5 htq d3 s2 g2 e0
        walk_at "el"
        refine ⟨pt, .ref q, ev, wi, rfl, .tup hq, fun a ys e ha => ?_, fun H6 b s6 hb => ?_⟩
        · cases e; rw [hq] at ha; cases ha; exact th
        have s06 := s05.trans s6
        cases b with
        | false =>
          walk_at "el"
          refine kN (fun p xs' wd' rest' h => ?_) H6 s06
          obtain ⟨rfl, rfl⟩ := un p xs' wd' rest' h
          have := hb.mpr ⟨q, xs', rfl, hq, h.ln, h.st⟩
          cases this
        | true =>
          obtain ⟨q', ys, e, hq', ln, st⟩ := hb.mp rfl
          cases e
          rw [hq] at hq'
          cases hq'
          have ok6 : ItemOk pt H6 (.ref q) ev wi := ⟨q, xs, rfl, s6 _ _ hq, ln, st⟩
          have hq6 := s6 _ _ hq
          have th6 : ∀ x ∈ xs, Th K H6 x := fun x hx => (th x hx).same s6
          walk_at "el"
          by_cases lo : pt = .cla ∨ ∃ n : Int, xs[2]? = some (.int n) ∧ n.natAbs ≤ 1000000000000
          · refine fr_lo hq6 ln th6 st lo fun H7 s7 => ?_
            have hq7 := s7 _ _ hq6
            have ok7 : ItemOk pt H7 (.ref q) ev wi := ⟨q, xs, rfl, hq7, ln, st⟩
            walk_at "el"
            rw [decide_eq_true rfl]
            walk_at "el"
            refine line_ask hq7 ok7 e8 w8 ?_
            walk_at "el"
            by_cases eq : lineV pt xs = line
            · rw [decide_eq_true (congrArg V.str eq)]
              walk_at "el"
              refine ⟨by show 2 ≤ sizeLine; decide, fun t ht => ?_⟩
              exact kY pt xs wd rest (mk ln st lo eq) _ t q (((s06.trans s7).trans (nw_of ht _))) upd_same (nw_of ht _ _ _ hq7)
            · rw [decide_eq_false fun c => eq (V.str.inj c)]
              walk_at "el"
              refine kN (fun p xs' wd' rest' h => ?_) H7 (s06.trans s7)
              obtain ⟨rfl, rfl⟩ := un p xs' wd' rest' h
              exact eq h.eq
          · refine fr_hi hq6 ln th6 st lo fun H7 s7 => ?_
            walk_at "el"
            rw [show decide (V.int 2 = V.non) = false from by decide]
            walk_at "el"
            refine kN (fun p xs' wd' rest' h => ?_) H7 (s06.trans s7)
            obtain ⟨rfl, rfl⟩ := un p xs' wd' rest' h
            exact lo h.lo
end
end EL

/- part K91W -/
namespace EL
open PySem PySem.Spec PyProof.Rows L2
open PySem.W (Frag)
open TX
/-! ### what lines are made of -/
structure Wordy (y : Str) : Prop where
  len : y.length ≤ 41
  ok : ∀ c ∈ y.cps.toList, c < 1114112
  nl : 10 ∉ y.cps.toList
  sp : 32 ∉ y.cps.toList
theorem wordy_show {n : Int} (h : n.natAbs < 10 ^ 40) : Wordy (showI n) := ⟨showI_len h, fun c hc => by
  rw [showI_list] at hc
  have k : ∀ d ∈ (Nat.toDigits 10 n.natAbs).map Char.toNat, d < 1114112 := fun d hd => by
    have := toD_all n.natAbs d hd; omega
  split at hc
  · rcases List.mem_cons.mp hc with rfl | hc
    · decide
    · exact k c hc
  · exact k c hc, showI_free (by decide) (by decide), showI_free (by decide) (by decide)⟩
theorem wordy_lit : Wordy "events" ∧ Wordy "witnesses" ∧ Wordy "tell" ∧ Wordy "gap" ∧ Wordy "least" ∧ Wordy "most" ∧ Wordy "known" ∧ Wordy "clause" ∧ Wordy "early" ∧ Wordy "late" := by
  refine ⟨?_, ?_, ?_, ?_, ?_, ?_, ?_, ?_, ?_, ?_⟩ <;> exact ⟨by decide +kernel, by decide +kernel, by decide +kernel, by decide +kernel⟩
theorem mem_flat9 {c x : Nat} : ∀ {ws : List (List Nat)}, x ∈ flat c ws → x = c ∨ ∃ l ∈ ws, x ∈ l
  | [], h => by cases h
  | [a], h => .inr ⟨a, List.mem_singleton.mpr rfl, h⟩
  | a :: b :: r, h => by
    simp only [flat] at h
    rcases List.mem_append.mp h with h | h
    · exact .inr ⟨a, List.mem_cons_self, h⟩
    · rcases List.mem_cons.mp h with h | h
      · exact .inl h
      · rcases mem_flat9 h with h | ⟨l, m, h⟩
        · exact .inl h
        · exact .inr ⟨l, List.mem_cons_of_mem _ m, h⟩
theorem flat_le {ws : List Str} {s : Str} {c : Nat} (h : s.cps.toList = flat c (ws.map (·.cps.toList))) : s.length ≤ (ws.map (·.length)).sum + ws.length := by
  have := flat_len' c (ws.map (·.cps.toList))
  rw [← h, TX.len_list, List.map_map, List.length_map] at this
  have e : List.map (List.length ∘ fun x : Str => x.cps.toList) ws = ws.map (·.length) := List.map_congr_left fun s _ => TX.len_list s
  rw [e] at this
  exact this
/-- a line of two to five words -/
structure Liny (ws : List Str) : Prop where
  two : 2 ≤ ws.length
  five : ws.length ≤ 5
  w : ∀ y ∈ ws, Wordy y
theorem Liny.len {ws : List Str} (h : Liny ws) : (lineS ws).length ≤ 210 := by
  have a := flat_le (line_list ws)
  have b := StrLaws.sumLen_le (B := 41) ws fun y hy => (h.w y hy).len
  have := h.five
  have c : ws.length * 41 ≤ 5 * 41 := Nat.mul_le_mul_right _ h.five
  omega
theorem Liny.nl {ws : List Str} (h : Liny ws) : 10 ∉ (lineS ws).cps.toList := fun hc => by
  rw [line_list] at hc
  rcases mem_flat9 hc with e | ⟨l, m, hl⟩
  · cases e
  · obtain ⟨y, hy, rfl⟩ := List.mem_map.mp m
    exact (h.w y hy).nl hl
theorem Liny.split {ws : List Str} (h : Liny ws) : Txt.split (lineS ws) sp1 = ws := (congrArg (fun s => Txt.split s sp1) (StrLaws.glued_eq_join _ ws)).trans <| split_join (c := 32) (by intro e; have := h.two; rw [e] at this; exact absurd this (by decide)) fun y hy => (h.w y hy).sp
theorem all2 {p : Str → Prop} {a b : Str} (h1 : p a) (h2 : p b) : ∀ y ∈ [a, b], p y := all_cons h1 (all_cons h2 all_nil)
theorem all3 {p : Str → Prop} {a b c : Str} (h1 : p a) (h2 : p b) (h3 : p c) : ∀ y ∈ [a, b, c], p y := all_cons h1 (all2 h2 h3)
theorem all4 {p : Str → Prop} {a b c d : Str} (h1 : p a) (h2 : p b) (h3 : p c) (h4 : p d) : ∀ y ∈ [a, b, c, d], p y := all_cons h1 (all3 h2 h3 h4)
theorem all5 {p : Str → Prop} {a b c d e : Str} (h1 : p a) (h2 : p b) (h3 : p c) (h4 : p d) (h5 : p e) : ∀ y ∈ [a, b, c, d, e], p y := all_cons h1 (all4 h2 h3 h4 h5)
theorem idx40 {n m : Int} (h : 0 ≤ n ∧ n < m) (h8 : m ≤ 8) : n.natAbs < 10 ^ 40 := Nat.lt_of_le_of_lt (by omega : n.natAbs ≤ 8) (by decide +kernel)
theorem num40 {n : Int} (h : NumOk n) : n.natAbs < 10 ^ 40 := Nat.lt_of_le_of_lt (by have := h.1; have := h.2; omega : n.natAbs ≤ 1000000000000000) (by decide +kernel)
section
variable {D : PD} {ev wi : Int}
theorem liny_T (ok : D.Ok ev wi) (e8 : ev ≤ 8) (w8 : wi ≤ 8) {x : Int × Int × Int} (hx : x ∈ D.T) : Liny (wT x) := by
  obtain ⟨a, b, c⟩ := ok.t x hx
  exact ⟨by show 2 ≤ 4; decide, by show 4 ≤ 5; decide, all4 wordy_lit.2.2.1 (wordy_show (idx40 a w8)) (wordy_show (idx40 b e8)) (wordy_show (num40 c))⟩
theorem liny_G (ok : D.Ok ev wi) (e8 : ev ≤ 8) {x : Int × Int × Int} (hx : x ∈ D.G) : Liny (wG x) := by
  obtain ⟨a, b, c⟩ := ok.g x hx
  exact ⟨by show 2 ≤ 4; decide, by show 4 ≤ 5; decide, all4 wordy_lit.2.2.2.1 (wordy_show (idx40 a e8)) (wordy_show (idx40 b e8)) (wordy_show (num40 c))⟩
theorem liny_S (ok : D.Ok ev wi) (e8 : ev ≤ 8) {x : Int × Str × Int} (hx : x ∈ D.S) : Liny (wS x) := by
  obtain ⟨a, b, c⟩ := ok.s x hx
  have hw : Wordy x.2.1 := b.elim (fun h => h ▸ wordy_lit.2.2.2.2.1) fun h => h ▸ wordy_lit.2.2.2.2.2.1
  exact ⟨by show 2 ≤ 3; decide, by show 3 ≤ 5; decide, all3 hw (wordy_show (idx40 a e8)) (wordy_show (num40 c))⟩
theorem wordy_kind {s : Str} (h : s = "early" ∨ s = "late") : Wordy s := h.elim (fun h => h ▸ wordy_lit.2.2.2.2.2.2.2.2.1) fun h => h ▸ wordy_lit.2.2.2.2.2.2.2.2.2
theorem liny_L (ok : D.Ok ev wi) (w8 : wi ≤ 8) {x : Int × Str × Int × Str} (hx : x ∈ D.L) : Liny (wL x) := by
  obtain ⟨a, b, c, d⟩ := ok.l x hx
  unfold wL
  split
  · exact ⟨by show 2 ≤ 3; decide, by show 3 ≤ 5; decide, all3 wordy_lit.2.2.2.2.2.2.1 (wordy_show (idx40 a w8)) (wordy_kind b)⟩
  · exact ⟨by show 2 ≤ 5; decide, by show 5 ≤ 5; decide, all5 wordy_lit.2.2.2.2.2.2.2.1 (wordy_show (idx40 a w8)) (wordy_kind b) (wordy_show (idx40 c w8)) (wordy_kind d)⟩
theorem liny_head {n : Int} {w0 : Str} (h0 : Wordy w0) (h : 0 ≤ n) (h8 : n ≤ 8) : Liny [w0, showI n] := ⟨by show 2 ≤ 2; decide, by show 2 ≤ 5; decide, all2 h0 (wordy_show (Nat.lt_of_le_of_lt (by omega : n.natAbs ≤ 8) (by decide +kernel)))⟩
theorem liny_all (ok : D.Ok ev wi) (e0 : 0 ≤ ev) (e8 : ev ≤ 8) (w0 : 0 ≤ wi) (w8 : wi ≤ 8) : ∀ ws ∈ linesW ev wi D, Liny ws := by
  unfold linesW
  refine all_app (all_app (all_app (all_app ?_ ?_) ?_) ?_) ?_
  · exact all_cons (liny_head wordy_lit.1 e0 e8) (all_cons (liny_head wordy_lit.2.1 w0 w8) all_nil)
  · intro ws h; obtain ⟨x, hx, rfl⟩ := List.mem_map.mp h; exact liny_T ok e8 w8 hx
  · intro ws h; obtain ⟨x, hx, rfl⟩ := List.mem_map.mp h; exact liny_G ok e8 hx
  · intro ws h; obtain ⟨x, hx, rfl⟩ := List.mem_map.mp h; exact liny_S ok e8 hx
  · intro ws h; obtain ⟨x, hx, rfl⟩ := List.mem_map.mp h; exact liny_L ok w8 hx
/-- the text of a book -/
def textW (ev wi : Int) (D : PD) : Str := Txt.join nl ((linesW ev wi D).map lineS)
theorem join_listN (ws : List Str) : (Txt.join nl ws).cps.toList = flat 10 (ws.map (·.cps.toList)) := by
  rw [show Txt.join nl ws = (⟨#[10]⟩ : Str).join ws from StrLaws.glued_eq_join _ ws]
  exact flat_of 10 ws
theorem lines_sum {n : Nat} (ok : ∀ ws ∈ linesW ev wi D, Liny ws) (hn : (linesW ev wi D).length ≤ n) : (((linesW ev wi D).map lineS).map (·.length)).sum + ((linesW ev wi D).map lineS).length ≤ 211 * n := by
  have b := StrLaws.sumLen_le (B := 210) ((linesW ev wi D).map lineS) fun y hy => by
    obtain ⟨ws, hw, rfl⟩ := List.mem_map.mp hy
    exact (ok ws hw).len
  rw [List.length_map] at b ⊢
  omega
theorem text_len {n : Nat} (ok : ∀ ws ∈ linesW ev wi D, Liny ws) (hn : (linesW ev wi D).length ≤ n) : (textW ev wi D).length ≤ 211 * n := Nat.le_trans (flat_le (join_listN _)) (lines_sum ok hn)
theorem lanes_text (ok : ∀ ws ∈ linesW ev wi D, Liny ws) : lanes (textW ev wi D) = (linesW ev wi D).map lineS := (congrArg (fun s => Txt.split s nl) (StrLaws.glued_eq_join _ _)).trans <| split_join (c := 10) (by unfold linesW headW; simp) fun y hy => by
  obtain ⟨ws, hw, rfl⟩ := List.mem_map.mp hy
  exact (ok ws hw).nl
end
end EL

/- part K91G -/
namespace EL
open PySem PySem.Spec PyProof.Rows L2
open PySem.W (Frag)
open TX

local macro_rules | `(tactic| walk_at "el1") => `(tactic| with_reducible first
  | refine a_sasg ?_ | refine a_sdrop ?_ | refine a_saugS ?_ | refine a_spar ?_ | refine a_seq ?_ | refine a_asg ?_ | refine a_drop ?_ | refine a_ret ?_ | refine a_if ?_ | refine a_next ?_
  | refine a_op ?_ | refine a_cons ?_ | refine a_nil ?_ | refine a_cb ?_ | refine a_call ?_ | refine a_c ?_ | refine a_gn ?_ | refine a_nx ?_ | refine a_rt ?_ | refine a_un ?_
  | refine a_test ?_ | refine a_B ?_ | refine a_bl ?_ | refine a_and ?_ | refine a_or ?_ | refine a_not ?_ | refine a_andV ?_ | refine a_orV ?_ | refine a_notV ?_ | refine a_ifx ?_ | refine a_chain ?_
  | refine a_nT ?_ | refine a_nF ?_ | refine a_fld ?_ | refine a_getF ?_ | refine a_T ?_ | refine a_F ?_ | refine a_tup ?_ | refine a_lst ?_ | refine a_sub ?_ | refine a_augS ?_ | refine a_two ?_ | refine a_I0 ?_ | refine a_U ?_ | refine n_add ?_ | refine n_int ?_ | refine n_ib ?_ | refine a_ip ?_ | refine a_rng1 ?_ | refine a_rng2 ?_ | refine a_bm ?_ | refine a_abs ?_ | refine a_pairs ?_ | refine a_pairs0 ?_ | refine a_bk ?_ | refine a_prp ?_ | refine a_lc ?_ | refine a_yes ?_ | refine a_sl ?_ | refine a_nop ?_ | refine a_prt ?_ | refine a_ex1 ?_ | refine a_for ?_ | refine a_sfor ?_ | refine a_iE1 ?_ | refine a_iEs ?_ | refine a_iEz ?_ | refine a_iEnum ?_ | refine a_iTup ?_ | refine a_iList ?_ | refine a_gcons ?_ | refine a_gnil ?_ | refine a_revT ?_ | refine a_spar3 ?_ | refine a_par3 ?_ | refine a_three ?_)
local macro_rules | `(tactic| walk_at "el2") => `(tactic| first
  | (refine a_var (by rfl) ?_)
  | (refine n_ixL (SqL.of (by assumption)) (by rfl) ?_) | (refine n_ixT (SqT.of (by assumption)) (by rfl) ?_) | (refine n_eq (by rfl) ?_) | (refine n_ne (by rfl) ?_)
  | (refine n_isN ?_) | (refine n_notN ?_) | (refine n_isB ?_) | (refine n_notB ?_) | (refine n_isBI ?_) | (refine n_notBI ?_) | (refine n_len (.inl (SqL.of (by assumption))) ?_) | (refine n_len (.inr (SqT.of (by assumption))) ?_)
  | (refine a_getL (SqL.of (by assumption)) (by rfl) ?_)
  | (refine n_isInt (by assumption) ?_) | (refine n_isBool (by assumption) ?_) | (refine n_isStr (by assumption) ?_) | (refine n_isTup (by assumption) ?_) | (refine n_isLst (by assumption) ?_))
local macro_rules | `(tactic| walk_at "el") => `(tactic| repeat (first | walk_at "el1" | walk_at "el2"))

/-- the lines of a part -/
def PD.lns (D : PD) : Pt → List Str
  | .tel => D.T.map (lineS ∘ wT)
  | .gap => D.G.map (lineS ∘ wG)
  | .sur => D.S.map (lineS ∘ wS)
  | .cla => D.L.map (lineS ∘ wL)
def ptAt : Nat → Pt | 0 => .tel | 1 => .gap | 2 => .sur | _ => .cla
/-- the lines of the first parts -/
def PD.upTo (D : PD) (i : Nat) : List Str := ((List.range i).map fun j => D.lns (ptAt j)).flatten
theorem upTo_next (D : PD) (i : Nat) : D.upTo (i + 1) = D.upTo i ++ D.lns (ptAt i) := by
  unfold PD.upTo
  rw [List.range_succ, List.map_append, List.flatten_append]
  simp
theorem upTo_all (ev wi : Int) (D : PD) : (headW ev wi).map lineS ++ D.upTo 4 = (linesW ev wi D).map lineS := by
  unfold linesW
  rw [show D.upTo 4 = [] ++ D.lns .tel ++ D.lns .gap ++ D.lns .sur ++ D.lns .cla from by rw [upTo_next, upTo_next, upTo_next, upTo_next]; rfl]
  unfold PD.lns
  simp only [List.map_append, List.map_map, List.append_assoc, List.nil_append]
theorem js_p {C a dx : Addr} {fld : Str} {fs : List (Str × V)} {n : Nat} {i : Int} {acc : Str} {ts : List TE} {σ : L2.St} {H : Hp} {Q : Str → Hp → Prop} (h : σ[n]? = some (some (.ref a))) (ha : H a = some (.ins C dx fs)) (hv : fs.lookup fld = some (.int i)) (hi : i.natAbs < 10 ^ 40) (l : (acc ++ showI i).length ≤ sizeLine)
    (q : tJs ts (acc ++ showI i) σ H Q) : tJs (tFmt (tProp C (spGet C fld) [] E0 (tVar n)) :: ts) acc σ H Q :=
  a_prp ⟨_, h, n_prp ha hv (.inr ⟨i, rfl, log_of (Nat.lt_trans hi (by decide +kernel)), _, rfl, l, q⟩)⟩
def spShow (K : Frag) (C : Addr) : Sp := fun vs H Q _ => ∃ (A : BA) (D : PD), vs = [.ref A.o] ∧ BookV K C H A D ∧ D.Ok A.ev A.wi ∧ ∀ H', Same H H' → Q (.str (Txt.join nl ((linesW A.ev A.wi D).map lineS))) H'
theorem lns_len {K : Frag} {C : Addr} {H : Hp} {A : BA} {D : PD} (h : BookV K C H A D) (p : Pt) : (D.lns p).length = (A.xs p).length := by
  cases p
  · show (D.T.map _).length = _; rw [List.length_map]; exact h.bb.r.t.len.symm
  · show (D.G.map _).length = _; rw [List.length_map]; exact h.bb.r.g.len.symm
  · show (D.S.map _).length = _; rw [List.length_map]; exact h.bb.r.s.len.symm
  · show (D.L.map _).length = _; rw [List.length_map]; exact h.bb.r.l.len.symm
/-- the line of the item with this index -/
theorem line_at {K : Frag} {C : Addr} {H : Hp} {A : BA} {D : PD} (h : BookV K C H A D) (p : Pt) {i : Nat} {x : V} (hx : (A.xs p)[i]? = some x) : ∃ q xs, x = .ref q ∧ H q = some (.tup xs) ∧ ItemOk p H (.ref q) A.ev A.wi ∧ (D.lns p)[i]? = some (lineV p xs) := by
  have ok := h.items p x (List.mem_of_getElem? hx)
  cases p
  · obtain ⟨q, y, rfl, hy, hq⟩ := h.bb.r.t.at_ i x hx
    exact ⟨q, _, rfl, hq, ok, by show (D.T.map _)[i]? = _; rw [List.getElem?_map, hy]; rfl⟩
  · obtain ⟨q, y, rfl, hy, hq⟩ := h.bb.r.g.at_ i x hx
    exact ⟨q, _, rfl, hq, ok, by show (D.G.map _)[i]? = _; rw [List.getElem?_map, hy]; rfl⟩
  · obtain ⟨q, y, rfl, hy, hq⟩ := h.bb.r.s.at_ i x hx
    exact ⟨q, _, rfl, hq, ok, by show (D.S.map _)[i]? = _; rw [List.getElem?_map, hy]; rfl⟩
  · obtain ⟨q, y, rfl, hy, hq⟩ := h.bb.r.l.at_ i x hx
    exact ⟨q, _, rfl, hq, ok, by show (D.L.map _)[i]? = _; rw [List.getElem?_map, hy]; rfl⟩
theorem upTo_len {K : Frag} {C : Addr} {H : Hp} {A : BA} {D : PD} (h : BookV K C H A D) : ∀ i, (D.upTo i).length ≤ 24 * i
  | 0 => Nat.le_refl _
  | i + 1 => by
    have := upTo_len h i
    have l := lns_len h (ptAt i)
    have := h.len (ptAt i)
    rw [upTo_next, List.length_append]; omega
section
variable {P : Program} {w : World} {K : Frag} {mg : Str → Option Value} {base : Heap} {f C aForms aParts : Addr} {fd : FuncData}
end
end EL

/- part K91H -/
namespace EL
open PySem PySem.Spec PyProof.Rows L2
open PySem.W (Frag)
open TX
abbrev s_read_book : Stmt := top 43
abbrev N_read_book : List Str := ["text", "lines", "events", "witnesses", "parts", "_", "last", "number", "line", "told", "part", "item", "place"]
theorem sc_read_book : FnScope N_read_book ["text"] (defScope s_read_book) := ⟨rfl, rfl, rfl, by decide +kernel, rfl, by decide +kernel, by decide +kernel⟩
local macro_rules | `(tactic| walk_at "el1") => `(tactic| with_reducible first
  | refine a_sasg ?_ | refine a_sdrop ?_ | refine a_saugS ?_ | refine a_spar ?_ | refine a_seq ?_ | refine a_asg ?_ | refine a_drop ?_ | refine a_ret ?_ | refine a_if ?_ | refine a_next ?_
  | refine a_op ?_ | refine a_cons ?_ | refine a_nil ?_ | refine a_cb ?_ | refine a_call ?_ | refine a_c ?_ | refine a_gn ?_ | refine a_nx ?_ | refine a_rt ?_ | refine a_un ?_
  | refine a_test ?_ | refine a_B ?_ | refine a_bl ?_ | refine a_and ?_ | refine a_or ?_ | refine a_not ?_ | refine a_andV ?_ | refine a_orV ?_ | refine a_notV ?_ | refine a_ifx ?_ | refine a_chain ?_
  | refine a_nT ?_ | refine a_nF ?_ | refine a_fld ?_ | refine a_getF ?_ | refine a_T ?_ | refine a_F ?_ | refine a_tup ?_ | refine a_lst ?_ | refine a_sub ?_ | refine a_augS ?_ | refine a_two ?_ | refine a_I0 ?_ | refine a_U ?_ | refine n_add ?_ | refine n_int ?_ | refine n_ib ?_ | refine a_ip ?_ | refine a_rng1 ?_ | refine a_rng2 ?_ | refine a_bm ?_ | refine a_abs ?_ | refine a_pairs ?_ | refine a_pairs0 ?_ | refine a_bk ?_ | refine a_prp ?_ | refine a_lc ?_ | refine a_yes ?_ | refine a_sl ?_ | refine a_nop ?_ | refine a_prt ?_ | refine a_ex1 ?_ | refine a_for ?_ | refine a_sfor ?_ | refine a_iE1 ?_ | refine a_iEs ?_ | refine a_iEz ?_ | refine a_iEnum ?_ | refine a_iTup ?_ | refine a_iList ?_ | refine a_gcons ?_ | refine a_gnil ?_ | refine a_revT ?_ | refine a_spar3 ?_ | refine a_par3 ?_ | refine a_three ?_)
local macro_rules | `(tactic| walk_at "el2") => `(tactic| first
  | (refine a_var (by rfl) ?_)
  | (refine n_ixL (SqL.of (by assumption)) (by rfl) ?_) | (refine n_ixT (SqT.of (by assumption)) (by rfl) ?_) | (refine n_eq (by rfl) ?_) | (refine n_ne (by rfl) ?_)
  | (refine n_isN ?_) | (refine n_notN ?_) | (refine n_isB ?_) | (refine n_notB ?_) | (refine n_isBI ?_) | (refine n_notBI ?_) | (refine n_len (.inl (SqL.of (by assumption))) ?_) | (refine n_len (.inr (SqT.of (by assumption))) ?_)
  | (refine a_getL (SqL.of (by assumption)) (by rfl) ?_)
  | (refine n_isInt (by assumption) ?_) | (refine n_isBool (by assumption) ?_) | (refine n_isStr (by assumption) ?_) | (refine n_isTup (by assumption) ?_) | (refine n_isLst (by assumption) ?_))
local macro_rules | `(tactic| walk_at "el") => `(tactic| repeat (first | walk_at "el1" | walk_at "el2"))

/-! ### what reading comes to -/
theorem Told.uniq {line : Str} {ev wi : Int} {p p' : Pt} {xs xs' : List V} {wd wd' : Str} {r r' : List Str} (h : Told line ev wi p xs wd r) (h' : Told line ev wi p' xs' wd' r') : p = p' ∧ xs = xs' := by
  have e := h.sp.symm.trans h'.sp
  cases e
  have e := h.pt.symm.trans h'.pt
  cases e
  exact ⟨rfl, h.it.trans h'.it.symm⟩
open Classical in
/-- the part and the values that a line tells -/
noncomputable def itemO (line : Str) (ev wi : Int) : Option (Pt × List V) := if h : ∃ q : Pt × List V, ∃ wd r, Told line ev wi q.1 q.2 wd r then some h.choose else none
theorem itemO_of {line : Str} {ev wi : Int} {p : Pt} {xs : List V} {wd : Str} {r : List Str} (h : Told line ev wi p xs wd r) : itemO line ev wi = some (p, xs) := by
  have ex : ∃ q : Pt × List V, ∃ wd r, Told line ev wi q.1 q.2 wd r := ⟨(p, xs), wd, r, h⟩
  unfold itemO
  rw [dif_pos ex]
  obtain ⟨wd', r', h'⟩ := ex.choose_spec
  obtain ⟨e1, e2⟩ := h'.uniq h
  exact congrArg some (Prod.ext e1 e2)
theorem itemO_no {line : Str} {ev wi : Int} (h : ∀ p xs wd r, ¬ Told line ev wi p xs wd r) : itemO line ev wi = none := by
  unfold itemO
  rw [dif_neg (fun ⟨q, wd, r, h'⟩ => h _ _ _ _ h')]
def Pt.ix : Pt → Nat | .tel => 0 | .gap => 1 | .sur => 2 | .cla => 3
abbrev Acc := Pt → List (List V)
def addR (acc : Acc) (p : Pt) (xs : List V) : Acc := fun u => if u = p then acc u ++ [xs] else acc u
/-- the items of lines, or the first line that is wrong -/
noncomputable def readL (ev wi : Int) : List Str → Nat → Nat → Acc → Acc ⊕ Nat
  | [], _, _, acc => .inl acc
  | line :: r, n, last, acc => match itemO line ev wi with
    | none => .inr n
    | some (p, xs) => if p.ix < last ∨ (acc p).length = 20 then .inr n else readL ev wi r (n + 1) p.ix (addR acc p xs)
theorem sizeO_some {ws : List Str} {word : Str} {m n : Int} (h : sizeO ws word m = some n) : 0 ≤ n ∧ n ≤ m := by
  unfold sizeO at h
  split at h
  · split at h
    · split at h
      · rename_i q; cases h; exact q
      · cases h
    · cases h
  · cases h
def sizeAt (ls : List Str) (k : Nat) (word : Str) : Option Int := match ls[k]? with | some l => sizeO (Txt.split l sp1) word 8 | none => none
noncomputable def readO (z : Str) : (Int × Int × Acc) ⊕ Nat := match sizeAt (lanes z) 0 "events" with
  | none => .inr 1
  | some ev => match sizeAt (lanes z) 1 "witnesses" with
    | none => .inr 2
    | some wi => match readL ev wi ((lanes z).drop 2) 3 0 (fun _ => []) with
      | .inr n => .inr n
      | .inl acc => .inl (ev, wi, acc)
theorem strs_shp {zs : List Str} (h : ∀ z ∈ zs, okS9 z) : SeqAt.shaped (.list (zs.map PyData.str)) = true := by
  have a : PyData.canLayAll0 (zs.map PyData.str) = true := by
    induction zs with
    | nil => rfl
    | cons z r ih =>
      have hz : PyData.strOk z = true := by
        unfold PyData.strOk
        rw [Array.all_eq_true']
        exact fun x hx => decide_eq_true (h z List.mem_cons_self x (by simpa using hx))
      show (PyData.strOk z && PyData.canLayAll0 (r.map PyData.str)) = true
      rw [hz, ih fun x hx => h x (List.mem_cons_of_mem _ hx)]; rfl
  have b : PyData.depthAll (zs.map PyData.str) ≤ 0 := by
    clear h a
    induction zs with
    | nil => exact Nat.le_refl _
    | cons z r ih =>
      show max 0 (PyData.depthAll (r.map PyData.str)) ≤ 0
      exact Nat.max_le.mpr ⟨Nat.le_refl _, ih⟩
  show (PyData.canLayAll0 (zs.map PyData.str) && decide (PyData.depthAll (zs.map PyData.str) + 1 ≤ 64)) = true
  rw [a, decide_eq_true (by omega)]; rfl
theorem flat_mem9 {c : Nat} : ∀ {ws : List (List Nat)} {l : List Nat} {x : Nat}, l ∈ ws → x ∈ l → x ∈ flat c ws
  | [a], l, x, h, hx => by rcases List.mem_singleton.mp h with rfl; exact hx
  | a :: b :: r, l, x, h, hx => by
    show x ∈ a ++ c :: flat c (b :: r)
    rcases List.mem_cons.mp h with rfl | h
    · exact List.mem_append_left _ hx
    · exact List.mem_append_right _ (List.mem_cons_of_mem _ (flat_mem9 h hx))
theorem split_ok9 {z p : Str} {c : Nat} (h : okS9 z) (hp : p ∈ Txt.split z ⟨#[c]⟩) : okS9 p := fun x hx => by
  refine h x ?_
  have e := congrArg (fun s : Str => s.cps.toList) (StrLaws.join_split z ⟨#[c]⟩)
  rw [← e, flat_of]
  exact flat_mem9 (List.mem_map_of_mem (f := fun s : Str => s.cps.toList) hp) hx
theorem a_esL {K : Frag} {k : Int} {ta : TA} {σ : L2.St} {H : Hp} {R : It → Hp → Prop} (q : ta σ H fun vs H1 => ∃ a xs, vs = [.ref a] ∧ SqL K H1 a xs ∧ R (ItesL K a k) H1) : iEsL K k ta σ H R := q
theorem rows_mv {H H' : Hp} {xs : List V} {D : List (List V)} (h : RowsAre id H xs D) (m : ∀ q ys, H q = some (.tup ys) → H' q = some (.tup ys)) : RowsAre id H' xs D := ⟨h.len, fun i v hv => by
  obtain ⟨q, x, e, hx, hq⟩ := h.at_ i v hv
  exact ⟨q, x, e, hx, m _ _ hq⟩⟩
theorem item_mv {p : Pt} {H H' : Hp} {x : V} {ev wi : Int} (h : ItemOk p H x ev wi) (m : ∀ q ys, H q = some (.tup ys) → H' q = some (.tup ys)) : ItemOk p H' x ev wi := by
  obtain ⟨a, xs, e, ha, r⟩ := h
  exact ⟨a, xs, e, m _ _ ha, r⟩
theorem rows_app {H : Hp} {xs : List V} {D : List (List V)} {q : Addr} {ys : List V} (h : RowsAre id H xs D) (hq : H q = some (.tup ys)) : RowsAre id H (xs ++ [.ref q]) (D ++ [ys]) := ⟨by rw [List.length_append, List.length_append, h.len]; rfl, fun i v hv => by
  by_cases c : i < xs.length
  · rw [List.getElem?_append_left c] at hv
    obtain ⟨q', x, e, hx, hq'⟩ := h.at_ i v hv
    exact ⟨q', x, e, by rw [List.getElem?_append_left (by rw [← h.len]; exact c)]; exact hx, hq'⟩
  · rw [List.getElem?_append_right (by omega)] at hv
    have e : i - xs.length = 0 := by
      have := (List.getElem?_eq_some_iff.mp hv).1
      simp at this; omega
    rw [e] at hv
    cases hv
    exact ⟨q, ys, rfl, by rw [List.getElem?_append_right (by rw [← h.len]; omega), ← h.len, e]; rfl, hq⟩⟩
/-- a book that is read: its items, each a new tuple of these values -/
def spRb (K : Frag) (C Cx aPB : Addr) : Sp := fun vs H Q E => ∃ x, vs = [x] ∧ Th K H x ∧ ((∀ z, x ≠ .str z) → tooF H E Cx 1) ∧ ∀ z, x = .str z → z.length ≤ 7000000 ∧ okS9 z ∧
  (∀ line ∈ (lanes z).drop 2, ∀ wd rest, Txt.split line sp1 = wd :: rest → partW wd = none → PySem.W.nsIn K aPB wd = some none) ∧
  (match readO z with
  | .inr n => tooF H E Cx n
  | .inl (ev, wi, acc) => 0 ≤ ev → ev ≤ 8 → 0 ≤ wi → wi ≤ 8 → ∀ (o dx t g s q : Addr) (xs : Pt → List V) H', Same H H' → H o = none → H' o = some (bookO C dx ev wi t g s q) → SqT K H' t (xs .tel) → SqT K H' g (xs .gap) → SqT K H' s (xs .sur) → SqT K H' q (xs .cla) →
      (∀ u, RowsAre id H' (xs u) (acc u)) → (∀ u, (xs u).length ≤ 20) → (∀ u, ∀ x ∈ xs u, ItemOk u H' x ev wi) → Q (.ref o) H')
section
variable {P : Program} {w : World} {K : Frag} {mg : Str → Option Value} {base : Heap} {f C C_NoText aForms aParts aPB : Addr} {fd : FuncData} {Dk : BookD}
theorem ok_read_book (F : Fun K "read_book" "read_book" s_read_book f fd) (T : BoT K w mg aForms aParts) (lP : ∃ o, K.lookup aParts = some o ∧ o.cls = .type "tuple" ∧ o.dict = none) (kTo : ∃ u, mg "MOST_TOLD" = some u ∧ L2.RelV (.int 20) u) (c__lines_of : Cal P w K mg base (L2.CX P w) 3 "_lines_of" ["text"] (spLo K C_NoText))
    (c__size_in : Cal P w K mg base (L2.CX P w) 3 "_size_in" ["lines", "at", "word", "most"] (spSz K C_NoText)) (c_item_of : Cal P w K mg base CX0 6 "item_of" ["line", "events", "witnesses"] (spIof K aPB)) (c_Book : BookG P w K mg base C Dk) (c_NoText : ErrG P w K mg base "NoText" C_NoText ["self", "line"] (spErr1 C_NoText "line")) :
    FnOk P w K mg base (L2.CX P w) 9 f fd ["text"] (spRb K C C_NoText aPB) := by
  refine F.okX sc_read_book (fun vs H Q E h => ?_) (fun cdv A outer s H vs Q E hr h => ?_)
  · obtain ⟨_, rfl, _⟩ := h
    rfl
  · obtain ⟨x, rfl, th, k1, k2⟩ := h
    refine ⟨_, (pss_cons (ps_set (i := 1) sc_read_book.nd rfl (Or.inl rfl) (pe_cal c__lines_of (hr.mono (by decide)) (passE (takes_of rfl rfl rfl rfl)) (pa_cons (pv 0) pa_nil)))
  (pss_cons (ps_set (i := 2) sc_read_book.nd rfl (Or.inl rfl) (pe_cal c__size_in (hr.mono (by decide)) (passE (takes_of rfl rfl rfl rfl)) (pa_cons (pv 1) (pa_cons pe_int (pa_cons pe_str (pa_cons (pe_gc (v := .int 8) rfl T.k_MOST_EVENTS) pa_nil))))))
  (pss_cons (ps_set (i := 3) sc_read_book.nd rfl (Or.inl rfl) (pe_cal c__size_in (hr.mono (by decide)) (passE (takes_of rfl rfl rfl rfl)) (pa_cons (pv 1) (pa_cons pe_int (pa_cons pe_str (pa_cons (pe_gc (v := .int 8) rfl T.k_MOST_WITNESSES) pa_nil))))))
  (pss_cons (ps_setLc (i := 4) (own := [("_", 5)]) rfl sc_read_book.nd rfl rfl (sw_true rfl rfl rfl (by decide +kernel)) (u_iter (pe_glob (v := .ref aParts) rfl T.gParts rfl)) (blkOk_by (own := [("_", 5)]) (N := N_read_book) (sc := defScope s_read_book) (by decide +kernel)) (fun _ _ _ _ _ => (pg_name (i := 5) sc_read_book.nd rfl (Or.inl rfl))) (fun _ _ _ _ _ => pts_nil) (fun _ _ _ _ _ => (pe_lst pa_nil)))
  (pss_cons (ps_set (i := 6) sc_read_book.nd rfl (Or.inl rfl) pe_int)
  (pss_cons (ps_for (passes_of rfl) rfl (pi_esL rfl T.b.enumerate_ (pa_cons (pe_slice u_slice (pv 1) (po_some pe_int) po_none) pa_nil) (by decide) (by decide)) (pg_tup rfl (pgs_cons (pg_name (i := 7) sc_read_book.nd rfl (Or.inl rfl)) (pgs_cons (pg_name (i := 8) sc_read_book.nd rfl (Or.inl rfl)) pgs_nil)))
    (pss_cons (ps_set (i := 9) sc_read_book.nd rfl (Or.inl rfl) (pe_cal c_item_of (hr.mono (by decide)) pass0 (pa_cons (pv 8) (pa_cons (pv 2) (pa_cons (pv 3) pa_nil)))))
  (pss_cons (ps_if (pt_cmpR u_is (pv 9) pe_non (nomark _))
    (pss_one (ps_rz c_NoText (hr.mono (by decide)) rfl (takes_of rfl rfl rfl rfl) (pa_cons (pv 7) pa_nil)))
    pss_nil)
  (pss_cons (ps_asg (pv 9) (pg_tup rfl (pgs_cons (pg_name (i := 10) sc_read_book.nd rfl (Or.inl rfl)) (pgs_cons (pg_name (i := 11) sc_read_book.nd rfl (Or.inl rfl)) pgs_nil))))
  (pss_cons (ps_set (i := 12) sc_read_book.nd rfl (Or.inl rfl) (pe_bm PySem.F.plainAttrs_tuple PySem.F.slot_tuple_index PySem.F.type_tuple_index mt_tup_index (pe_glob (v := .ref aParts) rfl T.gParts rfl) (pa_cons (pv 10) pa_nil)))
  (pss_cons (ps_if (PW.pt (pw_or (pt_cmpR op_lt (pv 12) (pv 6) (nomark _)) (pw_or1 (pt_cmpR (u_eq hr.units) (pe_callB u_len rfl T.b.len_ boot_len (pa_cons (pe_ix ix_seq (pv 4) (pv 12) (fun _ _ => rfl)) pa_nil)) (pe_gc (v := .int 20) rfl kTo) (nomark _)))))
    (pss_one (ps_rz c_NoText (hr.mono (by decide)) rfl (takes_of rfl rfl rfl rfl) (pa_cons (pv 7) pa_nil)))
    pss_nil)
  (pss_cons (ps_expr (pe_bm PySem.F.plainAttrs_list PySem.F.slot_list_append PySem.F.type_list_append mt_append (pe_ix ix_seq (pv 4) (pv 12) (fun _ _ => rfl)) (pa_cons (pv 11) pa_nil)))
  (pss_one (ps_set (i := 6) sc_read_book.nd rfl (Or.inl rfl) (pv 12))))))))))
  (pss_one (ps_ret (pe_bk6S c_Book (hr.mono (by decide)) rfl (pa_cons (pv 2) (pa_cons (pv 3) (StX.pa_star (pv 4) pa_nil)))))))))))), ?_⟩
    have hs0 : sizeLine = 16777216 := rfl
    walk_at "el"
    refine ⟨x, rfl, th, k1, fun z hx => ?_⟩
    obtain ⟨hl, hok, pn, k⟩ := k2 z hx
    refine ⟨hl, fun H1 p s1 np hp => ?_⟩
    have lk : ∀ l ∈ lanes z, l.length ≤ 7000000 := fun l h => Nat.le_trans (split_mem z 10 (p := l) h) hl
    have lo : ∀ l ∈ lanes z, okS9 l := fun l h => split_ok9 (c := 10) hok h
    have szAsk : ∀ {H2 : Hp} {Q2 : VK} {E2 : XK} (k : Nat) (word : Str), Same H1 H2 → k ≤ (lanes z).length → okS9 word → (sizeAt (lanes z) k word = none → tooF H2 E2 C_NoText (k + 1)) → (∀ n, sizeAt (lanes z) k word = some n → ∀ H', Same H2 H' → Q2 (.int n) H') →
        spSz K C_NoText [.ref p, .int (k : Int), .str word, .int 8] H2 Q2 E2 := fun {H2 Q2 E2} k word s2 hk hw a b => by
      refine ⟨p, lanes z, k, word, 8, rfl, s2 _ _ hp, hk, fun e => a (by unfold sizeAt; rw [e, List.getElem?_eq_none (Nat.le_refl _)]), fun l hl0 => ?_⟩
      have m := List.mem_of_getElem? hl0
      refine ⟨lk l m, strs_shp fun y hy => split_ok9 (c := 32) (lo l m) (List.dropLast_sublist _ |>.subset hy), strs_shp (zs := [word]) (all_cons hw all_nil), ?_⟩
      have e : sizeAt (lanes z) k word = sizeO (Txt.split l sp1) word 8 := by unfold sizeAt; rw [hl0]
      rw [e] at a b
      cases h : sizeO (Txt.split l sp1) word 8 with
      | none => exact a h
      | some n => exact b n h
    have K0 : sizeAt (lanes z) 0 "events" = none → tooF H E C_NoText 1 := fun h => by
      unfold readO at k; rw [h] at k; exact k
    have K1 : ∀ ev, sizeAt (lanes z) 0 "events" = some ev → sizeAt (lanes z) 1 "witnesses" = none → tooF H E C_NoText 2 := fun ev h h2 => by
      unfold readO at k; rw [h] at k; dsimp only at k; rw [h2] at k; exact k
    have lne := lanes_ne z
    have l1 : 1 ≤ (lanes z).length := by rw [lne]; simp
    walk_at "el"
    refine szAsk 0 "events" (Same.refl _) (Nat.zero_le _) wordy_lit.1.ok (fun h => (K0 h).mono s1) fun ev hev H2 s2 => ?_
    obtain ⟨e0, e8⟩ : 0 ≤ ev ∧ ev ≤ 8 := by
      unfold sizeAt at hev
      split at hev
      · exact sizeO_some hev
      · cases hev
    walk_at "el"
    refine szAsk 1 "witnesses" s2 l1 wordy_lit.2.1.ok (fun h => (K1 ev hev h).mono (s1.trans s2)) fun wi hwi H3 s3 => ?_
    obtain ⟨w0, w8⟩ : 0 ≤ wi ∧ wi ≤ 8 := by
      unfold sizeAt at hwi
      split at hwi
      · exact sizeO_some hwi
      · cases hwi
    have s13 := (s1.trans s2).trans s3
    have hp3 := s3 _ _ (s2 _ _ hp)
    have K2 : ∀ n, readL ev wi ((lanes z).drop 2) 3 0 (fun _ => []) = .inr n → tooF H3 E C_NoText n := fun n h => by
      unfold readO at k; rw [hev] at k; dsimp only at k; rw [hwi] at k; dsimp only at k; rw [h] at k; exact tooF.mono k s13
    have K3 : ∀ acc, readL ev wi ((lanes z).drop 2) 3 0 (fun _ => []) = .inl acc → ∀ (o dx t g s q : Addr) (xs : Pt → List V) H', Same H3 H' → H3 o = none → H' o = some (bookO C dx ev wi t g s q) → SqT K H' t (xs .tel) → SqT K H' g (xs .gap) → SqT K H' s (xs .sur) → SqT K H' q (xs .cla) →
      (∀ u, RowsAre id H' (xs u) (acc u)) → (∀ u, (xs u).length ≤ 20) → (∀ u, ∀ x ∈ xs u, ItemOk u H' x ev wi) → Q (.ref o) H' := fun acc h o dx t g s q xs H' s' no => by
      unfold readO at k; rw [hev] at k; dsimp only at k; rw [hwi] at k; dsimp only at k; rw [h] at k
      exact k e0 e8 w0 w8 o dx t g s q xs H' (s13.trans s') (none_b s13 no)
    clear k K0 K1 szAsk k1 k2
    have prt : ∀ H, SqT K H aParts [V.str Pt.tel.name, V.str Pt.gap.name, V.str Pt.sur.name, V.str Pt.cla.name] := T.parts
    walk_at "el"
    refine .inr ?_
    walk_at "el"
    refine ⟨aParts, rfl, ⟨_, prt _⟩, fun D0 hD0 => ?_⟩
    have d0 := nw_of hD0 (.lst [])
    refine lc_of (walk_tup (xs := [V.str Pt.tel.name, V.str Pt.gap.name, V.str Pt.sur.name, V.str Pt.cla.name])) (fun i H4 => Same H3 H4 ∧ ∃ as : List Addr, as.length = i ∧ as.Nodup ∧ H4 D0 = some (.lst (as.map V.ref)) ∧ ∀ a ∈ as, H3 a = none ∧ a ≠ D0 ∧ H4 a = some (.lst [])) ⟨d0, [], rfl, List.nodup_nil, upd_same, fun _ h => nomatch h⟩ (fun i H4 hi h => prt H4) ?_ ?_
    · rintro i y H4 H5 hi ⟨s4, as, la, nda, d4, ha⟩ ⟨rfl, hy⟩
      have hi4 : i < 4 := hi
      walk_at "el"
      refine ⟨rfl, ?_⟩
      walk_at "el"
      refine ⟨by show 0 ≤ sizeLine; decide, fun q hq => ?_⟩
      have e5 := nw_of hq (.lst [])
      have qD : q ≠ D0 := fun e => by rw [e, d4] at hq; cases hq
      have qa : q ∉ as := fun m => by rw [(ha q m).2.2] at hq; cases hq
      refine ⟨_, e5 _ _ d4, by rw [List.length_map]; omega, L2.Same.mu (s4.trans e5) hD0, as ++ [q], by rw [List.length_append, la]; rfl, ?_, ?_, ?_⟩
      · rw [List.nodup_append]
        exact ⟨nda, (by simp), fun a h b hb e => qa (by rw [List.mem_singleton.mp hb] at e; exact e ▸ h)⟩
      · rw [upd_same, List.map_append]; rfl
      · refine all_app (fun a h => ?_) (all_cons ⟨none_b s4 hq, qD, by rw [upd_ne qD]; exact upd_same⟩ all_nil)
        obtain ⟨h1, h2, h3⟩ := ha a h
        exact ⟨h1, h2, by rw [upd_ne h2]; exact e5 _ _ h3⟩
    · rintro H4 ⟨s4, as, la, nda, d4, ha⟩
      obtain ⟨l, hD4, inj, hl4⟩ : ∃ l : Pt → Addr, H4 D0 = some (.lst [.ref (l .tel), .ref (l .gap), .ref (l .sur), .ref (l .cla)]) ∧ (∀ u v, u ≠ v → l u ≠ l v) ∧ ∀ u, H3 (l u) = none ∧ l u ≠ D0 ∧ H4 (l u) = some (.lst []) := by
        match as, la, nda, d4, ha with
        | [a0, a1, a2, a3], _, nda, d4, ha =>
          refine ⟨lOf a0 a1 a2 a3, d4, ?_, ?_⟩
          · simp only [List.nodup_cons, List.mem_cons, List.not_mem_nil, or_false, not_or] at nda
            obtain ⟨⟨n1, n2, n3⟩, ⟨n4, n5⟩, n6, _⟩ := nda
            intro u v h
            cases u <;> cases v <;> first | exact absurd rfl h | exact n1 | exact n2 | exact n3 | exact n4 | exact n5 | exact n6 | exact Ne.symm n1 | exact Ne.symm n2 | exact Ne.symm n3 | exact Ne.symm n4 | exact Ne.symm n5 | exact Ne.symm n6
          · intro u
            cases u <;> exact ha _ (by simp [lOf])
      clear nda la d4 ha as d0
      have hp4 := s4 _ _ hp3
      walk_at "el"
      refine a_esL ?_
      walk_at "el"
      refine .inl ⟨p, _, rfl, SqL.of hp4, fun q hq => ?_⟩
      have e5 := nw_of hq (.lst (((lanes z).drop 2).map V.str))
      have g5 := upd_at hq (.lst (((lanes z).drop 2).map V.str))
      rw [show cutV ((lanes z).map V.str) (some 2) none = ((lanes z).drop 2).map V.str from by rw [show (2 : Int) = ((2 : Nat) : Int) from rfl, cut_from, List.map_drop]]
      have hD5 := e5 _ _ hD4
      have hl5 : ∀ u, upd H4 q (.lst (((lanes z).drop 2).map V.str)) (l u) = some (.lst []) := fun u => e5 _ _ (hl4 u).2.2
      have s35 := s4.trans e5
      have ql : ∀ u, q ≠ l u := fun u e => by rw [e, (hl4 u).2.2] at hq; cases hq
      have qD : q ≠ D0 := fun e => by rw [e, hD4] at hq; cases hq
      have nl3 : ∀ u, H3 (l u) = none := fun u => (hl4 u).1
      have lD : ∀ u, l u ≠ D0 := fun u => (hl4 u).2.1
      generalize upd H4 q (.lst (((lanes z).drop 2).map V.str)) = H5 at g5 hD5 hl5 s35 ⊢
      clear e5 hD4 hl4 s4 hp4 hq
      refine ⟨q, _, rfl, SqL.of g5, ?_⟩
      refine lp_it (walk_esL (xs := ((lanes z).drop 2).map V.str)) (fun i σ H6 => Same H3 H6 ∧ H6 q = some (.lst (((lanes z).drop 2).map V.str)) ∧ H6 D0 = some (.lst [.ref (l .tel), .ref (l .gap), .ref (l .sur), .ref (l .cla)]) ∧ ∃ (xs : Pt → List V) (acc : Acc) (last : Nat), (∀ u, H6 (l u) = some (.lst (xs u))) ∧ (∀ u, RowsAre id H6 (xs u) (acc u)) ∧ (∀ u, (xs u).length ≤ 20) ∧ (∀ u, ∀ x ∈ xs u, ItemOk u H6 x ev wi) ∧
          readL ev wi ((lanes z).drop 2) 3 0 (fun _ => []) = readL ev wi (((lanes z).drop 2).drop i) (3 + i) last acc ∧ ∃ v5 v7 v8 v9 v10 v11 v12, σ = [some x, some (.ref p), some (.int ev), some (.int wi), some (.ref D0), v5, some (.int (last : Int)), v7, v8, v9, v10, v11, v12])
        ⟨s35, g5, hD5, fun _ => [], fun _ => [], 0, hl5, fun u => ⟨rfl, fun i v h => by cases h⟩, fun u => Nat.zero_le _, (fun u x h => nomatch h), rfl, _, _, _, _, _, _, _, rfl⟩ (fun i σ H6 hi h => SqL.of h.2.1) ?_ ?_
      · rintro i y σ H6 H7 hi ⟨s6, g6, hD6, xs, acc, last, hl6, rw6, ln6, it6, rd, v5, v7, v8, v9, v10, v11, v12, rfl⟩ ⟨t, y, rfl, ht, rfl, hy⟩
        obtain ⟨line, hline, rfl⟩ : ∃ w', ((lanes z).drop 2)[i]? = some w' ∧ V.str w' = y := by
          rw [List.getElem?_map] at hy
          cases e : ((lanes z).drop 2)[i]? with
          | none => rw [e] at hy; cases hy
          | some w' => rw [e] at hy; cases hy; exact ⟨w', rfl, rfl⟩
        have lin : line ∈ lanes z := List.mem_of_mem_drop (List.mem_of_getElem? hline)
        have e7 := nw_of ht (.tup [.int ((3 : Int) + i), .str line])
        have g7 := upd_at ht (.tup [.int ((3 : Int) + i), .str line])
        generalize upd H6 t (.tup [.int ((3 : Int) + i), .str line]) = H7 at e7 g7 ⊢
        have dr : ((lanes z).drop 2).drop i = line :: ((lanes z).drop 2).drop (i + 1) := by
          obtain ⟨hh, e⟩ := List.getElem?_eq_some_iff.mp hline
          rw [← e]; exact List.drop_eq_getElem_cons hh
        rw [dr] at rd
        refine a_gtup (SqT.of g7) rfl ?_
        walk_at "el"
        refine ⟨line, ev, wi, rfl, lk line lin, e0, e8, w0, w8, pn line (List.mem_of_getElem? hline), fun no H8 s8 => ?_, fun pt ys wd rest told H8 tt a s8 htt ha => ?_⟩
        · have rd' : readL ev wi ((lanes z).drop 2) 3 0 (fun _ => []) = .inr (3 + i) := by
            rw [rd]; unfold readL; rw [itemO_no no]
          walk_at "el"
          exact n_err1 fun d hd => (by have := K2 _ rd' H8 d ((s6.trans e7).trans s8) hd; rw [show ((3 + i : Nat) : Int) = 3 + (i : Int) from by omega] at this; exact this)
        · have rd2 : readL ev wi ((lanes z).drop 2) 3 0 (fun _ => []) = if pt.ix < last ∨ (acc pt).length = 20 then .inr (3 + i) else readL ev wi (((lanes z).drop 2).drop (i + 1)) (3 + i + 1) pt.ix (addR acc pt ys) := by
            rw [rd]; conv => lhs; unfold readL
            rw [itemO_of told]
          have s78 := e7.trans s8
          have s38 := s6.trans s78
          have hD8 := s78 _ _ hD6
          have hl8 : ∀ u, H8 (l u) = some (.lst (xs u)) := fun u => s78 _ _ (hl6 u)
          have g8 := s78 _ _ g6
          have rw8 : ∀ u, RowsAre id H8 (xs u) (acc u) := fun u => (rw6 u).same s78
          have it8 : ∀ u, ∀ x ∈ xs u, ItemOk u H8 x ev wi := fun u x hx => (it6 u x hx).same s78
          have okn : ItemOk pt H8 (.ref a) ev wi := ⟨a, ys, rfl, ha, told.ln, told.st⟩
          clear hl6 g6 hD6 it6 rw6 rd s6 e7 g7 ht s78 s8
          walk_at "el"
          rw [decide_eq_false (fun c => by cases c)]
          walk_at "el"
          refine a_gtup (SqT.of htt) rfl ?_
          walk_at "el"
          refine ⟨.inr (.inl ⟨rfl, lP⟩), ?_⟩
          walk_at "el"
          refine ⟨aParts, [Pt.tel.name, Pt.gap.name, Pt.sur.name, Pt.cla.name], pt.name, pt.ix, rfl, rfl, prt _, by cases pt <;> rfl, fun m hm => ?_, ?_⟩
          · rcases pt with _ | _ | _ | _
            · exact absurd hm (Nat.not_lt_zero _)
            · obtain rfl : m = 0 := Nat.lt_one_iff.mp hm
              decide +kernel
            · obtain rfl | rfl : m = 0 ∨ m = 1 := by have : m < 2 := hm; omega
              · decide +kernel
              · decide +kernel
            · obtain rfl | rfl | rfl : m = 0 ∨ m = 1 ∨ m = 2 := by have : m < 3 := hm; omega
              · decide +kernel
              · decide +kernel
              · decide +kernel
          walk_at "el"
          have hix : ([V.ref (l .tel), .ref (l .gap), .ref (l .sur), .ref (l .cla)] : List V)[pt.ix]? = some (.ref (l pt)) := by cases pt <;> rfl
          have bad : (pt.ix < last ∨ (acc pt).length = 20) → ∀ {Hx : Hp} {d : Addr}, Same H3 Hx → Hx d = none → E (.ref C_NoText) (some d) (upd Hx d (.xd [("line", .int (3 + (i : Int)))])) := fun c Hx d sx hd => by
            have := K2 (3 + i) (by rw [rd2, if_pos c]) Hx d sx hd
            rw [show ((3 + i : Nat) : Int) = 3 + (i : Int) from by omega] at this; exact this
          have lac := (rw8 pt).len
          refine ite2 (fun c1 => ?_) (fun c1 => ?_)
          · have c1' := of_decide_eq_true c1
            walk_at "el"
            exact n_err1 fun d hd => bad (.inl (by omega)) s38 hd
          · have c1' := of_decide_eq_false (Bool.not_eq_true _ |>.mp c1)
            walk_at "el"
            refine n_ixL (SqL.of hD8) (atI_nat hix) ?_
            walk_at "el"
            refine n_len (.inl (SqL.of (hl8 pt))) ?_
            walk_at "el"
            by_cases c2 : (xs pt).length = 20
            · rw [show decide (V.int ((xs pt).length : Int) = V.int 20) = true from decide_eq_true (by rw [c2]; rfl)]
              walk_at "el"
              exact n_err1 fun d hd => bad (.inr (by omega)) s38 hd
            · rw [show decide (V.int ((xs pt).length : Int) = V.int 20) = false from decide_eq_false fun c => c2 (by have := V.int.inj c; omega)]
              walk_at "el"
              have rd3 : readL ev wi ((lanes z).drop 2) 3 0 (fun _ => []) = readL ev wi (((lanes z).drop 2).drop (i + 1)) (3 + i + 1) pt.ix (addR acc pt ys) := by
                rw [rd2, if_neg]; rintro (c | c) <;> omega
              refine n_ixL (SqL.of hD8) (atI_nat hix) ?_
              refine ⟨.inl ⟨rfl, _, SqL.of (hl8 pt)⟩, ?_⟩
              walk_at "el"
              have l20 := ln6 pt
              refine ⟨l pt, _, .ref a, rfl, rfl, hl8 pt, by omega, ?_⟩
              walk_at "el"
              have mv : ∀ (q' : Addr) (zs : List V), H8 q' = some (.tup zs) → upd H8 (l pt) (.lst (xs pt ++ [.ref a])) q' = some (.tup zs) := fun q' zs h => by
                rw [upd_ne fun e => by rw [e, hl8 pt] at h; cases h]; exact h
              refine ⟨L2.Same.mu s38 (nl3 pt), by rw [upd_ne (ql pt)]; exact g8, by rw [upd_ne (lD pt).symm]; exact hD8, setP xs pt (xs pt ++ [.ref a]), addR acc pt ys, pt.ix, fun u => ?_, fun u => ?_, fun u => ?_, fun u x hx => ?_, rd3, _, _, _, _, _, _, _, rfl⟩
              · by_cases e : u = pt
                · subst e; rw [upd_same, setP_at]
                · rw [upd_ne (inj u pt e), setP_ne e]; exact hl8 u
              · by_cases e : u = pt
                · subst e
                  rw [setP_at]; unfold addR; rw [if_pos rfl]
                  exact rows_app (rows_mv (rw8 u) mv) (mv _ _ ha)
                · rw [setP_ne e]; unfold addR; rw [if_neg e]
                  exact rows_mv (rw8 u) mv
              · by_cases e : u = pt
                · subst e; rw [setP_at, List.length_append]; show _ + 1 ≤ 20; omega
                · rw [setP_ne e]; exact ln6 u
              · by_cases e : u = pt
                · subst e; rw [setP_at] at hx
                  rcases List.mem_append.mp hx with hx | hx
                  · exact item_mv (it8 u x hx) mv
                  · rw [List.mem_singleton.mp hx]; exact item_mv okn mv
                · rw [setP_ne e] at hx; exact item_mv (it8 u x hx) mv
      · rintro σ H6 ⟨s6, g6, hD6, xs, acc, last, hl6, rw6, ln6, it6, rd, v5, v7, v8, v9, v10, v11, v12, rfl⟩
        walk_at "el"
        have rd' : readL ev wi ((lanes z).drop 2) 3 0 (fun _ => []) = .inl acc := by
          rw [rd, List.length_map, List.drop_length]; rfl
        refine ⟨D0, _, rfl, .inr (SqL.of hD6), ?_⟩
        walk_at "el"
        have po : ∀ u, PartOk K u H6 (l u) (xs u) ev wi := fun u => ⟨.inl (hl6 u), Nat.le_trans (ln6 u) (by decide), it6 u⟩
        refine n_bk6 e0 e8 w0 w8 (po .tel) (po .gap) (po .sur) (po .cla) fun o dx t g s' q' H8 s8 ho ho' h1 h2 h3 h4 => ?_
        exact K3 acc rd' o dx t g s' q' xs H8 (s6.trans s8) (none_b s6 ho) ho' h1 h2 h3 h4 (fun u => (rw6 u).same s8) ln6 fun u x hx => (it6 u x hx).same s8
end
end EL

/- part K91I -/
namespace EL
open PySem PySem.Spec PyProof.Rows L2
open PySem.W (Frag)
open TX
/-! ### the text of a book is read as the book -/
def encA (D : PD) : Acc
  | .tel => D.T.map encT
  | .gap => D.G.map encT
  | .sur => D.S.map encS
  | .cla => D.L.map encL
/-- no number is greater than texts may tell -/
structure LoD (D : PD) : Prop where
  t : ∀ x ∈ D.T, x.2.2.natAbs ≤ 1000000000000
  g : ∀ x ∈ D.G, x.2.2.natAbs ≤ 1000000000000
  s : ∀ x ∈ D.S, x.2.2.natAbs ≤ 1000000000000
/-- each item stands -/
def StD (D : PD) (ev wi : Int) : Prop := ∀ p, ∀ ys ∈ encA D p, ys.length = p.form.length ∧ StandsTo p ys ev wi p.form.length
theorem std_of {H : Hp} {xs : Pt → List V} {D : PD} {ev wi : Int} (R : PR H xs D) (it : ∀ t, ∀ x ∈ xs t, ItemOk t H x ev wi) : StD D ev wi := fun p ys hy => by
  have key : ∀ {α : Type} {enc : α → List V} {E : List α}, RowsAre enc H (xs p) E → ∀ y ∈ E, (enc y).length = p.form.length ∧ StandsTo p (enc y) ev wi p.form.length := fun {α enc E} r y hy => by
    obtain ⟨i, hi, e⟩ := List.getElem_of_mem hy
    obtain ⟨q, hv, hq⟩ := r.get (i := i) (x := y) (by rw [List.getElem?_eq_getElem hi, e])
    obtain ⟨a, zs, ea, ha, hl, hs⟩ := it p _ (List.mem_of_getElem? hv)
    cases ea
    rw [hq] at ha; cases ha
    exact ⟨hl, hs⟩
  cases p <;> (obtain ⟨y, hy', rfl⟩ := List.mem_map.mp hy)
  · exact key R.t y hy'
  · exact key R.g y hy'
  · exact key R.s y hy'
  · exact key R.l y hy'
theorem v1_show {n : Int} (h : n.natAbs < 10 ^ 40) : valV1 (showI n) = .int n := by
  have i := intW_show h
  have k : kindB (.str (showI n)) = false := by
    cases c : kindB (.str (showI n)) with
    | false => rfl
    | true =>
      exfalso
      have q : (decide (showI n = "early") || decide (showI n = "late")) = true := c
      rw [Bool.or_eq_true, decide_eq_true_iff, decide_eq_true_iff] at q
      have e1 : intW "early" = none := by decide +kernel
      have e2 : intW "late" = none := by decide +kernel
      rcases q with q | q
      · rw [q, e1] at i; cases i
      · rw [q, e2] at i; cases i
  unfold valV1
  rw [k, i]; rfl
theorem v1_kind {s : Str} (h : s = "early" ∨ s = "late") : valV1 s = .str s := by
  unfold valV1
  rw [if_pos]
  show (decide (s = "early") || decide (s = "late")) = true
  rcases h with rfl | rfl <;> decide +kernel
section
variable {D : PD} {ev wi : Int}
theorem told_T (ok : D.Ok ev wi) (e8 : ev ≤ 8) (w8 : wi ≤ 8) (st : StD D ev wi) (lo : LoD D) {x : Int × Int × Int} (hx : x ∈ D.T) : ∃ wd r, Told (lineS (wT x)) ev wi .tel (encT x) wd r := by
  obtain ⟨a, b, c⟩ := ok.t x hx
  obtain ⟨s1, s2⟩ := st .tel (encT x) (List.mem_map_of_mem hx)
  refine ⟨"tell", [showI x.1, showI x.2.1, showI x.2.2], (liny_T ok e8 w8 hx).split, by decide +kernel, ?_, s1, s2, .inr ⟨x.2.2, rfl, lo.t x hx⟩, rfl⟩
  unfold itemV
  rw [if_neg (by decide +kernel), if_neg (by decide +kernel)]
  show _ = [valV1 _, valV1 _, valV1 _]
  rw [v1_show (idx40 a w8), v1_show (idx40 b e8), v1_show (num40 c)]
theorem told_G (ok : D.Ok ev wi) (e8 : ev ≤ 8) (st : StD D ev wi) (lo : LoD D) {x : Int × Int × Int} (hx : x ∈ D.G) : ∃ wd r, Told (lineS (wG x)) ev wi .gap (encT x) wd r := by
  obtain ⟨a, b, c⟩ := ok.g x hx
  obtain ⟨s1, s2⟩ := st .gap (encT x) (List.mem_map_of_mem hx)
  refine ⟨"gap", [showI x.1, showI x.2.1, showI x.2.2], (liny_G ok e8 hx).split, by decide +kernel, ?_, s1, s2, .inr ⟨x.2.2, rfl, lo.g x hx⟩, rfl⟩
  unfold itemV
  rw [if_neg (by decide +kernel), if_neg (by decide +kernel)]
  show _ = [valV1 _, valV1 _, valV1 _]
  rw [v1_show (idx40 a e8), v1_show (idx40 b e8), v1_show (num40 c)]
theorem cut_s (a b : V) : cutV [a, b] none (some 1) = [a] ∧ cutV [a, b] (some 1) none = [b] := ⟨rfl, rfl⟩
theorem told_S (ok : D.Ok ev wi) (e8 : ev ≤ 8) (st : StD D ev wi) (lo : LoD D) {x : Int × Str × Int} (hx : x ∈ D.S) : ∃ wd r, Told (lineS (wS x)) ev wi .sur (encS x) wd r := by
  obtain ⟨a, b, c⟩ := ok.s x hx
  obtain ⟨s1, s2⟩ := st .sur (encS x) (List.mem_map_of_mem hx)
  have nk : x.2.1 ≠ "known" := by rcases b with h | h <;> rw [h] <;> decide +kernel
  refine ⟨x.2.1, [showI x.1, showI x.2.2], (liny_S ok e8 hx).split, ?_, ?_, s1, s2, .inr ⟨x.2.2, rfl, lo.s x hx⟩, rfl⟩
  · rcases b with h | h <;> rw [h] <;> decide +kernel
  unfold itemV
  rw [if_neg nk, if_pos b]
  show _ = cutV [valV1 _, valV1 _] none (some 1) ++ [_] ++ cutV [valV1 _, valV1 _] (some 1) none
  rw [v1_show (idx40 a e8), v1_show (num40 c), (cut_s _ _).1, (cut_s _ _).2]; rfl
theorem told_L (ok : D.Ok ev wi) (w8 : wi ≤ 8) (st : StD D ev wi) {x : Int × Str × Int × Str} (hx : x ∈ D.L) : ∃ wd r, Told (lineS (wL x)) ev wi .cla (encL x) wd r := by
  obtain ⟨a, b, c, d⟩ := ok.l x hx
  obtain ⟨s1, s2⟩ := st .cla (encL x) (List.mem_map_of_mem hx)
  by_cases e : x.1 = x.2.2.1 ∧ x.2.1 = x.2.2.2
  · have ew : wL x = ([("known" : Str), showI x.1, x.2.1] : List Str) := by unfold wL; rw [if_pos e]
    have sp := (liny_L ok w8 hx).split
    rw [ew] at sp
    refine ⟨"known", [showI x.1, x.2.1], by rw [ew]; exact sp, by decide +kernel, ?_, s1, s2, .inl rfl, rfl⟩
    unfold itemV
    rw [if_pos rfl]
    show [V.int x.1, .str x.2.1, .int x.2.2.1, .str x.2.2.2] = [valV1 _, valV1 _, valV1 _, valV1 _]
    rw [v1_show (idx40 a w8), v1_kind b, ← e.1, ← e.2]
  · have ew : wL x = ([("clause" : Str), showI x.1, x.2.1, showI x.2.2.1, x.2.2.2] : List Str) := by unfold wL; rw [if_neg e]
    have sp := (liny_L ok w8 hx).split
    rw [ew] at sp
    refine ⟨"clause", [showI x.1, x.2.1, showI x.2.2.1, x.2.2.2], by rw [ew]; exact sp, by decide +kernel, ?_, s1, s2, .inl rfl, rfl⟩
    unfold itemV
    rw [if_neg (by decide +kernel), if_neg (by decide +kernel)]
    show [V.int x.1, .str x.2.1, .int x.2.2.1, .str x.2.2.2] = [valV1 _, valV1 _, valV1 _, valV1 _]
    rw [v1_show (idx40 a w8), v1_kind b, v1_show (idx40 c w8), v1_kind d]
def appR (acc : Acc) (p : Pt) (yss : List (List V)) : Acc := fun u => if u = p then acc u ++ yss else acc u
theorem appR_nil (acc : Acc) (p : Pt) : appR acc p [] = acc := by
  funext u; unfold appR; split
  · exact List.append_nil _
  · rfl
theorem appR_cons (acc : Acc) (p : Pt) (y : List V) (r : List (List V)) : appR (addR acc p y) p r = appR acc p (y :: r) := by
  funext u; unfold appR addR; split
  · rw [List.append_assoc]; rfl
  · rfl
theorem readL_part {α : Type} {f : α → Str} {g : α → List V} (p : Pt) (rest : List Str) : ∀ (zs : List α) (n last : Nat) (acc : Acc), (∀ z ∈ zs, ∃ wd r, Told (f z) ev wi p (g z) wd r) → last ≤ p.ix → (acc p).length + zs.length ≤ 20 →
    ∃ n' last', last' ≤ p.ix ∧ readL ev wi (zs.map f ++ rest) n last acc = readL ev wi rest n' last' (appR acc p (zs.map g))
  | [], n, last, acc, _, hl, _ => ⟨n, last, hl, by rw [List.map_nil, List.map_nil, appR_nil]; rfl⟩
  | z :: zs, n, last, acc, h, hl, hc => by
    obtain ⟨wd, r, t⟩ := h z List.mem_cons_self
    rw [List.length_cons] at hc
    obtain ⟨n', last', h1, h2⟩ := readL_part p rest zs (n + 1) p.ix (addR acc p (g z)) (fun z hz => h z (List.mem_cons_of_mem _ hz)) (Nat.le_refl _) (by
      unfold addR; rw [if_pos rfl, List.length_append]; show _ + 1 + _ ≤ 20; omega)
    refine ⟨n', last', h1, ?_⟩
    rw [List.map_cons, List.map_cons, List.cons_append]
    conv => lhs; unfold readL
    rw [itemO_of t]
    dsimp only
    rw [if_neg (by rintro (c | c) <;> omega), h2, appR_cons]
theorem sizeO_head {word : Str} {n : Int} (h0 : 0 ≤ n) (h8 : n ≤ 8) : sizeO [word, showI n] word 8 = some n := by
  unfold sizeO
  rw [if_pos (show [word, showI n].dropLast = [word] from rfl)]
  show (match intW (showI n) with | some n => if 0 ≤ n ∧ n ≤ 8 then some n else none | none => none) = some n
  rw [intW_show (Nat.lt_of_le_of_lt (by omega : n.natAbs ≤ 8) (by decide +kernel))]
  dsimp only
  rw [if_pos ⟨h0, h8⟩]
theorem lanes_split (ok : D.Ok ev wi) (e0 : 0 ≤ ev) (e8 : ev ≤ 8) (w0 : 0 ≤ wi) (w8 : wi ≤ 8) : lanes (textW ev wi D) = lineS ["events", showI ev] :: lineS ["witnesses", showI wi] :: (D.T.map (lineS ∘ wT) ++ (D.G.map (lineS ∘ wG) ++ (D.S.map (lineS ∘ wS) ++ (D.L.map (lineS ∘ wL) ++ [])))) := by
  rw [lanes_text (liny_all ok e0 e8 w0 w8)]; unfold linesW headW
  simp only [List.map_append, List.map_map, List.append_assoc, List.append_nil]; rfl
theorem lines_told (ok : D.Ok ev wi) (e0 : 0 ≤ ev) (e8 : ev ≤ 8) (w0 : 0 ≤ wi) (w8 : wi ≤ 8) (st : StD D ev wi) (lo : LoD D) : ∀ line ∈ (lanes (textW ev wi D)).drop 2, ∃ p xs wd r, Told line ev wi p xs wd r := by
  rw [lanes_split ok e0 e8 w0 w8, List.drop_succ_cons, List.drop_succ_cons, List.drop_zero]
  refine all_app (fun y h => ?_) (all_app (fun y h => ?_) (all_app (fun y h => ?_) (all_app (fun y h => ?_) all_nil)))
  · obtain ⟨x, hx, rfl⟩ := List.mem_map.mp h
    exact ⟨_, _, told_T ok e8 w8 st lo hx⟩
  · obtain ⟨x, hx, rfl⟩ := List.mem_map.mp h
    exact ⟨_, _, told_G ok e8 st lo hx⟩
  · obtain ⟨x, hx, rfl⟩ := List.mem_map.mp h
    exact ⟨_, _, told_S ok e8 st lo hx⟩
  · obtain ⟨x, hx, rfl⟩ := List.mem_map.mp h
    exact ⟨_, _, told_L ok w8 st hx⟩
theorem read_text (ok : D.Ok ev wi) (e0 : 0 ≤ ev) (e8 : ev ≤ 8) (w0 : 0 ≤ wi) (w8 : wi ≤ 8) (st : StD D ev wi) (lo : LoD D) (ln : ∀ p, (encA D p).length ≤ 20) : readO (textW ev wi D) = .inl (ev, wi, encA D) := by
  have la := lanes_text (liny_all ok e0 e8 w0 w8)
  have lh : lanes (textW ev wi D) = lineS ["events", showI ev] :: lineS ["witnesses", showI wi] :: (D.T.map (lineS ∘ wT) ++ (D.G.map (lineS ∘ wG) ++ (D.S.map (lineS ∘ wS) ++ (D.L.map (lineS ∘ wL) ++ [])))) := by
    rw [la]; unfold linesW headW
    simp only [List.map_append, List.map_map, List.append_assoc, List.append_nil]; rfl
  unfold readO
  have h0 : sizeAt (lanes (textW ev wi D)) 0 "events" = some ev := by
    rw [lh]
    show sizeO (Txt.split _ sp1) _ _ = _
    rw [(liny_head (n := ev) wordy_lit.1 e0 e8).split, sizeO_head e0 e8]
  have h1 : sizeAt (lanes (textW ev wi D)) 1 "witnesses" = some wi := by
    rw [lh]
    show sizeO (Txt.split _ sp1) _ _ = _
    rw [(liny_head (n := wi) wordy_lit.2.1 w0 w8).split, sizeO_head w0 w8]
  rw [h0]; dsimp only
  rw [h1]; dsimp only
  rw [lh, List.drop_succ_cons, List.drop_succ_cons, List.drop_zero]
  have lT := ln .tel
  have lG := ln .gap
  have lS := ln .sur
  have lL := ln .cla
  unfold encA at lT lG lS lL
  rw [List.length_map] at lT lG lS lL
  obtain ⟨n1, a1, q1, r1⟩ := readL_part (f := lineS ∘ wT) (g := encT) (ev := ev) (wi := wi) .tel (D.G.map (lineS ∘ wG) ++ (D.S.map (lineS ∘ wS) ++ (D.L.map (lineS ∘ wL) ++ []))) D.T 3 0 (fun _ => []) (fun x hx => told_T ok e8 w8 st lo hx) (Nat.zero_le _) (by show 0 + _ ≤ 20; omega)
  obtain ⟨n2, a2, q2, r2⟩ := readL_part (f := lineS ∘ wG) (g := encT) (ev := ev) (wi := wi) .gap (D.S.map (lineS ∘ wS) ++ (D.L.map (lineS ∘ wL) ++ [])) D.G n1 a1 (appR (fun _ => []) .tel (D.T.map encT)) (fun x hx => told_G ok e8 st lo hx) (by have : Pt.ix .tel = 0 := rfl; show _ ≤ 1; omega) (by show 0 + _ ≤ 20; omega)
  obtain ⟨n3, a3, q3, r3⟩ := readL_part (f := lineS ∘ wS) (g := encS) (ev := ev) (wi := wi) .sur (D.L.map (lineS ∘ wL) ++ []) D.S n2 a2 (appR (appR (fun _ => []) .tel (D.T.map encT)) .gap (D.G.map encT)) (fun x hx => told_S ok e8 st lo hx) (by have : Pt.ix .gap = 1 := rfl; show _ ≤ 2; omega) (by show 0 + _ ≤ 20; omega)
  obtain ⟨n4, a4, q4, r4⟩ := readL_part (f := lineS ∘ wL) (g := encL) (ev := ev) (wi := wi) .cla [] D.L n3 a3 (appR (appR (appR (fun _ => []) .tel (D.T.map encT)) .gap (D.G.map encT)) .sur (D.S.map encS)) (fun x hx => told_L ok w8 st hx) (by have : Pt.ix .sur = 2 := rfl; show _ ≤ 3; omega) (by show 0 + _ ≤ 20; omega)
  rw [r1, r2, r3, r4]
  show Sum.inl _ = _
  refine congrArg Sum.inl (congrArg (fun a => (ev, wi, a)) ?_)
  funext u
  cases u <;> simp [appR, encA]
end
end EL

/- part K91J -/
namespace EL
open PySem PySem.Spec PyProof.Rows L2
open PySem.W (Frag)
open TX
abbrev s_book : Stmt := top 51
abbrev N_book : List Str := ["_law_events", "_law_witnesses", "_law_parts_here"]
theorem sc_book : FnScope N_book ["_law_events", "_law_witnesses", "_law_parts_here"] (defScope s_book) := ⟨rfl, rfl, rfl, by decide +kernel, rfl, by decide +kernel, by decide +kernel⟩
abbrev s_parts_of : Stmt := top 53
abbrev N_parts_of : List Str := ["_law_book_here"]
theorem sc_parts_of : FnScope N_parts_of ["_law_book_here"] (defScope s_parts_of) := ⟨rfl, rfl, rfl, by decide +kernel, rfl, by decide +kernel, by decide +kernel⟩
local macro_rules | `(tactic| walk_at "el1") => `(tactic| with_reducible first
  | refine a_sasg ?_ | refine a_sdrop ?_ | refine a_saugS ?_ | refine a_spar ?_ | refine a_seq ?_ | refine a_asg ?_ | refine a_drop ?_ | refine a_ret ?_ | refine a_if ?_ | refine a_next ?_
  | refine a_op ?_ | refine a_cons ?_ | refine a_nil ?_ | refine a_cb ?_ | refine a_call ?_ | refine a_c ?_ | refine a_gn ?_ | refine a_nx ?_ | refine a_rt ?_ | refine a_un ?_
  | refine a_test ?_ | refine a_B ?_ | refine a_bl ?_ | refine a_and ?_ | refine a_or ?_ | refine a_not ?_ | refine a_andV ?_ | refine a_orV ?_ | refine a_notV ?_ | refine a_ifx ?_ | refine a_chain ?_
  | refine a_nT ?_ | refine a_nF ?_ | refine a_fld ?_ | refine a_getF ?_ | refine a_T ?_ | refine a_F ?_ | refine a_tup ?_ | refine a_lst ?_ | refine a_sub ?_ | refine a_augS ?_ | refine a_two ?_ | refine a_I0 ?_ | refine a_U ?_ | refine n_add ?_ | refine n_int ?_ | refine n_ib ?_ | refine a_ip ?_ | refine a_rng1 ?_ | refine a_rng2 ?_ | refine a_bm ?_ | refine a_abs ?_ | refine a_pairs ?_ | refine a_pairs0 ?_ | refine a_bk ?_ | refine a_prp ?_ | refine a_lc ?_ | refine a_yes ?_ | refine a_sl ?_ | refine a_nop ?_ | refine a_prt ?_ | refine a_ex1 ?_ | refine a_for ?_ | refine a_sfor ?_ | refine a_iE1 ?_ | refine a_iEs ?_ | refine a_iEz ?_ | refine a_iEnum ?_ | refine a_iTup ?_ | refine a_iList ?_ | refine a_gcons ?_ | refine a_gnil ?_ | refine a_revT ?_ | refine a_spar3 ?_ | refine a_par3 ?_ | refine a_three ?_)
local macro_rules | `(tactic| walk_at "el2") => `(tactic| first
  | (refine a_var (by rfl) ?_)
  | (refine n_ixL (SqL.of (by assumption)) (by rfl) ?_) | (refine n_ixT (SqT.of (by assumption)) (by rfl) ?_) | (refine n_eq (by rfl) ?_) | (refine n_ne (by rfl) ?_)
  | (refine n_isN ?_) | (refine n_notN ?_) | (refine n_isB ?_) | (refine n_notB ?_) | (refine n_isBI ?_) | (refine n_notBI ?_) | (refine n_len (.inl (SqL.of (by assumption))) ?_) | (refine n_len (.inr (SqT.of (by assumption))) ?_)
  | (refine a_getL (SqL.of (by assumption)) (by rfl) ?_)
  | (refine n_isInt (by assumption) ?_) | (refine n_isBool (by assumption) ?_) | (refine n_isStr (by assumption) ?_) | (refine n_isTup (by assumption) ?_) | (refine n_isLst (by assumption) ?_))
local macro_rules | `(tactic| walk_at "el") => `(tactic| repeat (first | walk_at "el1" | walk_at "el2"))

theorem exm_of {K : Frag} {N E : Addr} (he : PySem.W.subIn K (.ref E) (.type "BaseException") = some true) (hc : PySem.W.isClsIn K E = true) (ht : PySem.W.typeIn K (.ref E) = some (.type "type")) (hs : PySem.W.subIn K (.ref N) (.ref E) = some true) : PySem.W.exmOne K (.ref N) (.ref E) = some true := by
  have c1 : (PySem.W.clsIn K E).isSome = true := hc
  unfold PySem.W.exmOne
  rw [he, if_pos (by simp)]
  show (if ((PySem.W.clsIn K E).isSome && PySem.W.typeIn K (.ref E) == some (.type "type")) = true then PySem.W.subIn K (.ref N) (.ref E) else none) = _
  rw [c1, ht, if_pos (by simp)]
  exact hs
def spPo (K : Frag) (C : Addr) : Sp := fun vs H Q _ => ∃ (A : BA) (D : PD), vs = [.ref A.o] ∧ BB K C H A D ∧ (∀ u, (A.xs u).length ≤ 100) ∧ ∀ (m : Addr) (l : Pt → Addr) H', Same H H' → H' m = some (.lst [.ref (l .tel), .ref (l .gap), .ref (l .sur), .ref (l .cla)]) → (∀ u, H' (l u) = some (.lst (A.xs u))) → Q (.ref m) H'
section
variable {P : Program} {w : World} {K : Frag} {mg : Str → Option Value} {base : Heap} {f : Addr} {fd : FuncData} {C : Addr} {Dk : BookD}
theorem ok_lbook (F : Fun K "_law_book" "_law_book" s_book f fd) (T : Tb mg) (c_Book : BookG P w K mg base C Dk) : FnOk P w K mg base CX0 9 f fd ["_law_events", "_law_witnesses", "_law_parts_here"] (spMade K C) := by
  refine F.ok sc_book (fun vs H Q E h => ?_) (fun cdv A outer s H vs Q E hr h => ?_)
  · obtain ⟨_, _, _, _, _, rfl, _⟩ := h
    rfl
  · obtain ⟨ev, wi, p, l, xs, rfl, e0, e8, w0, w8, hp, ok, k⟩ := h
    refine ⟨_, (pss_one (ps_ret (pe_bk6 c_Book (hr.mono (by decide)) rfl (pa_cons (pv 0) (pa_cons (pv 1) (pa_cons (pe_ix ix_seq (pv 2) pe_int (fun _ _ => rfl)) (pa_cons (pe_ix ix_seq (pv 2) pe_int (fun _ _ => rfl)) (pa_cons (pe_ix ix_seq (pv 2) pe_int (fun _ _ => rfl)) (pa_cons (pe_ix ix_seq (pv 2) pe_int (fun _ _ => rfl)) pa_nil))))))))), ?_⟩
    walk_at "el"
    refine n_bk6 e0 e8 w0 w8 (ok .tel) (ok .gap) (ok .sur) (ok .cla) fun o dx t g s q H' s' ho ho' h1 h2 h3 h4 => ?_
    exact k H' o dx t g s q s' ho' h1 h2 h3 h4
theorem ok_parts_of (F : Fun K "_law_parts_of" "_law_parts_of" s_parts_of f fd) (T : Tb mg) (p_tellings : PrpG P w K mg base C "tellings" "_tellings") (p_gaps : PrpG P w K mg base C "gaps" "_gaps") (p_sure : PrpG P w K mg base C "sure" "_sure") (p_clauses : PrpG P w K mg base C "clauses" "_clauses") :
    FnOk P w K mg base CX0 3 f fd ["_law_book_here"] (spPo K C) := by
  refine F.ok sc_parts_of (fun vs H Q E h => ?_) (fun cdv A outer s H vs Q E hr h => ?_)
  · obtain ⟨_, _, rfl, _⟩ := h
    rfl
  · obtain ⟨B, D, rfl, hB, ln, k⟩ := h
    refine ⟨_, (pss_one (ps_ret (pe_lst (pa_cons (pe_callTy u_list rfl T.b.list_ (by decide +kernel) (pa_cons (pe_prp p_tellings (hr.mono (by decide)) (pv 0)) pa_nil)) (pa_cons (pe_callTy u_list rfl T.b.list_ (by decide +kernel) (pa_cons (pe_prp p_gaps (hr.mono (by decide)) (pv 0)) pa_nil)) (pa_cons (pe_callTy u_list rfl T.b.list_ (by decide +kernel) (pa_cons (pe_prp p_sure (hr.mono (by decide)) (pv 0)) pa_nil)) (pa_cons (pe_callTy u_list rfl T.b.list_ (by decide +kernel) (pa_cons (pe_prp p_clauses (hr.mono (by decide)) (pv 0)) pa_nil)) pa_nil))))))), ?_⟩
    have hs0 : sizeLine = 16777216 := rfl
    walk_at "el"
    refine n_prp hB.bk rfl ?_
    walk_at "el"
    refine ⟨_, _, rfl, .inr hB.tT, fun q1 hq1 => ?_⟩
    have e1 := nw_of hq1 (.lst (B.xs .tel))
    have g1 := upd_at hq1 (.lst (B.xs .tel))
    generalize upd H q1 (.lst (B.xs .tel)) = H1 at e1 g1 ⊢
    have hB1 := hB.same e1
    walk_at "el"
    refine n_prp hB1.bk rfl ?_
    walk_at "el"
    refine ⟨_, _, rfl, .inr hB1.tG, fun q2 hq2 => ?_⟩
    have e2 := nw_of hq2 (.lst (B.xs .gap))
    have g2 := upd_at hq2 (.lst (B.xs .gap))
    generalize upd H1 q2 (.lst (B.xs .gap)) = H2 at e2 g2 ⊢
    have hB2 := hB1.same e2
    walk_at "el"
    refine n_prp hB2.bk rfl ?_
    walk_at "el"
    refine ⟨_, _, rfl, .inr hB2.tS, fun q3 hq3 => ?_⟩
    have e3 := nw_of hq3 (.lst (B.xs .sur))
    have g3 := upd_at hq3 (.lst (B.xs .sur))
    generalize upd H2 q3 (.lst (B.xs .sur)) = H3 at e3 g3 ⊢
    have hB3 := hB2.same e3
    walk_at "el"
    refine n_prp hB3.bk rfl ?_
    walk_at "el"
    refine ⟨_, _, rfl, .inr hB3.tL, fun q4 hq4 => ?_⟩
    have e4 := nw_of hq4 (.lst (B.xs .cla))
    have g4 := upd_at hq4 (.lst (B.xs .cla))
    generalize upd H3 q4 (.lst (B.xs .cla)) = H4 at e4 g4 ⊢
    walk_at "el"
    refine ⟨by show 4 ≤ sizeLine; decide, fun m hm => ?_⟩
    have e5 := nw_of hm (.lst [.ref q1, .ref q2, .ref q3, .ref q4])
    refine k m (lOf q1 q2 q3 q4) _ ((((e1.trans e2).trans e3).trans e4).trans e5) upd_same fun u => ?_
    cases u
    · exact e5 _ _ (e4 _ _ (e3 _ _ (e2 _ _ g1)))
    · exact e5 _ _ (e4 _ _ (e3 _ _ g2))
    · exact e5 _ _ (e4 _ _ g3)
    · exact e5 _ _ g4
end
theorem same_D9 {D : PD} {ev wi : Int} (ok : D.Ok ev wi) : sameD D D ev wi ev wi = true := by
  have es : ∀ {d : PyData}, SeqAt.shaped d = true → PyData.eqv d d = true := fun {d} h => PySem.SeqAt.eqv_refl d (Bool.and_eq_true_iff.mp h).1
  obtain ⟨p1, p2, p3, p4⟩ := shp_all ok
  unfold sameD
  rw [decide_eq_true rfl, decide_eq_true rfl, es p1, es p2, es p3, es p4]
  rfl
/-- four parts as lists -/
def partsI (D : PD) : PyData := .list [.list (D.T.map dT), .list (D.G.map dT), .list (D.S.map dS), .list (D.L.map dL)]
theorem partsI_sz {D : PD} {ev wi : Int} (ok : D.Ok ev wi) (e8 : ev ≤ 8) (w8 : wi ≤ 8) (l : D.T.length ≤ 100 ∧ D.G.length ≤ 100 ∧ D.S.length ≤ 100 ∧ D.L.length ≤ 100) : Sz 12404 3 (partsI D) := by
  have part : ∀ {α : Type} {dec : α → PyData} {E : List α}, (∀ x ∈ E, Sz 30 1 (dec x)) → E.length ≤ 100 → Sz 3100 2 (.list (E.map dec)) := fun {α dec E} h hl => by
    refine (sz_lst (n := 30) (k := 1) fun d hd => ?_).le (Nat.le_trans (Nat.mul_le_mul_right _ (by rw [List.length_map]; exact hl)) (by decide)) (by decide)
    obtain ⟨x, hx, rfl⟩ := List.mem_map.mp hd
    exact h x hx
  have i0 : ∀ {x : Int}, x.natAbs < 10 ^ 40 → Sz 5 0 (.int x) := fun h => (sz_int h).le (by decide) (by decide)
  have t3 : ∀ {a c d : PyData}, Sz 5 0 a → Sz 5 0 c → Sz 5 0 d → Sz 30 1 (.tuple [a, c, d]) := fun h1 h2 h3 => (sz_tup (n := 5) (k := 0) (all_cons h1 (all_cons h2 (all_cons h3 all_nil)))).le (by show 3 * 6 ≤ 30; decide) (by decide)
  have t4 : ∀ {a c d e : PyData}, Sz 5 0 a → Sz 5 0 c → Sz 5 0 d → Sz 5 0 e → Sz 30 1 (.tuple [a, c, d, e]) := fun h1 h2 h3 h4 => (sz_tup (n := 5) (k := 0) (all_cons h1 (all_cons h2 (all_cons h3 (all_cons h4 all_nil))))).le (by show 4 * 6 ≤ 30; decide) (by decide)
  have z : Sz (4 * (3100 + 1)) 3 (partsI D) := by
    refine sz_lst (n := 3100) (k := 2) (ds := [.list (D.T.map dT), .list (D.G.map dT), .list (D.S.map dS), .list (D.L.map dL)]) (all_cons (part (fun x hx => ?_) l.1) (all_cons (part (fun x hx => ?_) l.2.1) (all_cons (part (fun x hx => ?_) l.2.2.1) (all_cons (part (fun x hx => ?_) l.2.2.2) all_nil))))
    · have o := ok.t x hx
      exact t3 (i0 (small_abs o.1.1 (by omega))) (i0 (small_abs o.2.1.1 (by omega))) (i0 (num_abs o.2.2))
    · have o := ok.g x hx
      exact t3 (i0 (small_abs o.1.1 (by omega))) (i0 (small_abs o.2.1.1 (by omega))) (i0 (num_abs o.2.2))
    · have o := ok.s x hx
      exact t3 (i0 (small_abs o.1.1 (by omega))) (sz_word (o.2.1.elim (fun h => .inr (.inr (.inl h))) fun h => .inr (.inr (.inr h)))) (i0 (num_abs o.2.2))
    · have o := ok.l x hx
      exact t4 (i0 (small_abs o.1.1 (by omega))) (sz_word (o.2.1.elim .inl fun h => .inr (.inl h))) (i0 (small_abs o.2.2.1.1 (by omega))) (sz_word (o.2.2.2.elim .inl fun h => .inr (.inl h)))
  exact z
theorem partsI_fine {D : PD} {ev wi : Int} (ok : D.Ok ev wi) (e8 : ev ≤ 8) (w8 : wi ≤ 8) (l : D.T.length ≤ 100 ∧ D.G.length ≤ 100 ∧ D.S.length ≤ 100 ∧ D.L.length ≤ 100) : Fine (partsI D) := (partsI_sz ok e8 w8 l).fine (by decide) (by decide)
theorem dp_partsI {K : Frag} {H : Hp} {m : Addr} {l : Pt → Addr} {xs : Pt → List V} {D : PD} (hm : H m = some (.lst [.ref (l .tel), .ref (l .gap), .ref (l .sur), .ref (l .cla)])) (hl : ∀ u, H (l u) = some (.lst (xs u))) (R : PR H xs D) : Dp K H (.ref m) (partsI D) :=
  .lst (SqL.of hm) (.cons (.lst (SqL.of (hl .tel)) (rows_dp (fun q x h => dp_T h) R.t)) (.cons (.lst (SqL.of (hl .gap)) (rows_dp (fun q x h => dp_T h) R.g)) (.cons (.lst (SqL.of (hl .sur)) (rows_dp (fun q x h => dp_S h) R.s)) (.cons (.lst (SqL.of (hl .cla)) (rows_dp (fun q x h => dp_L h) R.l)) .nil))))
theorem rows_enc {α : Type} {enc : α → List V} {H : Hp} {xs : List V} {E : List α} (h : RowsAre id H xs (E.map enc)) : RowsAre enc H xs E := ⟨by rw [h.len, List.length_map], fun i v hv => by
  obtain ⟨q, x, e, hx, hq⟩ := h.at_ i v hv
  rw [List.getElem?_map] at hx
  cases hy : E[i]? with
  | none => rw [hy] at hx; cases hx
  | some y => rw [hy] at hx; cases hx; exact ⟨q, y, e, rfl, hq⟩⟩
theorem rows_all {H : Hp} {xs : Pt → List V} {D : PD} (h : ∀ u, RowsAre id H (xs u) (encA D u)) : PR H xs D := ⟨rows_enc (h .tel), rows_enc (h .gap), rows_enc (h .sur), rows_enc (h .cla)⟩
theorem encA_len {H : Hp} {xs : Pt → List V} {D : PD} (R : PR H xs D) (p : Pt) : (encA D p).length = (xs p).length := by
  cases p
  · show (D.T.map _).length = _; rw [List.length_map]; exact R.t.len.symm
  · show (D.G.map _).length = _; rw [List.length_map]; exact R.g.len.symm
  · show (D.S.map _).length = _; rw [List.length_map]; exact R.s.len.symm
  · show (D.L.map _).length = _; rw [List.length_map]; exact R.l.len.symm
theorem text_ok9 {ev wi : Int} {D : PD} (ok : ∀ ws ∈ linesW ev wi D, Liny ws) : okS9 (textW ev wi D) := fun c hc => by
  unfold textW at hc
  rw [join_listN] at hc
  rcases mem_flat9 hc with rfl | ⟨l, m, hl⟩
  · decide
  · obtain ⟨y, hy, rfl⟩ := List.mem_map.mp m
    obtain ⟨ws, hw, rfl⟩ := List.mem_map.mp hy
    rw [line_list] at hl
    rcases mem_flat9 hl with rfl | ⟨l', m', hl'⟩
    · decide
    · obtain ⟨y', hy', rfl⟩ := List.mem_map.mp m'
      exact ((ok ws hw).w y' hy').ok c hl'
theorem linesW_len {H : Hp} {xs : Pt → List V} {D : PD} {ev wi : Int} (R : PR H xs D) (ln : ∀ u, (xs u).length ≤ 24) : (linesW ev wi D).length ≤ 98 := by
  have h2 : (headW ev wi).length = 2 := rfl
  unfold linesW
  simp only [List.length_append, List.length_map]
  have a := R.t.len; have b := R.g.len; have c := R.s.len; have d := R.l.len
  have a' := ln .tel; have b' := ln .gap; have c' := ln .sur; have d' := ln .cla
  omega
end EL

/- part K92A -/
namespace EL
open PySem PySem.Spec PyProof.Rows L2
open PySem.W (Frag)
open TX
abbrev s_integer : Stmt := top 54
abbrev N_integer : List Str := ["_law_word", "_law_digits", "_law_figures", "_law_sign"]
theorem sc_integer : FnScope N_integer ["_law_word", "_law_digits"] (defScope s_integer) := ⟨rfl, rfl, rfl, by decide +kernel, rfl, by decide +kernel, by decide +kernel⟩
abbrev s_number_of : Stmt := top 55
abbrev N_number_of : List Str := ["_law_word", "_law_found"]
theorem sc_number_of : FnScope N_number_of ["_law_word"] (defScope s_number_of) := ⟨rfl, rfl, rfl, by decide +kernel, rfl, by decide +kernel, by decide +kernel⟩
abbrev s_index_of : Stmt := top 56
abbrev N_index_of : List Str := ["_law_word", "_law_many", "_law_found"]
theorem sc_index_of : FnScope N_index_of ["_law_word", "_law_many"] (defScope s_index_of) := ⟨rfl, rfl, rfl, by decide +kernel, rfl, by decide +kernel, by decide +kernel⟩
local macro_rules | `(tactic| walk_at "el1") => `(tactic| with_reducible first
  | refine a_sasg ?_ | refine a_sdrop ?_ | refine a_saugS ?_ | refine a_spar ?_ | refine a_seq ?_ | refine a_asg ?_ | refine a_drop ?_ | refine a_ret ?_ | refine a_if ?_ | refine a_next ?_
  | refine a_op ?_ | refine a_cons ?_ | refine a_nil ?_ | refine a_cb ?_ | refine a_call ?_ | refine a_c ?_ | refine a_gn ?_ | refine a_nx ?_ | refine a_rt ?_ | refine a_un ?_
  | refine a_test ?_ | refine a_B ?_ | refine a_bl ?_ | refine a_and ?_ | refine a_or ?_ | refine a_not ?_ | refine a_andV ?_ | refine a_orV ?_ | refine a_notV ?_ | refine a_ifx ?_ | refine a_chain ?_
  | refine a_nT ?_ | refine a_nF ?_ | refine a_fld ?_ | refine a_getF ?_ | refine a_T ?_ | refine a_F ?_ | refine a_tup ?_ | refine a_lst ?_ | refine a_sub ?_ | refine a_augS ?_ | refine a_two ?_ | refine a_I0 ?_ | refine a_U ?_ | refine n_add ?_ | refine n_int ?_ | refine n_ib ?_ | refine a_ip ?_ | refine a_rng1 ?_ | refine a_rng2 ?_ | refine a_bm ?_ | refine a_abs ?_ | refine a_pairs ?_ | refine a_pairs0 ?_ | refine a_bk ?_ | refine a_prp ?_ | refine a_lc ?_ | refine a_yes ?_ | refine a_sl ?_ | refine a_nop ?_ | refine a_prt ?_ | refine a_ex1 ?_ | refine a_for ?_ | refine a_sfor ?_ | refine a_iE1 ?_ | refine a_iEs ?_ | refine a_iEz ?_ | refine a_iEnum ?_ | refine a_iTup ?_ | refine a_iList ?_ | refine a_gcons ?_ | refine a_gnil ?_ | refine a_revT ?_ | refine a_spar3 ?_ | refine a_par3 ?_ | refine a_three ?_)
local macro_rules | `(tactic| walk_at "el2") => `(tactic| first
  | (refine a_var (by rfl) ?_)
  | (refine n_ixL (SqL.of (by assumption)) (by rfl) ?_) | (refine n_ixT (SqT.of (by assumption)) (by rfl) ?_) | (refine n_eq (by rfl) ?_) | (refine n_ne (by rfl) ?_)
  | (refine n_isN ?_) | (refine n_notN ?_) | (refine n_isB ?_) | (refine n_notB ?_) | (refine n_isBI ?_) | (refine n_notBI ?_) | (refine n_len (.inl (SqL.of (by assumption))) ?_) | (refine n_len (.inr (SqT.of (by assumption))) ?_)
  | (refine a_getL (SqL.of (by assumption)) (by rfl) ?_)
  | (refine n_isInt (by assumption) ?_) | (refine n_isBool (by assumption) ?_) | (refine n_isStr (by assumption) ?_) | (refine n_isTup (by assumption) ?_) | (refine n_isLst (by assumption) ?_))
local macro_rules | `(tactic| walk_at "el") => `(tactic| repeat (first | walk_at "el1" | walk_at "el2"))

/-- the keys of a written dict -/
def KeyIn : List Str → List DictEntry → Prop
  | [], [] => True
  | k :: ks, e :: r => (∃ t, e.key = .str k t) ∧ KeyIn ks r
  | _, _ => False
theorem KeyIn.all : ∀ {ks : List Str} {es : List DictEntry}, KeyIn ks es → ∀ e ∈ es, ∃ x t, e.key = .str x t ∧ x ∈ ks
  | [], [], _, e, he => by cases he
  | k :: ks, e0 :: r, ⟨⟨t, h⟩, hr⟩, e, he => by
    rcases List.mem_cons.mp he with rfl | he
    · exact ⟨k, t, h, List.mem_cons_self⟩
    · obtain ⟨x, t, a, b⟩ := KeyIn.all hr e he
      exact ⟨x, t, a, List.mem_cons_of_mem _ b⟩
/-- a word that no key of a written dict is -/
theorem ns_none {K : Frag} {a : Addr} {es : Array DictEntry} {n : Nat} {ks : List Str} {z : Str} (hl : K.lookup a = some { cls := .type "dict", data := .dict es n }) (hk : ∀ e ∈ es.toList, ∃ x t, e.key = .str x t ∧ x ∈ ks) (hz : z ∉ ks) : PySem.W.nsIn K a z = some none := by
  unfold PySem.W.nsIn
  rw [hl]
  have f : es.toList.find? (·.key.isStr z) = none := List.find?_eq_none.mpr fun e he c => by
    obtain ⟨x, t, ek, hx⟩ := hk e he
    rw [ek, PySem.W.isStr_of] at c
    have : x = z := by simpa [Value.isStrOf] using c
    exact hz (this ▸ hx)
  have r : es.toList.any (·.refKey) = false := by
    rw [List.any_eq_false]
    intro e he c
    obtain ⟨x, t, ek, _⟩ := hk e he
    unfold DictEntry.refKey at c
    rw [ek] at c
    cases c
  show (match es.toList.find? (·.key.isStr z) with
      | some e => some (some e.val)
      | none => if es.toList.any (·.refKey) then none else some none) = some none
  rw [f, r]; rfl
theorem partW_no {z : Str} (h : partW z = none) : z ∉ (["tell", "gap", "least", "most", "known", "clause"] : List Str) := fun hz => by
  simp only [List.mem_cons, List.not_mem_nil, or_false] at hz
  rcases hz with rfl | rfl | rfl | rfl | rfl | rfl <;> exact absurd h (by decide +kernel)
/-! ### a law's own reading of numbers -/
def iV9 (z : Str) : V := match intW z with | some n => .int n | none => .non
/-- the integer that a word writes, with at most so many digits -/
def intD (z : Str) (d : Nat) : Option Int := if (figs z.cps.toList).length ≤ d then intW z else none
def iD (z : Str) (d : Nat) : V := match intD z d with | some n => .int n | none => .non
theorem iD_no {z : Str} {d : Nat} (h : digs z = false ∨ ¬ (figs z.cps.toList).length ≤ d) : iD z d = .non := by
  unfold iD intD
  split
  · rename_i n e
    split at e
    · rcases h with h | h
      · unfold intW at e; rw [h] at e; cases e
      · exact absurd (by assumption) h
    · cases e
  · rfl
theorem iD_iV {z : Str} {d : Nat} (h : (figs z.cps.toList).length ≤ d) : iD z d = iV9 z := by
  unfold iD intD iV9; rw [if_pos h]
theorem iV_no9 {z : Str} (h : digs z = false) : iV9 z = .non := by unfold iV9 intW; rw [h]; rfl
theorem eqv_noS9 (zs : List Str) : PyData.eqv (.list (zs.map PyData.str)) (.list []) = zs.isEmpty := by cases zs <;> rfl
theorem not_neg9 {z : Str} (h : ¬ negW z.cps.toList = true) : figS z = z := by
  refine str_ext ?_
  rw [figS_list]
  rcases figs_or z.cps.toList with ⟨n, _⟩ | ⟨_, e, _⟩
  · exact absurd n h
  · exact e
def idxO (z : Str) (m : Int) : Option Int := match intD z 3 with | some n => if 0 ≤ n ∧ n < m then some n else none | none => none
def numO (z : Str) : Option Int := match intD z 13 with | some n => if -1000000000000 ≤ n ∧ n ≤ 1000000000000 then some n else none | none => none
def optV : Option Int → V | some n => .int n | none => .non
def spLiD : Sp := fun vs H Q _ => ∃ (z : Str) (d : Nat), vs = [.str z, .int (d : Int)] ∧ d ≤ 40 ∧ z.length ≤ 7000000 ∧ okS9 z ∧ ∀ H', Same H H' → Q (iD z d) H'
def spNo : Sp := fun vs H Q _ => ∃ z : Str, vs = [.str z] ∧ z.length ≤ 7000000 ∧ okS9 z ∧ ∀ H', Same H H' → Q (optV (numO z)) H'
def spIx : Sp := fun vs H Q _ => ∃ (z : Str) (m : Int), vs = [.str z, .int m] ∧ z.length ≤ 7000000 ∧ okS9 z ∧ ∀ H', Same H H' → Q (optV (idxO z m)) H'
section
variable {P : Program} {w : World} {K : Frag} {mg : Str → Option Value} {base : Heap} {f C C_NoText aForms aParts : Addr} {fd : FuncData}
theorem ok_integerD (F : Fun K "_law_integer" "_law_integer" s_integer f fd) (T : Tb mg) : FnOk P w K mg base CX0 1 f fd ["_law_word", "_law_digits"] spLiD := by
  refine F.ok sc_integer (fun vs H Q E h => ?_) (fun cdv A outer s H vs Q E hr h => ?_)
  · obtain ⟨_, _, rfl, _⟩ := h
    rfl
  · obtain ⟨z, d, rfl, hd40, hz, hok, k⟩ := h
    refine ⟨_, (Evl.pss_cut (ps_set (i := 2) sc_integer.nd rfl (Or.inl rfl) (pe_ifExp (pt_cmpR (u_eq hr.units) (pe_slice sl_str (pv 0) po_none (po_some pe_int)) pe_str (nomark _)) (pe_slice sl_str (pv 0) (po_some pe_int) po_none) (pv 0)))
  (pss_cons (ps_if (PW.pt (pw_or (pt_cmpR (u_eq hr.units) (pv 2) pe_str (nomark _)) (pw_or (pt_cmpR op_gt (pe_callB call_len_str rfl T.b.len_ boot_len (pa_cons (pv 2) pa_nil)) (pv 1) (nomark _)) (pw_or1 (pt_cmpR (u_ne hr.units) (pe_lc (own := [("_law_sign", 3)]) rfl sc_integer.nd (pi_str (pv 2)) (blkOk_by (own := [("_law_sign", 3)]) (N := N_integer) (sc := defScope s_integer) (by decide +kernel)) (fun _ _ _ _ _ => (pg_name (i := 3) sc_integer.nd rfl (Or.inl rfl))) (fun _ _ _ _ _ => (pts_one (pt_cmpR op_notIn_sign (pv 3) pe_str rfl))) (fun _ _ _ _ _ => (pv 3))) (pe_lst pa_nil) (nomark _))))))
    (pss_one (ps_ret pe_non))
    pss_nil)
  (pss_cons (ps_if (PW.pt (pw_and (pt_cmpR (u_eq hr.units) (pe_item_str (pv 2) pe_int (fun _ _ => rfl)) pe_str (nomark _)) (pw_and1 (pt_cmpR (u_ne hr.units) (pv 0) pe_str (nomark _)))))
    (pss_one (ps_ret pe_non))
    pss_nil)
  (pss_one (ps_ret (pe_callTy call_int_str rfl T.b.int_ (by decide +kernel) (pa_cons (pv 0) pa_nil))))))), ?_⟩
    have hs0 : sizeLine = 16777216 := rfl
    refine a_cut (fun σ' H' => H' = H ∧ σ' = [some (.str z), some (.int (d : Int)), some (.str (figS z)), none]) ?_ ?_
    · walk_at "el"
      refine ⟨z, rfl, by omega, ?_⟩
      walk_at "el"
      by_cases n : negW z.cps.toList = true
      · have e : decide (V.str (cutS z none (some 1)) = V.str "-") = true := decide_eq_true (congrArg V.str ((cut0 z).mpr n))
        rw [e]
        walk_at "el"
        refine ⟨z, rfl, by omega, ?_⟩
        rw [cut1 n]
        walk_at "el"
        exact ⟨rfl, rfl⟩
      · have e : decide (V.str (cutS z none (some 1)) = V.str "-") = false := decide_eq_false fun c => n ((cut0 z).mp (V.str.inj c))
        rw [e]
        walk_at "el"
        exact ⟨rfl, by rw [not_neg9 n]; rfl⟩
    · rintro σ' H' ⟨rfl, rfl⟩
      have hfl := figS_le z
      have hfl2 := figS_len z
      walk_at "el"
      refine ite2 (fun h0 => ?_) (fun h0 => ?_)
      · walk_at "el"
        have e : figS z = "" := V.str.inj (of_decide_eq_true h0)
        have e2 : digs z = false := by
          unfold digs
          rw [← figS_list, e]; rfl
        rw [← iD_no (.inl e2)]
        exact k _ (Same.refl _)
      · walk_at "el"
        refine ⟨_, rfl, by omega, ?_⟩
        walk_at "el"
        refine ite2 (fun h1 => ?_) (fun h1 => ?_)
        · walk_at "el"
          have e2 : ¬ (figs z.cps.toList).length ≤ d := by have := of_decide_eq_true h1; omega
          rw [← iD_no (.inr e2)]
          exact k _ (Same.refl _)
        · have hld : (figs z.cps.toList).length ≤ d := by have := of_decide_eq_false (Bool.not_eq_true _ |>.mp h1); omega
          have hl40 : (figs z.cps.toList).length ≤ 40 := by omega
          rw [iD_iV hld] at k
          walk_at "el"
          refine ⟨_, rfl, fun D hD => ?_⟩
          refine lc_of walk_str (fun i H2 => Same H' H2 ∧ H2 D = some (.lst (((((figs z.cps.toList).take i).filter fun c => !dig c).map fun c => (⟨#[c]⟩ : Str)).map V.str))) ⟨nw_of hD _, upd_same⟩ (fun _ _ _ _ => trivial) ?_ ?_
          · rintro i x H2 H3 hi ⟨s2, d2⟩ ⟨rfl, c, hc, rfl⟩
            rw [figS_list] at hc
            walk_at "el"
            refine ⟨rfl, ?_⟩
            walk_at "el"
            refine ⟨c, _, rfl, rfl, ?_⟩
            rw [in_digits]
            cases hd : dig c
            · walk_at "el"
              refine ⟨_, d2, ?_, L2.Same.mu s2 hD, ?_⟩
              · rw [List.length_map, List.length_map]
                have := List.length_filter_le (fun c => !dig c) ((figs z.cps.toList).take i)
                rw [List.length_take] at this
                omega
              · rw [upd_same, take_next hc, List.filter_append, List.filter_cons, hd]
                simp
            · walk_at "el"
              refine ⟨s2, ?_⟩
              rw [d2, take_next hc, List.filter_append, List.filter_cons, hd]
              simp
          · rintro H2 ⟨s2, d2⟩
            have hs : (figS z).cps.size = (figs z.cps.toList).length := figS_len z
            rw [hs, List.take_length] at d2
            walk_at "el"
            refine ⟨by show 0 ≤ sizeLine; decide, fun p hp => ?_⟩
            have e2 := nw_of hp (.lst [])
            have hbok : ∀ y ∈ ((figs z.cps.toList).filter fun c => !dig c).map fun c => (⟨#[c]⟩ : Str), okS9 y := by
              intro y hy
              obtain ⟨c, hc, rfl⟩ := List.mem_map.mp hy
              have hc2 := (List.mem_filter.mp hc).1
              intro x hx
              have : x = c := by simpa using hx
              subst this
              refine hok _ ?_
              rcases figs_or z.cps.toList with ⟨_, e⟩ | ⟨_, e, _⟩
              · rw [e]; exact List.mem_cons_of_mem _ hc2
              · rw [← e]; exact hc2
            refine n_neD (.lst (SqL.of (e2 _ _ d2)) (dp_strs9 _)) (.lst (SqL.of upd_same) .nil) (strs_shp hbok) rfl ?_
            rw [eqv_noS9]
            have s3 : Same H' (upd H2 p (.lst [])) := s2.trans e2
            generalize upd H2 p (.lst []) = H3 at s3 ⊢
            have hdg : digs z = (((figs z.cps.toList).filter fun c => !dig c).map fun c => (⟨#[c]⟩ : Str)).isEmpty := by
              unfold digs
              have a : (figs z.cps.toList).isEmpty = false := by
                cases e : figs z.cps.toList
                · exact absurd (decide_eq_true (congrArg V.str (str_ext (by rw [figS_list, e]; rfl)))) h0
                · rfl
              rw [a, decide_eq_true hl40, Bool.eq_iff_iff]
              simp [List.filter_eq_nil_iff]
            rw [← hdg]
            cases hb : digs z
            · walk_at "el"
              rw [← iV_no9 hb]
              exact k _ s3
            · walk_at "el"
              obtain ⟨c, r, hcr⟩ : ∃ c r, figs z.cps.toList = c :: r := by
                cases e : figs z.cps.toList with
                | nil => exact absurd e (digs_all hb).2.1
                | cons c r => exact ⟨c, r, rfl⟩
              refine ⟨figS z, 0, c, rfl, rfl, by decide, by decide, by rw [figS_len, hcr]; simp, by show (figS z).cps[0]? = some c; simp [figS, hcr], ?_⟩
              have hw := intW_law hb
              rw [hcr] at hw
              have hc0 : decide (V.str (⟨#[c]⟩ : Str) = V.str "0") = decide (c = 48) := by
                rw [Bool.eq_iff_iff, decide_eq_true_iff, decide_eq_true_iff]
                constructor
                · intro h
                  have e := congrArg (fun s : Str => s.cps.toList) (V.str.inj h)
                  have e0 : ("0" : Str).cps.toList = [48] := by decide +kernel
                  rw [e0] at e
                  simpa using e
                · intro h
                  subst h
                  have e0 : (⟨#[48]⟩ : Str) = "0" := by decide +kernel
                  rw [e0]
              have hz0 : decide (V.str z = V.str "0") = decide (z = "0") := by
                rw [Bool.eq_iff_iff, decide_eq_true_iff, decide_eq_true_iff]
                exact ⟨fun h => V.str.inj h, fun h => congrArg V.str h⟩
              have kk := k H3 s3
              walk_at "el"
              rw [hc0]
              by_cases h48 : c = 48
              · rw [decide_eq_true h48]
                walk_at "el"
                rw [hz0]
                by_cases hzz : z = "0"
                · rw [decide_eq_true hzz]
                  walk_at "el"
                  refine ⟨z, valW z, rfl, digs_int hb, Nat.le_trans (digs_len hb) (by decide), ?_⟩
                  rw [if_neg (by intro h; exact h.2 hzz)] at hw
                  have : iV9 z = .int (valW z) := by unfold iV9; rw [hw]
                  rw [this] at kk
                  walk_at "el"
                  exact kk
                · rw [decide_eq_false hzz]
                  walk_at "el"
                  rw [if_pos ⟨by rw [h48]; rfl, hzz⟩] at hw
                  have : iV9 z = .non := by unfold iV9; rw [hw]
                  rw [this] at kk
                  exact kk
              · rw [decide_eq_false h48]
                walk_at "el"
                refine ⟨z, valW z, rfl, digs_int hb, Nat.le_trans (digs_len hb) (by decide), ?_⟩
                rw [if_neg (by intro h; exact h48 (by simpa using h.1))] at hw
                have : iV9 z = .int (valW z) := by unfold iV9; rw [hw]
                rw [this] at kk
                walk_at "el"
                exact kk

theorem ok_number_of (F : Fun K "_law_number_of" "_law_number_of" s_number_of f fd) (T : Tb mg) (c_integer : Cal P w K mg base CX0 1 "_law_integer" ["_law_word", "_law_digits"] spLiD) : FnOk P w K mg base CX0 2 f fd ["_law_word"] spNo := by
  refine F.ok sc_number_of (fun vs H Q E h => ?_) (fun cdv A outer s H vs Q E hr h => ?_)
  · obtain ⟨_, rfl, _⟩ := h
    rfl
  · obtain ⟨z, rfl, hz, hok, k⟩ := h
    refine ⟨_, (pss_cons (ps_set (i := 1) sc_number_of.nd rfl (Or.inl rfl) (pe_cal c_integer (hr.mono (by decide)) pass0 (pa_cons (pv 0) (pa_cons pe_int pa_nil))))
  (pss_one (ps_ret (pe_ifExp (PW.pt (pw_and (pt_cmpR u_isnot (pv 1) pe_non (nomark _)) (pw_and1 (pt_chain op_le op_le (pe_un un_neg (pe_op op_pow pe_int pe_int)) (pv 1) (pe_op op_pow pe_int pe_int))))) (pv 1) pe_non)))), ?_⟩
    walk_at "el"
    refine ⟨z, 13, rfl, by decide, hz, hok, fun H1 s1 => ?_⟩
    unfold numO at k
    unfold iD
    cases hn : intD z 13 with
    | none =>
      rw [hn] at k
      walk_at "el"
      exact k H1 s1
    | some n =>
      rw [hn] at k
      dsimp only at k ⊢
      walk_at "el"
      rw [show decide (V.int n = V.non) = false from decide_eq_false fun c => by cases c]
      walk_at "el"
      refine a_I (show CPow 10 12 from ⟨by decide, by decide, by decide⟩) ?_
      walk_at "el"
      rw [show ((10 : Int) ^ (12 : Int).toNat) = 1000000000000 from by decide]
      by_cases h1 : -1000000000000 ≤ n
      · rw [decide_eq_true h1]
        walk_at "el"
        refine a_I (show CPow 10 12 from ⟨by decide, by decide, by decide⟩) ?_
        rw [show ((10 : Int) ^ (12 : Int).toNat) = 1000000000000 from by decide]
        walk_at "el"
        by_cases h2 : n ≤ 1000000000000
        · rw [decide_eq_true h2]
          rw [if_pos ⟨h1, h2⟩] at k
          walk_at "el"
          exact k H1 s1
        · rw [decide_eq_false h2]
          rw [if_neg fun c => h2 c.2] at k
          walk_at "el"
          exact k H1 s1
      · rw [decide_eq_false h1]
        rw [if_neg fun c => h1 c.1] at k
        walk_at "el"
        exact k H1 s1
theorem ok_index_of (F : Fun K "_law_index_of" "_law_index_of" s_index_of f fd) (T : Tb mg) (c_integer : Cal P w K mg base CX0 1 "_law_integer" ["_law_word", "_law_digits"] spLiD) : FnOk P w K mg base CX0 2 f fd ["_law_word", "_law_many"] spIx := by
  refine F.ok sc_index_of (fun vs H Q E h => ?_) (fun cdv A outer s H vs Q E hr h => ?_)
  · obtain ⟨_, _, rfl, _⟩ := h
    rfl
  · obtain ⟨z, m, rfl, hz, hok, k⟩ := h
    refine ⟨_, (pss_cons (ps_set (i := 2) sc_index_of.nd rfl (Or.inl rfl) (pe_cal c_integer (hr.mono (by decide)) pass0 (pa_cons (pv 0) (pa_cons pe_int pa_nil))))
  (pss_one (ps_ret (pe_ifExp (PW.pt (pw_and (pt_cmpR u_isnot (pv 2) pe_non (nomark _)) (pw_and1 (pt_chain op_le op_lt pe_int (pv 2) (pv 1))))) (pv 2) pe_non)))), ?_⟩
    walk_at "el"
    refine ⟨z, 3, rfl, by decide, hz, hok, fun H1 s1 => ?_⟩
    unfold idxO at k
    unfold iD
    cases hn : intD z 3 with
    | none =>
      rw [hn] at k
      walk_at "el"
      exact k H1 s1
    | some n =>
      rw [hn] at k
      dsimp only at k ⊢
      walk_at "el"
      rw [show decide (V.int n = V.non) = false from decide_eq_false fun c => by cases c]
      walk_at "el"
      by_cases h1 : 0 ≤ n
      · rw [decide_eq_true h1]
        walk_at "el"
        by_cases h2 : n < m
        · rw [decide_eq_true h2]
          rw [if_pos ⟨h1, h2⟩] at k
          walk_at "el"
          exact k H1 s1
        · rw [decide_eq_false h2]
          rw [if_neg fun c => h2 c.2] at k
          walk_at "el"
          exact k H1 s1
      · rw [decide_eq_false h1]
        rw [if_neg fun c => h1 c.1] at k
        walk_at "el"
        exact k H1 s1
end
end EL

/- part K92B -/
namespace EL
open PySem PySem.Spec PyProof.Rows L2
open PySem.W (Frag)
open TX
abbrev s_item : Stmt := top 57
abbrev N_item : List Str := ["_law_words", "_law_events", "_law_witnesses", "_law_one_here", "_law_two", "_law_found", "_law_good", "_law_many"]
theorem sc_item : FnScope N_item ["_law_words", "_law_events", "_law_witnesses"] (defScope s_item) := ⟨rfl, rfl, rfl, by decide +kernel, rfl, by decide +kernel, by decide +kernel⟩
local macro_rules | `(tactic| walk_at "el1") => `(tactic| with_reducible first
  | refine a_sasg ?_ | refine a_sdrop ?_ | refine a_saugS ?_ | refine a_spar ?_ | refine a_seq ?_ | refine a_asg ?_ | refine a_drop ?_ | refine a_ret ?_ | refine a_if ?_ | refine a_next ?_
  | refine a_op ?_ | refine a_cons ?_ | refine a_nil ?_ | refine a_cb ?_ | refine a_call ?_ | refine a_c ?_ | refine a_gn ?_ | refine a_nx ?_ | refine a_rt ?_ | refine a_un ?_
  | refine a_test ?_ | refine a_B ?_ | refine a_bl ?_ | refine a_and ?_ | refine a_or ?_ | refine a_not ?_ | refine a_andV ?_ | refine a_orV ?_ | refine a_notV ?_ | refine a_ifx ?_ | refine a_chain ?_
  | refine a_nT ?_ | refine a_nF ?_ | refine a_fld ?_ | refine a_getF ?_ | refine a_T ?_ | refine a_F ?_ | refine a_tup ?_ | refine a_lst ?_ | refine a_sub ?_ | refine a_augS ?_ | refine a_two ?_ | refine a_I0 ?_ | refine a_U ?_ | refine n_add ?_ | refine n_int ?_ | refine n_ib ?_ | refine a_ip ?_ | refine a_rng1 ?_ | refine a_rng2 ?_ | refine a_bm ?_ | refine a_abs ?_ | refine a_pairs ?_ | refine a_pairs0 ?_ | refine a_bk ?_ | refine a_prp ?_ | refine a_lc ?_ | refine a_yes ?_ | refine a_sl ?_ | refine a_nop ?_ | refine a_prt ?_ | refine a_ex1 ?_ | refine a_for ?_ | refine a_sfor ?_ | refine a_iE1 ?_ | refine a_iEs ?_ | refine a_iEz ?_ | refine a_iEnum ?_ | refine a_iTup ?_ | refine a_iList ?_ | refine a_gcons ?_ | refine a_gnil ?_ | refine a_revT ?_ | refine a_spar3 ?_ | refine a_par3 ?_ | refine a_three ?_)
local macro_rules | `(tactic| walk_at "el2") => `(tactic| first
  | (refine a_var (by rfl) ?_)
  | (refine n_ixL (SqL.of (by assumption)) (by rfl) ?_) | (refine n_ixT (SqT.of (by assumption)) (by rfl) ?_) | (refine n_eq (by rfl) ?_) | (refine n_ne (by rfl) ?_)
  | (refine n_isN ?_) | (refine n_notN ?_) | (refine n_isB ?_) | (refine n_notB ?_) | (refine n_isBI ?_) | (refine n_notBI ?_) | (refine n_len (.inl (SqL.of (by assumption))) ?_) | (refine n_len (.inr (SqT.of (by assumption))) ?_)
  | (refine a_getL (SqL.of (by assumption)) (by rfl) ?_)
  | (refine n_isInt (by assumption) ?_) | (refine n_isBool (by assumption) ?_) | (refine n_isStr (by assumption) ?_) | (refine n_isTup (by assumption) ?_) | (refine n_isLst (by assumption) ?_))
local macro_rules | `(tactic| walk_at "el") => `(tactic| repeat (first | walk_at "el1" | walk_at "el2"))

/-! ### a law's own reading of a line -/
def kindS (s : Str) : Prop := s = "early" ∨ s = "late"
instance (s : Str) : Decidable (kindS s) := inferInstanceAs (Decidable (_ ∨ _))
/-- the item that two literals tell -/
def litI (b c d e : Str) (wi : Int) : Option (Pt × List V) := match idxO b wi, idxO d wi with | some i, some j => if kindS c ∧ kindS e then some (.cla, [.int i, .str c, .int j, .str e]) else none | _, _ => none
def law3 (a b c : Str) (ev wi : Int) : Option (Pt × List V) := if a = "known" then litI b c b c wi else if a = "least" ∨ a = "most" then (match idxO b ev, numO c with | some i, some n => some (.sur, [.int i, .str a, .int n]) | _, _ => none) else none
def law4 (a b c d : Str) (ev wi : Int) : Option (Pt × List V) := if a = "tell" ∨ a = "gap" then (match idxO b (if a = "tell" then wi else ev), idxO c ev, numO d with | some i, some j, some n => if a = "gap" ∧ i = j then none else some (if a = "tell" then .tel else .gap, [.int i, .int j, .int n]) | _, _, _ => none) else none
def law5 (a b c d e : Str) (wi : Int) : Option (Pt × List V) := if a = "clause" then (if b = d ∧ c = e then none else litI b c d e wi) else none
def lawI : List Str → Int → Int → Option (Pt × List V)
  | [a, b, c], ev, wi => law3 a b c ev wi
  | [a, b, c, d], ev, wi => law4 a b c d ev wi
  | [a, b, c, d, e], _, wi => law5 a b c d e wi
  | _, _, _ => none
theorem lawI_no {a : Str} {r : List Str} {ev wi : Int} (h3 : ∀ b c, r = [b, c] → law3 a b c ev wi = none) (h4 : ∀ b c d, r = [b, c, d] → law4 a b c d ev wi = none) (h5 : ∀ b c d e, r = [b, c, d, e] → law5 a b c d e wi = none) : lawI (a :: r) ev wi = none := by
  match r with
  | [] => rfl
  | [_] => rfl
  | [b, c] => exact h3 b c rfl
  | [b, c, d] => exact h4 b c d rfl
  | [b, c, d, e] => exact h5 b c d e rfl
  | _ :: _ :: _ :: _ :: _ :: _ => rfl
theorem law3_no {a b c : Str} {ev wi : Int} (h1 : a ≠ "known") (h2 : ¬ (a = "least" ∨ a = "most")) : law3 a b c ev wi = none := by unfold law3; rw [if_neg h1, if_neg h2]
theorem law4_no {a b c d : Str} {ev wi : Int} (h : ¬ (a = "tell" ∨ a = "gap")) : law4 a b c d ev wi = none := by unfold law4; rw [if_neg h]
theorem law5_no {a b c d e : Str} {wi : Int} (h : a ≠ "clause") : law5 a b c d e wi = none := by unfold law5; rw [if_neg h]
theorem in2 (a b c : Str) : inV (.str a) [.str b, .str c] = decide (a = b ∨ a = c) := by
  show (_ == _ || (_ == _ || false)) = _
  rw [Bool.or_false, Bool.eq_iff_iff]
  simp
  exact ⟨fun h => h.imp Eq.symm Eq.symm, fun h => h.imp Eq.symm Eq.symm⟩
theorem in2i (a b c : Int) : inV (.int a) [.int b, .int c] = decide (a = b ∨ a = c) := by
  show (_ == _ || (_ == _ || false)) = _
  rw [Bool.or_false, Bool.eq_iff_iff]
  simp
  exact ⟨fun h => h.imp Eq.symm Eq.symm, fun h => h.imp Eq.symm Eq.symm⟩
theorem dk (a b : Str) : decide (V.str a = V.str b) = decide (a = b) := by
  rw [Bool.eq_iff_iff, decide_eq_true_iff, decide_eq_true_iff]; exact ⟨fun h => V.str.inj h, fun h => congrArg V.str h⟩
theorem n_notin9 {K : Frag} {H : Hp} {Q : VK} {x : V} {p : Addr} {xs : List V} {b : Bool} (h : H p = some (.tup xs)) (f1 : flatV x = true) (f2 : xs.all flatV = true) (e : inV x xs = b) (q : Q (.bl (!b)) H) : rIn K true x (.ref p) H Q := by
  subst e
  exact ⟨p, xs, rfl, .inr (SqT.of h), f1, f2, q⟩
theorem st_in {K : Frag} {σ : L2.St} {H : Hp} {Q : VK} {p : Addr} {a b c : Str} {r : List V} (hp : H p = some (.lst (.str a :: r))) (q : ∀ H', Same H H' → Q (.bl (decide (a = b ∨ a = c))) H') :
    rIx K (.ref p) (.int 0) H fun x H1 => tTup (tCons (tC (.str b)) (tCons (tC (.str c)) tNil)) σ H1 fun y H2 => rIn K false x y H2 Q := by
  refine n_ixL (SqL.of hp) (atI_nat (j := 0) (by rfl)) ?_
  refine a_tup ?_
  walk_at "el"
  refine ⟨by show 2 ≤ sizeLine; decide, fun q1 hq1 => ?_⟩
  refine n_inT upd_same rfl rfl ?_
  rw [in2]
  exact q _ (nw_of hq1 _)
def spLI : Sp := fun vs H Q _ => ∃ (p : Addr) (ws : List Str) (ev wi : Int), vs = [.ref p, .int ev, .int wi] ∧ H p = some (.lst (ws.map V.str)) ∧ ws ≠ [] ∧ ws.length ≤ 7000001 ∧ (∀ y ∈ ws, y.length ≤ 7000000 ∧ okS9 y) ∧
  (match lawI ws ev wi with
  | none => ∀ H', Same H H' → Q .non H'
  | some (pt, xs) => ∀ H' t a, Same H H' → H' t = some (.tup [.int pt.ix, .ref a]) → H' a = some (.tup xs) → Q (.ref t) H')
section
variable {P : Program} {w : World} {K : Frag} {mg : Str → Option Value} {base : Heap} {f C C_NoText aForms aParts : Addr} {fd : FuncData}
theorem ok_item92 (F : Fun K "_law_item" "_law_item" s_item f fd) (T : Tb mg) (c_index_of : Cal P w K mg base CX0 2 "_law_index_of" ["_law_word", "_law_many"] spIx) (c_number_of : Cal P w K mg base CX0 2 "_law_number_of" ["_law_word"] spNo) :
    FnOk P w K mg base CX0 3 f fd ["_law_words", "_law_events", "_law_witnesses"] spLI := by
  refine F.ok sc_item (fun vs H Q E h => ?_) (fun cdv A outer s H vs Q E hr h => ?_)
  · obtain ⟨_, _, _, _, rfl, _⟩ := h
    rfl
  · obtain ⟨p, ws, ev, wi, rfl, hp, hne, hlen, hw, k⟩ := h
    refine ⟨_, (pss_cons (ps_if (PW.pt (pw_and (pt_cmpR u_in (pe_ix ix_seq (pv 0) pe_int (fun _ _ => rfl)) (pe_tup (pa_cons pe_str (pa_cons pe_str pa_nil))) rfl) (pw_and1 (pt_cmpR u_in (pe_callB u_len rfl T.b.len_ boot_len (pa_cons (pv 0) pa_nil)) (pe_tup (pa_cons pe_int (pa_cons pe_int pa_nil))) rfl))))
    (Evl.pss_cut (ps_if (PW.pt (pw_or (pt_cmpR (u_ne hr.units) (pe_cmpR (u_eq hr.units) (pe_ix ix_seq (pv 0) pe_int (fun _ _ => rfl)) pe_str (nomark _)) (pe_cmpR (u_eq hr.units) (pe_callB u_len rfl T.b.len_ boot_len (pa_cons (pv 0) pa_nil)) pe_int (nomark _)) (nomark _)) (pw_or1 (PW.pt (pw_and (pt_cmpR (u_eq hr.units) (pe_ix ix_seq (pv 0) pe_int (fun _ _ => rfl)) pe_str (nomark _)) (pw_and1 (pt_cmpR (u_eq hr.units) (pe_slice u_slice (pv 0) (po_some pe_int) (po_some pe_int)) (pe_slice u_slice (pv 0) (po_some pe_int) po_none) (nomark _))))))))
    (pss_one (ps_ret pe_non))
    pss_nil)
  (Evl.pss_cut (ps_par (i := 3) (j := 4) rfl sc_item.nd rfl rfl (by decide) rfl rfl (pa_cons (pe_slice u_slice (pv 0) (po_some pe_int) (po_some pe_int)) (pa_cons (pe_op u_add (pe_slice u_slice (pv 0) (po_some pe_int) po_none) (pe_op u_mul (pe_slice u_slice (pv 0) (po_some pe_int) (po_some pe_int)) (pe_callTy u_int rfl T.b.int_ (by decide +kernel) (pa_cons (pe_cmpR (u_eq hr.units) (pe_callB u_len rfl T.b.len_ boot_len (pa_cons (pv 0) pa_nil)) pe_int (nomark _)) pa_nil)))) pa_nil)) (by with_unfolding_all rfl))
  (pss_cons (ps_set (i := 5) sc_item.nd rfl (Or.inl rfl) (pe_tup (pa_cons (pe_cal c_index_of (hr.mono (by decide)) pass0 (pa_cons (pe_ix ix_seq (pv 3) pe_int (fun _ _ => rfl)) (pa_cons (pv 2) pa_nil))) (pa_cons (pe_ix ix_seq (pv 3) pe_int (fun _ _ => rfl)) (pa_cons (pe_cal c_index_of (hr.mono (by decide)) pass0 (pa_cons (pe_ix ix_seq (pv 4) pe_int (fun _ _ => rfl)) (pa_cons (pv 2) pa_nil))) (pa_cons (pe_ix ix_seq (pv 4) pe_int (fun _ _ => rfl)) pa_nil))))))
  (Evl.pss_cut (ps_set (i := 6) sc_item.nd rfl (Or.inl rfl) (pe_and (pe_cmpR u_in (pe_ix ix_seq (pv 3) pe_int (fun _ _ => rfl)) (pe_tup (pa_cons pe_str (pa_cons pe_str pa_nil))) rfl) (pe_one (pe_cmpR u_in (pe_ix ix_seq (pv 4) pe_int (fun _ _ => rfl)) (pe_tup (pa_cons pe_str (pa_cons pe_str pa_nil))) rfl))))
  (pss_one (ps_ret (pe_ifExp (PW.pt (pw_and (pt_val (pv 6)) (pw_and1 (pt_cmpR u_notin pe_non (pv 5) rfl)))) (pe_tup (pa_cons pe_int (pa_cons (pv 5) pa_nil))) pe_non)))))))
    pss_nil)
  (pss_cons (ps_if (PW.pt (pw_and (pt_cmpR u_in (pe_ix ix_seq (pv 0) pe_int (fun _ _ => rfl)) (pe_tup (pa_cons pe_str (pa_cons pe_str pa_nil))) rfl) (pw_and1 (pt_cmpR (u_eq hr.units) (pe_callB u_len rfl T.b.len_ boot_len (pa_cons (pv 0) pa_nil)) pe_int (nomark _)))))
    (pss_cons (ps_set (i := 5) sc_item.nd rfl (Or.inl rfl) (pe_tup (pa_cons (pe_cal c_index_of (hr.mono (by decide)) pass0 (pa_cons (pe_ix ix_seq (pv 0) pe_int (fun _ _ => rfl)) (pa_cons (pv 1) pa_nil))) (pa_cons (pe_ix ix_seq (pv 0) pe_int (fun _ _ => rfl)) (pa_cons (pe_cal c_number_of (hr.mono (by decide)) pass0 (pa_cons (pe_ix ix_seq (pv 0) pe_int (fun _ _ => rfl)) pa_nil)) pa_nil)))))
  (pss_one (ps_ret (pe_ifExp (pt_cmpR u_notin pe_non (pv 5) rfl) (pe_tup (pa_cons pe_int (pa_cons (pv 5) pa_nil))) pe_non))))
    pss_nil)
  (pss_cons (ps_if (PW.pt (pw_and (pt_cmpR u_in (pe_ix ix_seq (pv 0) pe_int (fun _ _ => rfl)) (pe_tup (pa_cons pe_str (pa_cons pe_str pa_nil))) rfl) (pw_and1 (pt_cmpR (u_eq hr.units) (pe_callB u_len rfl T.b.len_ boot_len (pa_cons (pv 0) pa_nil)) pe_int (nomark _)))))
    (Evl.pss_cut (ps_set (i := 7) sc_item.nd rfl (Or.inl rfl) (pe_ifExp (pt_cmpR (u_eq hr.units) (pe_ix ix_seq (pv 0) pe_int (fun _ _ => rfl)) pe_str (nomark _)) (pv 2) (pv 1)))
  (pss_cons (ps_set (i := 5) sc_item.nd rfl (Or.inl rfl) (pe_tup (pa_cons (pe_cal c_index_of (hr.mono (by decide)) pass0 (pa_cons (pe_ix ix_seq (pv 0) pe_int (fun _ _ => rfl)) (pa_cons (pv 7) pa_nil))) (pa_cons (pe_cal c_index_of (hr.mono (by decide)) pass0 (pa_cons (pe_ix ix_seq (pv 0) pe_int (fun _ _ => rfl)) (pa_cons (pv 1) pa_nil))) (pa_cons (pe_cal c_number_of (hr.mono (by decide)) pass0 (pa_cons (pe_ix ix_seq (pv 0) pe_int (fun _ _ => rfl)) pa_nil)) pa_nil)))))
  (pss_cons (ps_if (PW.pt (pw_or (pt_cmpR u_in pe_non (pv 5) rfl) (pw_or1 (PW.pt (pw_and (pt_cmpR (u_eq hr.units) (pe_ix ix_seq (pv 0) pe_int (fun _ _ => rfl)) pe_str (nomark _)) (pw_and1 (pt_cmpR (u_eq hr.units) (pe_ix ix_seq (pv 5) pe_int (fun _ _ => rfl)) (pe_ix ix_seq (pv 5) pe_int (fun _ _ => rfl)) (nomark _))))))))
    (pss_one (ps_ret pe_non))
    pss_nil)
  (pss_one (ps_ret (pe_tup (pa_cons (pe_ifExp (pt_cmpR (u_eq hr.units) (pe_ix ix_seq (pv 0) pe_int (fun _ _ => rfl)) pe_str (nomark _)) pe_int pe_int) (pa_cons (pv 5) pa_nil))))))))
    pss_nil)
  (pss_one (ps_ret pe_non))))), ?_⟩
    have hs0 : sizeLine = 16777216 := rfl
    obtain ⟨a, r, rfl⟩ : ∃ a r, ws = a :: r := by cases ws with | nil => exact absurd rfl hne | cons a r => exact ⟨a, r, rfl⟩
    have hp : H p = some (.lst (.str a :: r.map V.str)) := hp
    walk_at "el"
    refine st_in hp fun H1 s1 => ?_
    have hp1 := s1 _ _ hp
    by_cases cA : a = "known" ∨ a = "clause"
    · rw [decide_eq_true cA]
      have nB : ¬ (a = "least" ∨ a = "most") := by rcases cA with rfl | rfl <;> decide +kernel
      have nD : ¬ (a = "tell" ∨ a = "gap") := by rcases cA with rfl | rfl <;> decide +kernel
      walk_at "el"
      refine ⟨by show 2 ≤ sizeLine; decide, fun q0 hq0 => ?_⟩
      have e2 := nw_of hq0 (.tup [.int 3, .int 5])
      refine n_inT upd_same rfl rfl ?_
      rw [in2i]
      have hp2 := e2 _ _ hp1
      have s2 := s1.trans e2
      generalize upd H1 q0 (.tup [.int 3, .int 5]) = H2 at hp2 s2 ⊢
      clear e2 hq0 hp hp1 s1
      by_cases c35 : r.length = 2 ∨ r.length = 4
      · rw [decide_eq_true (by rw [List.length_cons, List.length_map]; omega)]
        walk_at "el"
        refine a_cut (fun σ' H' => Same H2 H' ∧ σ' = [some (.ref p), some (.int ev), some (.int wi), none, none, none, none, none] ∧ ∃ b c d e, (r = [b, c] ∧ d = b ∧ e = c ∨ r = [b, c, d, e]) ∧ lawI (a :: r) ev wi = litI b c d e wi) ?_ ?_
        · rcases c35 with c2 | c4
          · obtain ⟨b, c, rfl⟩ : ∃ b c, r = [b, c] := by
              match r, c2 with
              | [b, c], _ => exact ⟨b, c, rfl⟩
            walk_at "el"
            rw [dk, show decide (V.int ((V.str a :: List.map V.str [b, c]).length : Int) = V.int 3) = true from rfl]
            by_cases ck : a = "known"
            · rw [decide_eq_true ck, decide_eq_true rfl]
              have nc : a ≠ "clause" := by rw [ck]; decide +kernel
              walk_at "el"
              rw [dk, decide_eq_false nc]
              walk_at "el"
              exact ⟨Same.refl _, rfl, b, c, b, c, .inl ⟨rfl, rfl, rfl⟩, by show law3 a b c ev wi = _; unfold law3; rw [if_pos ck]⟩
            · rw [decide_eq_false ck, show decide (V.bl false = V.bl true) = false from rfl]
              walk_at "el"
              have e : lawI [a, b, c] ev wi = none := law3_no ck nB
              rw [e] at k
              exact k H2 s2
          · obtain ⟨b, c, d, e, rfl⟩ : ∃ b c d e, r = [b, c, d, e] := by
              match r, c4 with
              | [b, c, d, e], _ => exact ⟨b, c, d, e, rfl⟩
            walk_at "el"
            rw [dk, show decide (V.int ((V.str a :: List.map V.str [b, c, d, e]).length : Int) = V.int 3) = false from rfl]
            by_cases ck : a = "known"
            · have nc : a ≠ "clause" := by rw [ck]; decide +kernel
              rw [decide_eq_true ck, show decide (V.bl true = V.bl false) = false from rfl]
              walk_at "el"
              have e : lawI [a, b, c, d, e] ev wi = none := law5_no nc
              rw [e] at k
              exact k H2 s2
            · have cc : a = "clause" := cA.resolve_left ck
              rw [decide_eq_false ck, decide_eq_true rfl]
              walk_at "el"
              rw [dk, decide_eq_true cc]
              walk_at "el"
              refine .inl ⟨p, _, rfl, SqL.of hp2, fun q1 hq1 => ?_⟩
              rw [show cutV (V.str a :: List.map V.str [b, c, d, e]) (some 1) (some 3) = [b, c].map V.str from rfl]
              have e3 := nw_of hq1 (.lst ([b, c].map V.str))
              have g3 := upd_at hq1 (.lst ([b, c].map V.str))
              have hp3 := e3 _ _ hp2
              generalize upd H2 q1 (.lst ([b, c].map V.str)) = H3 at e3 g3 hp3 ⊢
              walk_at "el"
              refine .inl ⟨p, _, rfl, SqL.of hp3, fun q2 hq2 => ?_⟩
              rw [show cutV (V.str a :: List.map V.str [b, c, d, e]) (some 3) none = [d, e].map V.str from rfl]
              have e4 := nw_of hq2 (.lst ([d, e].map V.str))
              refine n_eqD (.lst (SqL.of (e4 _ _ g3)) (dp_strs9 [b, c])) (.lst (SqL.of upd_same) (dp_strs9 [d, e])) (strs_shp (all2 (hw b (by simp)).2 (hw c (by simp)).2)) (strs_shp (all2 (hw d (by simp)).2 (hw e (by simp)).2)) ?_
              have s24 := e3.trans e4
              generalize upd H3 q2 (.lst ([d, e].map V.str)) = H4 at s24 ⊢
              have ee : PyData.eqv (.list ([b, c].map PyData.str)) (.list ([d, e].map PyData.str)) = decide (b = d ∧ c = e) := by
                show (b == d && (c == e && true)) = _
                rw [Bool.and_true, Bool.eq_iff_iff]; simp
              rw [ee]
              by_cases cq : b = d ∧ c = e
              · rw [decide_eq_true cq]
                walk_at "el"
                have e : lawI [a, b, c, d, e] ev wi = none := by show law5 a b c d e wi = _; unfold law5; rw [if_pos cc, if_pos cq]
                rw [e] at k
                exact k H4 (s2.trans s24)
              · rw [decide_eq_false cq]
                walk_at "el"
                exact ⟨s24, rfl, b, c, d, e, .inr rfl, by show law5 a b c d e wi = _; unfold law5; rw [if_pos cc, if_neg cq]⟩
        rintro σ' H3 ⟨s3, rfl, b, c, d, e, hr, hlaw⟩
        rw [hlaw] at k
        have hp3 := s3 _ _ hp2
        have s03 := s2.trans s3
        clear s3 hp2 s2 hlaw
        have hwb : (b.length ≤ 7000000 ∧ okS9 b) ∧ (d.length ≤ 7000000 ∧ okS9 d) := by
          rcases hr with ⟨rfl, rfl, rfl⟩ | rfl
          · exact ⟨hw _ (by simp), hw _ (by simp)⟩
          · exact ⟨hw _ (by simp), hw _ (by simp)⟩
        refine a_cut (fun σ' H' => Same H3 H' ∧ ∃ p1 p2, H' p1 = some (.lst [.str b, .str c]) ∧ H' p2 = some (.lst [.str d, .str e]) ∧ σ' = [some (.ref p), some (.int ev), some (.int wi), some (.ref p1), some (.ref p2), none, none, none]) ?_ ?_
        · rcases hr with ⟨rfl, rfl, rfl⟩ | rfl
          · refine a_par (a := .non) (b := .non) ?_
            walk_at "el"
            refine .inl ⟨p, _, rfl, SqL.of hp3, fun q1 hq1 => ?_⟩
            rw [show cutV (V.str a :: List.map V.str [d, e]) (some 1) (some 3) = [.str d, .str e] from rfl]
            have e4 := nw_of hq1 (.lst [.str d, .str e])
            have g4 := upd_at hq1 (.lst [.str d, .str e])
            have hp4 := e4 _ _ hp3
            generalize upd H3 q1 (.lst [.str d, .str e]) = H4 at e4 g4 hp4 ⊢
            walk_at "el"
            refine .inl ⟨p, _, rfl, SqL.of hp4, fun q2 hq2 => ?_⟩
            rw [show cutV (V.str a :: List.map V.str [d, e]) (some 3) none = [] from rfl]
            have e5 := nw_of hq2 (.lst [])
            have g5 := upd_at hq2 (.lst [])
            have hp5 := e5 _ _ hp4
            have g45 := e5 _ _ g4
            generalize upd H4 q2 (.lst []) = H5 at e5 g5 hp5 g45 ⊢
            walk_at "el"
            refine .inl ⟨p, _, rfl, SqL.of hp5, fun q3 hq3 => ?_⟩
            rw [show cutV (V.str a :: List.map V.str [d, e]) (some 1) (some 3) = [.str d, .str e] from rfl]
            have e6 := nw_of hq3 (.lst [.str d, .str e])
            have g6 := upd_at hq3 (.lst [.str d, .str e])
            have hp6 := e6 _ _ hp5
            have g46 := e6 _ _ g45
            have g56 := e6 _ _ g5
            generalize upd H5 q3 (.lst [.str d, .str e]) = H6 at e6 g6 hp6 g46 g56 ⊢
            walk_at "el"
            rw [show decide (V.int ((V.str a :: List.map V.str [d, e]).length : Int) = V.int 3) = true from rfl]
            walk_at "el"
            refine .inr ⟨_, _, _, rfl, rfl, g6, by decide, by decide, by show 2 * 1 ≤ sizeLine; decide, fun q4 hq4 => ?_⟩
            rw [show (List.replicate (if true = true then (1 : Int) else 0).toNat ([.str d, .str e] : List V)).flatten = ([.str d, .str e] : List V) from rfl]
            have e7 := nw_of hq4 (.lst ([.str d, .str e] : List V))
            have g7 := upd_at hq4 (.lst ([.str d, .str e] : List V))
            have g57 := e7 _ _ g56
            have g47 := e7 _ _ g46
            generalize upd H6 q4 (.lst ([.str d, .str e] : List V)) = H7 at e7 g7 g57 g47 ⊢
            refine n_cat g57 g7 (by show 0 + 2 ≤ sizeLine; decide) fun q5 hq5 => ?_
            have e8 := nw_of hq5 (.lst [.str d, .str e])
            walk_at "el"
            exact ⟨((((e4.trans e5).trans e6).trans e7).trans e8), q1, q5, e8 _ _ g47, upd_same, rfl⟩
          · refine a_par (a := .non) (b := .non) ?_
            walk_at "el"
            refine .inl ⟨p, _, rfl, SqL.of hp3, fun q1 hq1 => ?_⟩
            rw [show cutV (V.str a :: List.map V.str [b, c, d, e]) (some 1) (some 3) = [.str b, .str c] from rfl]
            have e4 := nw_of hq1 (.lst [.str b, .str c])
            have g4 := upd_at hq1 (.lst [.str b, .str c])
            have hp4 := e4 _ _ hp3
            generalize upd H3 q1 (.lst [.str b, .str c]) = H4 at e4 g4 hp4 ⊢
            walk_at "el"
            refine .inl ⟨p, _, rfl, SqL.of hp4, fun q2 hq2 => ?_⟩
            rw [show cutV (V.str a :: List.map V.str [b, c, d, e]) (some 3) none = [.str d, .str e] from rfl]
            have e5 := nw_of hq2 (.lst [.str d, .str e])
            have g5 := upd_at hq2 (.lst [.str d, .str e])
            have hp5 := e5 _ _ hp4
            have g45 := e5 _ _ g4
            generalize upd H4 q2 (.lst [.str d, .str e]) = H5 at e5 g5 hp5 g45 ⊢
            walk_at "el"
            refine .inl ⟨p, _, rfl, SqL.of hp5, fun q3 hq3 => ?_⟩
            rw [show cutV (V.str a :: List.map V.str [b, c, d, e]) (some 1) (some 3) = [.str b, .str c] from rfl]
            have e6 := nw_of hq3 (.lst [.str b, .str c])
            have g6 := upd_at hq3 (.lst [.str b, .str c])
            have hp6 := e6 _ _ hp5
            have g46 := e6 _ _ g45
            have g56 := e6 _ _ g5
            generalize upd H5 q3 (.lst [.str b, .str c]) = H6 at e6 g6 hp6 g46 g56 ⊢
            walk_at "el"
            rw [show decide (V.int ((V.str a :: List.map V.str [b, c, d, e]).length : Int) = V.int 3) = false from rfl]
            walk_at "el"
            refine .inr ⟨_, _, _, rfl, rfl, g6, by decide, by decide, by show 2 * 0 ≤ sizeLine; decide, fun q4 hq4 => ?_⟩
            rw [show (List.replicate (if false = true then (1 : Int) else 0).toNat ([.str b, .str c] : List V)).flatten = ([] : List V) from rfl]
            have e7 := nw_of hq4 (.lst ([] : List V))
            have g7 := upd_at hq4 (.lst ([] : List V))
            have g57 := e7 _ _ g56
            have g47 := e7 _ _ g46
            generalize upd H6 q4 (.lst ([] : List V)) = H7 at e7 g7 g57 g47 ⊢
            refine n_cat g57 g7 (by show 2 + 0 ≤ sizeLine; decide) fun q5 hq5 => ?_
            have e8 := nw_of hq5 (.lst [.str d, .str e])
            walk_at "el"
            exact ⟨((((e4.trans e5).trans e6).trans e7).trans e8), q1, q5, e8 _ _ g47, upd_same, rfl⟩
        rintro σ' H4 ⟨s4, p1, p2, g1, g2, rfl⟩
        have s04 := s03.trans s4
        clear s4 s03 hp3 hr hw
        unfold litI at k
        walk_at "el"
        refine ⟨b, wi, rfl, hwb.1.1, hwb.1.2, fun H5 s5 => ?_⟩
        have g15 := s5 _ _ g1
        have g25 := s5 _ _ g2
        walk_at "el"
        refine ⟨d, wi, rfl, hwb.2.1, hwb.2.2, fun H6 s6 => ?_⟩
        have g16 := s6 _ _ g15
        have g26 := s6 _ _ g25
        have s06 := (s04.trans s5).trans s6
        clear g1 g2 g15 g25 s5 s6 s04
        walk_at "el"
        refine ⟨by show 4 ≤ sizeLine; decide, fun q hq => ?_⟩
        have e7 := nw_of hq (.tup [optV (idxO b wi), .str c, optV (idxO d wi), .str e])
        have g7 := upd_at hq (.tup [optV (idxO b wi), .str c, optV (idxO d wi), .str e])
        have s07 := s06.trans e7
        have g17 := e7 _ _ g16
        have g27 := e7 _ _ g26
        generalize upd H6 q (.tup [optV (idxO b wi), .str c, optV (idxO d wi), .str e]) = H7 at g7 g17 g27 s07 ⊢
        clear e7 g16 g26 s06 hq
        refine a_cut (fun σ' H' => Same H7 H' ∧ σ' = [some (.ref p), some (.int ev), some (.int wi), some (.ref p1), some (.ref p2), some (.ref q), some (.bl (decide (kindS c ∧ kindS e))), none]) ?_ ?_
        · walk_at "el"
          refine ⟨by show 2 ≤ sizeLine; decide, fun q8 hq8 => ?_⟩
          have e8 := nw_of hq8 (.tup [.str "early", .str "late"])
          refine n_inT upd_same rfl rfl ?_
          rw [in2]
          have g28 := e8 _ _ g27
          generalize upd H7 q8 (.tup [.str "early", .str "late"]) = H8 at e8 g28 ⊢
          by_cases k1 : c = "early" ∨ c = "late"
          · rw [decide_eq_true k1]
            walk_at "el"
            refine ⟨by show 2 ≤ sizeLine; decide, fun q9 hq9 => ?_⟩
            have e9 := nw_of hq9 (.tup [.str "early", .str "late"])
            refine n_inT upd_same rfl rfl ?_
            rw [in2]
            walk_at "el"
            have e : decide (e = "early" ∨ e = "late") = decide (kindS c ∧ kindS e) := by
              rw [Bool.eq_iff_iff, decide_eq_true_iff, decide_eq_true_iff]; exact ⟨fun h => ⟨k1, h⟩, fun h => h.2⟩
            rw [e]
            exact ⟨e8.trans e9, rfl⟩
          · rw [decide_eq_false k1]
            walk_at "el"
            have e : decide (kindS c ∧ kindS e) = false := decide_eq_false fun h => k1 h.1
            rw [e]
            exact ⟨e8, rfl⟩
        rintro σ' H8 ⟨s8, rfl⟩
        have g8 := s8 _ _ g7
        have s08 := s07.trans s8
        walk_at "el"
        generalize idxO b wi = x1 at k g8
        generalize idxO d wi = x2 at k g8
        by_cases kk : kindS c ∧ kindS e
        · rw [decide_eq_true kk]
          walk_at "el"
          match x1, x2, k, g8 with
          | none, x2, k, g8 =>
            refine n_notin9 g8 rfl (by cases x2 <;> rfl) (b := true) rfl ?_
            walk_at "el"
            exact k _ s08
          | some i, none, k, g8 =>
            refine n_notin9 g8 rfl rfl (b := true) rfl ?_
            walk_at "el"
            exact k _ s08
          | some i, some j, k, g8 =>
            refine n_notin9 g8 rfl rfl (b := false) rfl ?_
            have g8 : H8 q = some (.tup [.int i, .str c, .int j, .str e]) := g8
            dsimp only at k
            rw [if_pos kk] at k
            walk_at "el"
            refine ⟨by show 2 ≤ sizeLine; decide, fun t ht => ?_⟩
            exact k _ t q (s08.trans (nw_of ht _)) upd_same (nw_of ht _ _ _ g8)
        · rw [decide_eq_false kk]
          walk_at "el"
          match x1, x2, k, g8 with
          | none, x2, k, g8 => exact k _ s08
          | some i, none, k, g8 => exact k _ s08
          | some i, some j, k, g8 =>
            dsimp only at k
            rw [if_neg kk] at k
            exact k _ s08
      · rw [decide_eq_false (by rw [List.length_cons, List.length_map]; omega)]
        walk_at "el"
        refine st_in hp2 fun H3 s3 => ?_
        have hp3 := s3 _ _ hp2
        rw [decide_eq_false nB]
        walk_at "el"
        refine st_in hp3 fun H4 s4 => ?_
        rw [decide_eq_false nD]
        walk_at "el"
        have e : lawI (a :: r) ev wi = none := lawI_no (fun _ _ e => absurd (.inl (by rw [e]; rfl)) c35) (fun _ _ _ _ => law4_no nD) fun _ _ _ _ e => absurd (.inr (by rw [e]; rfl)) c35
        rw [e] at k
        exact k H4 ((s2.trans s3).trans s4)
    · rw [decide_eq_false cA]
      walk_at "el"
      refine st_in hp1 fun H2 s2 => ?_
      have hp2 := s2 _ _ hp1
      by_cases cB : a = "least" ∨ a = "most"
      · rw [decide_eq_true cB]
        have nD : ¬ (a = "tell" ∨ a = "gap") := by rcases cB with rfl | rfl <;> decide +kernel
        have n3 : a ≠ "known" := fun e => cA (.inl e)
        have n5 : a ≠ "clause" := fun e => cA (.inr e)
        walk_at "el"
        by_cases c3 : r.length = 2
        · obtain ⟨b, c, rfl⟩ : ∃ b c, r = [b, c] := by
            match r, c3 with
            | [b, c], _ => exact ⟨b, c, rfl⟩
          obtain ⟨w1, w2⟩ := hw b (by simp)
          obtain ⟨w3, w4⟩ := hw c (by simp)
          have k : (match law3 a b c ev wi with
            | none => ∀ H', Same H H' → Q .non H'
            | some (pt, xs) => ∀ H' t a, Same H H' → H' t = some (.tup [.int pt.ix, .ref a]) → H' a = some (.tup xs) → Q (.ref t) H') := k
          unfold law3 at k
          rw [if_neg n3, if_pos cB] at k
          have s02 := s1.trans s2
          clear s1 s2 hp hp1
          rw [show decide (V.int ((V.str a :: List.map V.str [b, c]).length : Int) = V.int 3) = true from rfl]
          walk_at "el"
          refine ⟨b, _, rfl, w1, w2, fun H4 s4 => ?_⟩
          have hp4 := s4 _ _ hp2
          walk_at "el"
          refine ⟨c, rfl, w3, w4, fun H6 s6 => ?_⟩
          have hp6 := s6 _ _ hp4
          have s36 := (s02.trans s4).trans s6
          clear hp4 s4 s6 s02 hp2
          walk_at "el"
          refine ⟨by show 3 ≤ sizeLine; decide, fun q hq => ?_⟩
          have e7 := nw_of hq (.tup [optV (idxO b ev), .str a, optV (numO c)])
          have g7 := upd_at hq (.tup [optV (idxO b ev), .str a, optV (numO c)])
          have s37 := s36.trans e7
          generalize upd H6 q (.tup [optV (idxO b ev), .str a, optV (numO c)]) = H7 at g7 s37 ⊢
          clear e7 hq hp6 s36
          walk_at "el"
          generalize idxO b ev = x1 at k g7
          generalize numO c = x3 at k g7
          match x1, x3, k, g7 with
          | none, x3, k, g7 =>
            refine n_notin9 g7 rfl (by cases x3 <;> rfl) (b := true) rfl ?_
            walk_at "el"
            exact k _ s37
          | some i, none, k, g7 =>
            refine n_notin9 g7 rfl rfl (b := true) rfl ?_
            walk_at "el"
            exact k _ s37
          | some i, some n, k, g7 =>
            refine n_notin9 g7 rfl rfl (b := false) rfl ?_
            have g7 : H7 q = some (.tup [.int i, .str a, .int n]) := g7
            dsimp only at k
            walk_at "el"
            refine ⟨by show 2 ≤ sizeLine; decide, fun t ht => ?_⟩
            exact k _ t q (s37.trans (nw_of ht _)) upd_same (nw_of ht _ _ _ g7)
        · rw [show decide (V.int ((V.str a :: List.map V.str r).length : Int) = V.int 3) = false from decide_eq_false fun e => c3 (by have := V.int.inj e; rw [List.length_cons, List.length_map] at this; omega)]
          walk_at "el"
          refine st_in hp2 fun H3 s3 => ?_
          rw [decide_eq_false nD]
          walk_at "el"
          have e : lawI (a :: r) ev wi = none := lawI_no (fun _ _ e => absurd (by rw [e]; rfl) c3) (fun _ _ _ _ => law4_no nD) fun _ _ _ _ _ => law5_no n5
          rw [e] at k
          exact k H3 ((s1.trans s2).trans s3)
      · rw [decide_eq_false cB]
        walk_at "el"
        refine st_in hp2 fun H3 s3 => ?_
        have hp3 := s3 _ _ hp2
        by_cases cD : a = "tell" ∨ a = "gap"
        · rw [decide_eq_true cD]
          have n3 : a ≠ "known" := fun e => cA (.inl e)
          have n5 : a ≠ "clause" := fun e => cA (.inr e)
          walk_at "el"
          by_cases c4 : r.length = 3
          · obtain ⟨b, c, d, rfl⟩ : ∃ b c d, r = [b, c, d] := by
              match r, c4 with
              | [b, c, d], _ => exact ⟨b, c, d, rfl⟩
            obtain ⟨w1, w2⟩ := hw b (by simp)
            obtain ⟨w3, w4⟩ := hw c (by simp)
            obtain ⟨w5, w6⟩ := hw d (by simp)
            have k : (match law4 a b c d ev wi with
              | none => ∀ H', Same H H' → Q .non H'
              | some (pt, xs) => ∀ H' t a, Same H H' → H' t = some (.tup [.int pt.ix, .ref a]) → H' a = some (.tup xs) → Q (.ref t) H') := k
            unfold law4 at k
            rw [if_pos cD] at k
            have s03 := (s1.trans s2).trans s3
            clear s1 s2 s3 hp hp1 hp2
            walk_at "el"
            refine a_cut (fun σ' H' => H' = H3 ∧ σ' = [some (.ref p), some (.int ev), some (.int wi), none, none, none, none, some (.int (if a = "tell" then wi else ev))]) ?_ ?_
            · walk_at "el"
              rw [dk]
              by_cases ct : a = "tell"
              · rw [decide_eq_true ct, if_pos ct]
                walk_at "el"
                exact ⟨rfl, rfl⟩
              · rw [decide_eq_false ct, if_neg ct]
                walk_at "el"
                exact ⟨rfl, rfl⟩
            rintro σ' H' ⟨rfl, rfl⟩
            walk_at "el"
            refine ⟨b, _, rfl, w1, w2, fun H4 s4 => ?_⟩
            have hp4 := s4 _ _ hp3
            walk_at "el"
            refine ⟨c, _, rfl, w3, w4, fun H5 s5 => ?_⟩
            have hp5 := s5 _ _ hp4
            walk_at "el"
            refine ⟨d, rfl, w5, w6, fun H6 s6 => ?_⟩
            have hp6 := s6 _ _ hp5
            have s36 := ((s03.trans s4).trans s5).trans s6
            clear hp4 hp5 s4 s5 s6 s03 hp3
            walk_at "el"
            refine ⟨by show 3 ≤ sizeLine; decide, fun q hq => ?_⟩
            have e7 := nw_of hq (.tup [optV (idxO b (if a = "tell" then wi else ev)), optV (idxO c ev), optV (numO d)])
            have g7 := upd_at hq (.tup [optV (idxO b (if a = "tell" then wi else ev)), optV (idxO c ev), optV (numO d)])
            have hp7 := e7 _ _ hp6
            have s37 := s36.trans e7
            generalize upd H6 q (.tup [optV (idxO b (if a = "tell" then wi else ev)), optV (idxO c ev), optV (numO d)]) = H7 at g7 hp7 s37 ⊢
            clear e7 hq hp6 s36
            walk_at "el"
            generalize idxO b (if a = "tell" then wi else ev) = x1 at k g7
            generalize idxO c ev = x2 at k g7
            generalize numO d = x3 at k g7
            match x1, x2, x3, k, g7 with
            | none, x2, x3, k, g7 =>
              refine n_inT g7 rfl (by cases x2 <;> cases x3 <;> rfl) ?_
              rw [show inV .non [optV none, optV x2, optV x3] = true from rfl]
              walk_at "el"
              exact k _ s37
            | some i, none, x3, k, g7 =>
              refine n_inT g7 rfl (by cases x3 <;> rfl) ?_
              rw [show inV .non [optV (some i), optV none, optV x3] = true from rfl]
              walk_at "el"
              exact k _ s37
            | some i, some j, none, k, g7 =>
              refine n_inT g7 rfl rfl ?_
              rw [show inV .non [optV (some i), optV (some j), optV none] = true from rfl]
              walk_at "el"
              exact k _ s37
            | some i, some j, some n, k, g7 =>
              refine n_inT g7 rfl rfl ?_
              rw [show inV .non [optV (some i), optV (some j), optV (some n)] = false from rfl]
              have g7 : H7 q = some (.tup [.int i, .int j, .int n]) := g7
              dsimp only at k
              walk_at "el"
              rw [dk]
              by_cases cg : a = "gap"
              · have nt : a ≠ "tell" := by rw [cg]; decide +kernel
                rw [decide_eq_true cg]
                walk_at "el"
                have di : decide (V.int i = V.int j) = decide (i = j) := by
                  rw [Bool.eq_iff_iff, decide_eq_true_iff, decide_eq_true_iff]; exact ⟨fun h => V.int.inj h, fun h => congrArg V.int h⟩
                rw [di]
                by_cases ij : i = j
                · rw [decide_eq_true ij]
                  rw [if_pos ⟨cg, ij⟩] at k
                  walk_at "el"
                  exact k _ s37
                · rw [decide_eq_false ij]
                  rw [if_neg fun e => ij e.2, if_neg nt] at k
                  walk_at "el"
                  rw [dk, decide_eq_false nt]
                  walk_at "el"
                  refine ⟨by show 2 ≤ sizeLine; decide, fun t ht => ?_⟩
                  exact k _ t q (s37.trans (nw_of ht _)) upd_same (nw_of ht _ _ _ g7)
              · have ct : a = "tell" := cD.resolve_right cg
                rw [decide_eq_false cg]
                rw [if_neg fun e => cg e.1, if_pos ct] at k
                walk_at "el"
                rw [dk, decide_eq_true ct]
                walk_at "el"
                refine ⟨by show 2 ≤ sizeLine; decide, fun t ht => ?_⟩
                exact k _ t q (s37.trans (nw_of ht _)) upd_same (nw_of ht _ _ _ g7)
          · rw [show decide (V.int ((V.str a :: List.map V.str r).length : Int) = V.int 4) = false from decide_eq_false fun e => c4 (by have := V.int.inj e; rw [List.length_cons, List.length_map] at this; omega)]
            walk_at "el"
            have e : lawI (a :: r) ev wi = none := lawI_no (fun _ _ _ => law3_no n3 cB) (fun _ _ _ e => absurd (by rw [e]; rfl) c4) fun _ _ _ _ _ => law5_no n5
            rw [e] at k
            exact k H3 ((s1.trans s2).trans s3)
        · rw [decide_eq_false cD]
          walk_at "el"
          have e : lawI (a :: r) ev wi = none := lawI_no (fun _ _ _ => law3_no (fun e => cA (.inl e)) cB) (fun _ _ _ _ => law4_no cD) fun _ _ _ _ _ => law5_no fun e => cA (.inr e)
          rw [e] at k
          exact k H3 ((s1.trans s2).trans s3)
end
end EL

/- part K92C -/
namespace EL
open PySem PySem.Spec PyProof.Rows L2
open PySem.W (Frag)
open TX
/-! ### a law reads a line as the program does -/
theorem intW_back {z : Str} {n : Int} (h : intW z = some n) : showI n = z := by
  unfold intW at h
  split at h
  · split at h
    · cases h; assumption
    · cases h
  · cases h
theorem figs_short {z : Str} {n : Int} {k : Nat} (h : intW z = some n) (hn : n.natAbs < 10 ^ k) (hk : 0 < k) : (figs z.cps.toList).length ≤ k := by
  rw [← intW_back h, (figs_show n).1, List.length_map]
  exact (Nat.length_toDigits_le_iff (by decide) hk).mpr hn
theorem v1_int {z : Str} {n : Int} : valV1 z = .int n ↔ intW z = some n := by
  constructor
  · intro h
    unfold valV1 at h
    split at h
    · cases h
    · cases e : intW z with
      | none => rw [e] at h; cases h
      | some m => rw [e] at h; cases h; rfl
  · intro h
    have nk : kindB (.str z) = false := by
      cases c : kindB (.str z) with
      | false => rfl
      | true =>
        exfalso
        have q : (decide (z = "early") || decide (z = "late")) = true := c
        rw [Bool.or_eq_true, decide_eq_true_iff, decide_eq_true_iff] at q
        have e1 : intW "early" = none := by decide +kernel
        have e2 : intW "late" = none := by decide +kernel
        rcases q with q | q
        · rw [q, e1] at h; cases h
        · rw [q, e2] at h; cases h
    unfold valV1
    rw [nk, h]; rfl
theorem v1_str {z s : Str} (h : valV1 z = .str s) : z = s ∧ kindS s := by
  unfold valV1 at h
  split at h
  · rename_i q
    cases h
    have q : (decide (z = "early") || decide (z = "late")) = true := q
    rw [Bool.or_eq_true, decide_eq_true_iff, decide_eq_true_iff] at q
    exact ⟨rfl, q⟩
  · cases e : intW z with
    | none => rw [e] at h; cases h
    | some m => rw [e] at h; cases h
theorem idx_iff {z : Str} {m n : Int} (hm : m ≤ 8) : idxO z m = some n ↔ intW z = some n ∧ 0 ≤ n ∧ n < m := by
  unfold idxO intD
  constructor
  · intro h
    split at h
    · rename_i k e
      split at e
      · split at h
        · cases h; exact ⟨e, by assumption⟩
        · cases h
      · cases e
    · cases h
  · rintro ⟨h, h0, h1⟩
    have l := figs_short (k := 3) h (Nat.lt_of_le_of_lt (by omega : n.natAbs ≤ 8) (by decide)) (by decide)
    rw [if_pos l, h]
    dsimp only
    rw [if_pos ⟨h0, h1⟩]
theorem num_iff {z : Str} {n : Int} : numO z = some n ↔ intW z = some n ∧ n.natAbs ≤ 1000000000000 := by
  unfold numO intD
  constructor
  · intro h
    split at h
    · rename_i k e
      split at e
      · split at h
        · cases h; exact ⟨e, by omega⟩
        · cases h
      · cases e
    · cases h
  · rintro ⟨h, h1⟩
    have l := figs_short (k := 13) h (Nat.lt_of_le_of_lt h1 (by decide)) (by decide)
    rw [if_pos l, h]
    dsimp only
    rw [if_pos ⟨by omega, by omega⟩]
def hpD (xs : List V) : Hp := fun _ => some (.tup xs)
theorem item_st {p : Pt} {xs : List V} {ev wi : Int} (h : ItemOk p (hpD xs) (.ref 0) ev wi) : xs.length = p.form.length ∧ StandsTo p xs ev wi p.form.length := by
  obtain ⟨a, ys, e, ha, hl, hs⟩ := h
  cases e; cases ha
  exact ⟨hl, hs⟩
theorem st_item {p : Pt} {xs : List V} {ev wi : Int} (hl : xs.length = p.form.length) (hs : StandsTo p xs ev wi p.form.length) : ItemOk p (hpD xs) (.ref 0) ev wi := ⟨0, xs, rfl, rfl, hl, hs⟩
theorem line_back (line : Str) {ws : List Str} (h : Txt.split line sp1 = ws) : lineS ws = line := by
  rw [← h]
  exact (StrLaws.glued_eq_join _ _).trans (StrLaws.join_split line sp1)
theorem num15 {n : Int} (h : n.natAbs ≤ 1000000000000) : -1000000000000000 ≤ n ∧ n ≤ 1000000000000000 := ⟨by omega, by omega⟩
theorem lawI_told {line : Str} {ev wi : Int} (e8 : ev ≤ 8) (w8 : wi ≤ 8) {pt : Pt} {xs : List V} (h : lawI (Txt.split line sp1) ev wi = some (pt, xs)) : ∃ wd r, Told line ev wi pt xs wd r := by
  generalize hws : Txt.split line sp1 = ws at h
  have hb := line_back line hws
  have lit : ∀ {b c d e : Str}, litI b c d e wi = some (pt, xs) → ∃ i j : Int, pt = .cla ∧ xs = [.int i, .str c, .int j, .str e] ∧ intW b = some i ∧ intW d = some j ∧ (0 ≤ i ∧ i < wi) ∧ (0 ≤ j ∧ j < wi) ∧ kindS c ∧ kindS e := fun {b c d e} h => by
    unfold litI at h
    split at h
    · rename_i i j h1 h2
      split at h
      · rename_i k; cases h
        obtain ⟨a1, a2⟩ := (idx_iff w8).mp h1
        obtain ⟨b1, b2⟩ := (idx_iff w8).mp h2
        exact ⟨i, j, rfl, rfl, a1, b1, a2, b2, k.1, k.2⟩
      · cases h
    · cases h
  match ws, h with
  | [a, b, c], h =>
    have h : law3 a b c ev wi = some (pt, xs) := h
    unfold law3 at h
    split at h
    · rename_i ck
      subst ck
      obtain ⟨i, j, rfl, rfl, h1, h2, h3, h4, k1, k2⟩ := lit h
      rw [h1] at h2; cases h2
      obtain ⟨l, s⟩ := item_st (item_cla (H := hpD _) (q := 0) rfl h3.1 h3.2 k1 h4.1 h4.2 k2)
      refine ⟨"known", [b, c], hws, by decide +kernel, ?_, l, s, .inl rfl, ?_⟩
      · unfold itemV; rw [if_pos rfl]
        show _ = [valV1 b, valV1 c, valV1 b, valV1 c]
        rw [v1_int.mpr h1, v1_kind k1]
      · show lineS (wL (i, c, i, c)) = line
        unfold wL; rw [if_pos ⟨rfl, rfl⟩, ← hb]
        show lineS ["known", showI i, c] = _
        rw [intW_back h1]
    · split at h
      · rename_i ca
        split at h
        · rename_i i n h1 h2
          cases h
          obtain ⟨h1, h3⟩ := (idx_iff e8).mp h1
          obtain ⟨h2, h4⟩ := num_iff.mp h2
          obtain ⟨l, s⟩ := item_st (item_sur (wi := wi) (H := hpD _) (q := 0) rfl h3.1 h3.2 ca (num15 h4).1 (num15 h4).2)
          have nk : a ≠ "known" := by assumption
          refine ⟨a, [b, c], hws, by rcases ca with h | h <;> rw [h] <;> decide +kernel, ?_, l, s, .inr ⟨n, rfl, h4⟩, ?_⟩
          · unfold itemV; rw [if_neg nk, if_pos ca]
            show _ = cutV [valV1 b, valV1 c] none (some 1) ++ [_] ++ cutV [valV1 b, valV1 c] (some 1) none
            rw [v1_int.mpr h1, v1_int.mpr h2]; rfl
          · show lineS (wS (i, a, n)) = line
            unfold wS; rw [← hb]
            show lineS [a, showI i, showI n] = _
            rw [intW_back h1, intW_back h2]
        · cases h
      · cases h
  | [a, b, c, d], h =>
    have h : law4 a b c d ev wi = some (pt, xs) := h
    unfold law4 at h
    split at h
    · rename_i ca
      split at h
      · rename_i i j n h1 h2 h3
        obtain ⟨h2, h5⟩ := (idx_iff e8).mp h2
        obtain ⟨h3, h6⟩ := num_iff.mp h3
        split at h
        · cases h
        · rename_i ng
          by_cases ct : a = "tell"
          · rw [if_pos ct] at h h1
            obtain ⟨h1, h4⟩ := (idx_iff w8).mp h1
            cases h
            subst ct
            obtain ⟨l, s⟩ := item_st (item_tel (H := hpD _) (q := 0) rfl h4.1 h4.2 h5.1 h5.2 (num15 h6).1 (num15 h6).2)
            refine ⟨"tell", [b, c, d], hws, by decide +kernel, ?_, l, s, .inr ⟨n, rfl, h6⟩, ?_⟩
            · unfold itemV; rw [if_neg (by decide +kernel), if_neg (by decide +kernel)]
              show _ = [valV1 b, valV1 c, valV1 d]
              rw [v1_int.mpr h1, v1_int.mpr h2, v1_int.mpr h3]
            · show lineS ["tell", showI i, showI j, showI n] = line
              rw [← hb, intW_back h1, intW_back h2, intW_back h3]
          · rw [if_neg ct] at h h1
            obtain ⟨h1, h4⟩ := (idx_iff e8).mp h1
            have cg : a = "gap" := ca.resolve_left ct
            cases h
            subst cg
            obtain ⟨l, s⟩ := item_st (item_gap (wi := wi) (H := hpD _) (q := 0) rfl h4.1 h4.2 h5.1 h5.2 (fun e => ng ⟨rfl, e.symm⟩) (num15 h6).1 (num15 h6).2)
            refine ⟨"gap", [b, c, d], hws, by decide +kernel, ?_, l, s, .inr ⟨n, rfl, h6⟩, ?_⟩
            · unfold itemV; rw [if_neg (by decide +kernel), if_neg (by decide +kernel)]
              show _ = [valV1 b, valV1 c, valV1 d]
              rw [v1_int.mpr h1, v1_int.mpr h2, v1_int.mpr h3]
            · show lineS ["gap", showI i, showI j, showI n] = line
              rw [← hb, intW_back h1, intW_back h2, intW_back h3]
      · cases h
    · cases h
  | [a, b, c, d, e], h =>
    replace h : law5 a b c d e wi = some (pt, xs) := h
    unfold law5 at h
    split at h
    · rename_i ck
      split at h
      · cases h
      · rename_i ne
        obtain ⟨i, j, rfl, rfl, h1, h2, h3, h4, k1, k2⟩ := lit h
        obtain ⟨l, s⟩ := item_st (item_cla (H := hpD _) (q := 0) rfl h3.1 h3.2 k1 h4.1 h4.2 k2)
        subst ck
        refine ⟨"clause", [b, c, d, e], hws, by decide +kernel, ?_, l, s, .inl rfl, ?_⟩
        · unfold itemV; rw [if_neg (by decide +kernel), if_neg (by decide +kernel)]
          show _ = [valV1 b, valV1 c, valV1 d, valV1 e]
          rw [v1_int.mpr h1, v1_int.mpr h2, v1_kind k1, v1_kind k2]
        · show lineS (wL (i, c, j, e)) = line
          have n2 : ¬ (i = j ∧ c = e) := fun h => ne ⟨by rw [← intW_back h1, ← intW_back h2, h.1], h.2⟩
          unfold wL; rw [if_neg n2, ← hb]
          show lineS ["clause", showI i, c, showI j, e] = _
          rw [intW_back h1, intW_back h2]
    · cases h
  | [], h => cases h
  | [_], h => cases h
  | [_, _], h => cases h
  | _ :: _ :: _ :: _ :: _ :: _ :: _, h => cases h
theorem told_lawI {line : Str} {ev wi : Int} (e8 : ev ≤ 8) (w8 : wi ≤ 8) {pt : Pt} {xs : List V} {wd : Str} {r : List Str} (h : Told line ev wi pt xs wd r) : lawI (Txt.split line sp1) ev wi = some (pt, xs) := by
  obtain ⟨sp, hpt, it, ln, st, lo, eq⟩ := h
  rw [sp]
  have ok := st_item ln st
  rcases partW_cases hpt with ⟨rfl, rfl⟩ | ⟨rfl, rfl⟩ | ⟨rfl, rfl⟩ | ⟨rfl, rfl⟩ | ⟨rfl, rfl⟩ | ⟨rfl, rfl⟩
  · have it : xs = r.map valV1 := by rw [it]; unfold itemV; rw [if_neg (by decide +kernel), if_neg (by decide +kernel)]
    obtain ⟨_, ⟨i, j, n⟩, _, hy, hi, hj, hn⟩ := item_tel_inv ok
    have hy : xs = [.int i, .int j, .int n] := by cases hy; rfl
    rw [hy] at it lo
    have hl : r.length = 3 := by have := congrArg List.length it; rw [List.length_map] at this; exact this.symm
    match r, hl, it with
    | [b, c, d], _, it =>
      simp only [List.map_cons, List.map_nil, List.cons.injEq, and_true] at it
      obtain ⟨i1, i2, i3⟩ := it
      have lo : n.natAbs ≤ 1000000000000 := by
        rcases lo with h | ⟨m, h, l⟩
        · cases h
        · cases h; exact l
      show law4 "tell" b c d ev wi = _
      unfold law4
      rw [if_pos (.inl rfl), if_pos rfl, (idx_iff w8).mpr ⟨v1_int.mp i1.symm, hi⟩, (idx_iff e8).mpr ⟨v1_int.mp i2.symm, hj⟩, num_iff.mpr ⟨v1_int.mp i3.symm, lo⟩]
      dsimp only
      rw [if_neg fun e => absurd e.1 (by decide +kernel), if_pos rfl, hy]
  · have it : xs = r.map valV1 := by rw [it]; unfold itemV; rw [if_neg (by decide +kernel), if_neg (by decide +kernel)]
    obtain ⟨_, i, j, n, _, hy, hi, hi', hj, hj', ne⟩ := item_gap_inv ok
    have hy : xs = [.int i, .int j, .int n] := by cases hy; rfl
    rw [hy] at it lo
    have hl : r.length = 3 := by have := congrArg List.length it; rw [List.length_map] at this; exact this.symm
    match r, hl, it with
    | [b, c, d], _, it =>
      simp only [List.map_cons, List.map_nil, List.cons.injEq, and_true] at it
      obtain ⟨i1, i2, i3⟩ := it
      have lo : n.natAbs ≤ 1000000000000 := by
        rcases lo with h | ⟨m, h, l⟩
        · cases h
        · cases h; exact l
      have nt : ("gap" : Str) ≠ "tell" := by decide +kernel
      show law4 "gap" b c d ev wi = _
      unfold law4
      rw [if_pos (.inr rfl), if_neg nt, (idx_iff e8).mpr ⟨v1_int.mp i1.symm, hi, hi'⟩, (idx_iff e8).mpr ⟨v1_int.mp i2.symm, hj, hj'⟩, num_iff.mpr ⟨v1_int.mp i3.symm, lo⟩]
      dsimp only
      rw [if_neg fun e => ne e.2.symm, if_neg nt, hy]
  iterate 2
    have it' := it
    unfold itemV at it'
    rw [if_neg (by decide +kernel), if_pos (by first | exact .inl rfl | exact .inr rfl)] at it'
    obtain ⟨_, ⟨i, s, n⟩, _, hy, hi, hs, hn⟩ := item_sur_inv ok
    have hy : xs = [.int i, .str s, .int n] := by cases hy; rfl
    have hl : r.length = 2 := by
      have := congrArg List.length it'
      rw [hy] at this
      match r, this with
      | [], h => cases h
      | [_], h => cases h
      | [_, _], _ => rfl
      | _ :: _ :: _ :: l, h =>
        exfalso
        have h : 3 = (cutV (valV1 _ :: valV1 _ :: valV1 _ :: l.map valV1) none (some 1) ++ [_] ++ cutV (valV1 _ :: valV1 _ :: valV1 _ :: l.map valV1) (some 1) none).length := h
        rw [show (1 : Int) = ((1 : Nat) : Int) from rfl, cut_to, cut_from] at h
        simp at h
    match r, hl, it' with
    | [b, c], _, it' =>
      have it' : xs = [valV1 b, _, valV1 c] := it'
      rw [hy] at it' lo
      simp only [List.cons.injEq, and_true] at it'
      obtain ⟨i1, i2, i3⟩ := it'
      have lo : n.natAbs ≤ 1000000000000 := by
        rcases lo with h | ⟨m, h, l⟩
        · cases h
        · cases h; exact l
      show law3 _ b c ev wi = _
      unfold law3
      rw [if_neg (by decide +kernel), if_pos (by first | exact .inl rfl | exact .inr rfl), (idx_iff e8).mpr ⟨v1_int.mp i1.symm, hi⟩, num_iff.mpr ⟨v1_int.mp i3.symm, lo⟩]
      dsimp only
      rw [hy, i2]
  · have it' : xs = r.map valV1 ++ r.map valV1 := by rw [it]; unfold itemV; rw [if_pos rfl]
    obtain ⟨_, ⟨i, s, j, q⟩, _, hy, hi, hs, hj, hq⟩ := item_cla_inv ok
    have hy : xs = [.int i, .str s, .int j, .str q] := by cases hy; rfl
    have hl : r.length = 2 := by
      have := congrArg List.length it'
      rw [hy, List.length_append, List.length_map] at this
      have : 4 = r.length + r.length := this
      omega
    match r, hl, it' with
    | [b, c], _, it' =>
      have it' : xs = [valV1 b, valV1 c, valV1 b, valV1 c] := it'
      rw [hy] at it'
      simp only [List.cons.injEq, and_true] at it'
      obtain ⟨i1, i2, i3, i4⟩ := it'
      obtain ⟨rfl, k1⟩ := v1_str i2.symm
      rw [← i1] at i3
      rw [← i2] at i4
      show law3 _ b c ev wi = _
      unfold law3 litI
      rw [if_pos rfl, (idx_iff w8).mpr ⟨v1_int.mp i1.symm, hi⟩]
      dsimp only
      rw [if_pos ⟨k1, k1⟩, hy, i3, i4]
  · have it' : xs = r.map valV1 := by rw [it]; unfold itemV; rw [if_neg (by decide +kernel), if_neg (by decide +kernel)]
    obtain ⟨_, ⟨i, s, j, q⟩, _, hy, hi, hs, hj, hq⟩ := item_cla_inv ok
    have hy : xs = [.int i, .str s, .int j, .str q] := by cases hy; rfl
    have hl : r.length = 4 := by
      have := congrArg List.length it'
      rw [hy, List.length_map] at this
      exact this.symm
    match r, hl, it' with
    | [b, c, d, e], _, it' =>
      have it' : xs = [valV1 b, valV1 c, valV1 d, valV1 e] := it'
      rw [hy] at it'
      simp only [List.cons.injEq, and_true] at it'
      obtain ⟨i1, i2, i3, i4⟩ := it'
      obtain ⟨rfl, k1⟩ := v1_str i2.symm
      obtain ⟨rfl, k2⟩ := v1_str i4.symm
      have w1 := v1_int.mp i1.symm
      have w2 := v1_int.mp i3.symm
      have ne : ¬ (b = d ∧ c = e) := fun h => by
        have ij : i = j := by rw [h.1, w2] at w1; cases w1; rfl
        rw [hy] at eq
        have eq : lineS (wL (i, c, j, e)) = line := eq
        unfold wL at eq
        rw [if_pos ⟨ij, h.2⟩] at eq
        have k0 : Liny ["known", showI i, c] := ⟨by show 2 ≤ 3; decide, by show 3 ≤ 5; decide, all3 wordy_lit.2.2.2.2.2.2.1 (wordy_show (idx40 hi w8)) (wordy_kind k1)⟩
        have sp2 := k0.split
        rw [show lineS ["known", showI i, c] = line from eq, sp] at sp2
        cases sp2
      show law5 _ b c d e wi = _
      unfold law5 litI
      rw [if_pos rfl, if_neg ne, (idx_iff w8).mpr ⟨w1, hi⟩, (idx_iff w8).mpr ⟨w2, hj⟩]
      dsimp only
      rw [if_pos ⟨k1, k2⟩, hy]
theorem law_item {line : Str} {ev wi : Int} (e8 : ev ≤ 8) (w8 : wi ≤ 8) : lawI (Txt.split line sp1) ev wi = itemO line ev wi := by
  cases h : lawI (Txt.split line sp1) ev wi with
  | some q =>
    obtain ⟨wd, r, t⟩ := lawI_told e8 w8 (pt := q.1) (xs := q.2) h
    exact (itemO_of t).symm
  | none =>
    refine (itemO_no fun p xs wd r t => ?_).symm
    rw [told_lawI e8 w8 t] at h; cases h
end EL

/- part K92D -/
namespace EL
open PySem PySem.Spec PyProof.Rows L2
open PySem.W (Frag)
open TX
abbrev s_told : Stmt := top 59
abbrev N_told : List Str := ["_law_text", "_law_book_here", "_law_e"]
theorem sc_told : FnScope N_told ["_law_text"] (defScope s_told) := ⟨rfl, rfl, rfl, by decide +kernel, rfl, by decide +kernel, by decide +kernel⟩
local macro_rules | `(tactic| walk_at "el1") => `(tactic| with_reducible first
  | refine a_sasg ?_ | refine a_sdrop ?_ | refine a_saugS ?_ | refine a_spar ?_ | refine a_seq ?_ | refine a_asg ?_ | refine a_drop ?_ | refine a_ret ?_ | refine a_if ?_ | refine a_next ?_
  | refine a_op ?_ | refine a_cons ?_ | refine a_nil ?_ | refine a_cb ?_ | refine a_call ?_ | refine a_c ?_ | refine a_gn ?_ | refine a_nx ?_ | refine a_rt ?_ | refine a_un ?_
  | refine a_test ?_ | refine a_B ?_ | refine a_bl ?_ | refine a_and ?_ | refine a_or ?_ | refine a_not ?_ | refine a_andV ?_ | refine a_orV ?_ | refine a_notV ?_ | refine a_ifx ?_ | refine a_chain ?_
  | refine a_nT ?_ | refine a_nF ?_ | refine a_fld ?_ | refine a_getF ?_ | refine a_T ?_ | refine a_F ?_ | refine a_tup ?_ | refine a_lst ?_ | refine a_sub ?_ | refine a_augS ?_ | refine a_two ?_ | refine a_I0 ?_ | refine a_U ?_ | refine n_add ?_ | refine n_int ?_ | refine n_ib ?_ | refine a_ip ?_ | refine a_rng1 ?_ | refine a_rng2 ?_ | refine a_bm ?_ | refine a_abs ?_ | refine a_pairs ?_ | refine a_pairs0 ?_ | refine a_bk ?_ | refine a_prp ?_ | refine a_lc ?_ | refine a_yes ?_ | refine a_sl ?_ | refine a_nop ?_ | refine a_prt ?_ | refine a_ex1 ?_ | refine a_for ?_ | refine a_sfor ?_ | refine a_iE1 ?_ | refine a_iEs ?_ | refine a_iEz ?_ | refine a_iEnum ?_ | refine a_iTup ?_ | refine a_iList ?_ | refine a_gcons ?_ | refine a_gnil ?_ | refine a_revT ?_ | refine a_spar3 ?_ | refine a_par3 ?_ | refine a_three ?_)
local macro_rules | `(tactic| walk_at "el2") => `(tactic| first
  | (refine a_var (by rfl) ?_)
  | (refine n_ixL (SqL.of (by assumption)) (by rfl) ?_) | (refine n_ixT (SqT.of (by assumption)) (by rfl) ?_) | (refine n_eq (by rfl) ?_) | (refine n_ne (by rfl) ?_)
  | (refine n_isN ?_) | (refine n_notN ?_) | (refine n_isB ?_) | (refine n_notB ?_) | (refine n_isBI ?_) | (refine n_notBI ?_) | (refine n_len (.inl (SqL.of (by assumption))) ?_) | (refine n_len (.inr (SqT.of (by assumption))) ?_)
  | (refine a_getL (SqL.of (by assumption)) (by rfl) ?_)
  | (refine n_isInt (by assumption) ?_) | (refine n_isBool (by assumption) ?_) | (refine n_isStr (by assumption) ?_) | (refine n_isTup (by assumption) ?_) | (refine n_isLst (by assumption) ?_))
local macro_rules | `(tactic| walk_at "el") => `(tactic| repeat (first | walk_at "el1" | walk_at "el2"))

/-! ### what reading comes to, as data -/
def no9 (n : Int) : PyData := .tuple [.str "NoText", .int n]
def yes9 (ev wi : Int) (D : PD) : PyData := .tuple [.str "told", .list [.int ev, .int wi], partsI D]
def OutIs (z : Str) (d : PyData) : Prop := match readO z with
  | .inr n => d = no9 n
  | .inl (ev, wi, acc) => ∃ D, encA D = acc ∧ d = yes9 ev wi D
def OutX (x : V) (d : PyData) : Prop := (∀ z, x = .str z → OutIs z d) ∧ ((∀ z, x ≠ .str z) → d = no9 1)
theorem map_inj9 {α : Type} {f : α → List V} (h : ∀ a b, f a = f b → a = b) : ∀ {l m : List α}, l.map f = m.map f → l = m
  | [], [], _ => rfl
  | [], _ :: _, e => by cases e
  | _ :: _, [], e => by cases e
  | a :: l, b :: m, e => by
    simp only [List.map_cons, List.cons.injEq] at e
    rw [h a b e.1, map_inj9 h e.2]
theorem encA_inj {D E : PD} (h : encA D = encA E) : D = E := by
  have t := congrFun h .tel
  have g := congrFun h .gap
  have s := congrFun h .sur
  have l := congrFun h .cla
  have i3 : ∀ a b : Int × Int × Int, encT a = encT b → a = b := fun a b e => by
    simp only [encT, List.cons.injEq, V.int.injEq, and_true] at e
    exact Prod.ext e.1 (Prod.ext e.2.1 e.2.2)
  have is : ∀ a b : Int × Str × Int, encS a = encS b → a = b := fun a b e => by
    simp only [encS, List.cons.injEq, V.int.injEq, V.str.injEq, and_true] at e
    exact Prod.ext e.1 (Prod.ext e.2.1 e.2.2)
  have il : ∀ a b : Int × Str × Int × Str, encL a = encL b → a = b := fun a b e => by
    simp only [encL, List.cons.injEq, V.int.injEq, V.str.injEq, and_true] at e
    exact Prod.ext e.1 (Prod.ext e.2.1 (Prod.ext e.2.2.1 e.2.2.2))
  cases D; cases E
  simp only [encA] at t g s l
  rw [map_inj9 i3 t, map_inj9 i3 g, map_inj9 is s, map_inj9 il l]
theorem out_uniq {x : V} {d e : PyData} (h : OutX x d) (h' : OutX x e) : d = e := by
  by_cases c : ∃ z, x = .str z
  · obtain ⟨z, rfl⟩ := c
    have a := h.1 z rfl
    have b := h'.1 z rfl
    unfold OutIs at a b
    cases hr : readO z with
    | inr n => rw [hr] at a b; rw [a, b]
    | inl q =>
      rw [hr] at a b
      obtain ⟨D, e1, rfl⟩ := a
      obtain ⟨E, e2, rfl⟩ := b
      rw [encA_inj (e1.trans e2.symm)]
  · have n : ∀ z, x ≠ .str z := fun z e => c ⟨z, e⟩
    rw [h.2 n, h'.2 n]
theorem readL_le {ev wi : Int} : ∀ (ls : List Str) (n last : Nat) (acc : Acc) (m : Nat), readL ev wi ls n last acc = .inr m → m ≤ n + ls.length
  | [], n, last, acc, m, h => by unfold readL at h; cases h
  | line :: r, n, last, acc, m, h => by
    unfold readL at h
    split at h
    · cases h; omega
    · split at h
      · cases h; omega
      · have := readL_le r _ _ _ m h
        rw [List.length_cons]; omega
theorem readO_le {z : Str} {n : Nat} (h : readO z = .inr n) : n ≤ z.length + 4 := by
  have l := TX.split_len z 10
  have l : (lanes z).length ≤ z.length + 1 := by
    show (Txt.split z ⟨#[10]⟩).length ≤ _
    omega
  unfold readO at h
  split at h
  · cases h; omega
  · split at h
    · cases h; omega
    · split at h
      · rename_i m e
        cases h
        have := readL_le _ _ _ _ _ e
        rw [List.length_drop] at this
        omega
      · cases h
theorem out_no {x : V} (h : ∀ z, x ≠ .str z) : OutX x (no9 1) := ⟨fun z e => absurd e (h z), fun _ => rfl⟩
theorem out_inr {z : Str} {n : Nat} (h : readO z = .inr n) : OutX (.str z) (no9 n) := ⟨fun z' e => by cases e; unfold OutIs; rw [h], fun c => absurd rfl (c z)⟩
theorem out_inl {z : Str} {ev wi : Int} {acc : Acc} {D : PD} (h : readO z = .inl (ev, wi, acc)) (hD : encA D = acc) : OutX (.str z) (yes9 ev wi D) := ⟨fun z' e => by cases e; unfold OutIs; rw [h]; exact ⟨D, hD, rfl⟩, fun c => absurd rfl (c z)⟩
/-- rows of known values say what a book says -/
theorem enc_of {H : Hp} {xs : Pt → List V} {acc : Acc} {ev wi : Int} (hr : ∀ u, RowsAre id H (xs u) (acc u)) (it : ∀ u, ∀ x ∈ xs u, ItemOk u H x ev wi) : ∃ D, PR H xs D ∧ D.Ok ev wi ∧ encA D = acc := by
  obtain ⟨D, R, ok⟩ := pr_of it
  have key : ∀ {α : Type} {enc : α → List V} {ys : List V} {E : List α} {as : List (List V)}, RowsAre enc H ys E → RowsAre id H ys as → E.map enc = as := fun {α enc ys E as} r r' => by
    apply List.ext_getElem?
    intro i
    rw [List.getElem?_map]
    cases he : E[i]? with
    | none =>
      have l : E.length ≤ i := List.getElem?_eq_none_iff.mp he
      rw [List.getElem?_eq_none (by rw [← r'.len, r.len]; exact l)]; rfl
    | some y =>
      obtain ⟨q, hv, hq⟩ := r.get he
      obtain ⟨q', z, e, hz, hq'⟩ := r'.at_ i _ hv
      cases e
      rw [hq] at hq'; cases hq'
      rw [hz]; rfl
  refine ⟨D, R, ok, ?_⟩
  funext u
  cases u
  · exact key R.t (hr .tel)
  · exact key R.g (hr .gap)
  · exact key R.s (hr .sur)
  · exact key R.l (hr .cla)
theorem no9_fine (n : Nat) (h : n ≤ 1000000000) : Fine (no9 n) :=
  (sz_tup (n := 6) (k := 0) (ds := [_, _]) (all_cons ((sz_str (by decide +kernel)).le (by decide +kernel) (Nat.le_refl _)) (all_cons ((sz_int (Nat.lt_of_le_of_lt (show (n : Int).natAbs ≤ 1000000000 by omega) (by decide +kernel))).le (by decide) (Nat.le_refl _)) all_nil))).fine (by show 2 * 7 ≤ 300000; decide) (by decide)
theorem yes9_fine {D : PD} {ev wi : Int} (ok : D.Ok ev wi) (e0 : 0 ≤ ev) (e8 : ev ≤ 8) (w0 : 0 ≤ wi) (w8 : wi ≤ 8) (l : D.T.length ≤ 100 ∧ D.G.length ≤ 100 ∧ D.S.length ≤ 100 ∧ D.L.length ≤ 100) : Fine (yes9 ev wi D) := by
  have z := partsI_sz ok e8 w8 l
  have i0 : ∀ {x : Int}, 0 ≤ x → x ≤ 8 → Sz 5 0 (.int x) := fun h h2 => (sz_int (small_abs h (by omega))).le (by decide) (by decide)
  have a : Sz 12 1 (.list [.int ev, .int wi]) := (sz_lst (n := 5) (k := 0) (ds := [_, _]) (all_cons (i0 e0 e8) (all_cons (i0 w0 w8) all_nil))).le (by show 2 * 6 ≤ 12; decide) (by decide)
  exact (sz_tup (n := 12404) (k := 3) (ds := [_, _, _]) (all_cons ((sz_str (by decide +kernel)).le (Nat.le_trans (by decide +kernel : (("told" : Str)).cps.size ≤ 4) (by decide)) (by decide)) (all_cons (a.le (by decide) (by decide)) (all_cons z all_nil)))).fine (by show 3 * 12405 ≤ 300000; decide) (by decide)
def spOut9 (K : Frag) : Sp := fun vs H Q _ => ∃ x : V, vs = [x] ∧ Th K H x ∧ (∀ z, x = .str z → z.length ≤ 7000000 ∧ okS9 z) ∧ ∀ H' v d, Same H H' → Dp K H' v d → OutX x d → Fine d → Q v H'
section
variable {P : Program} {w : World} {K : Frag} {mg : Str → Option Value} {base : Heap} {f C C_NoText aPB : Addr} {fd : FuncData}
theorem ok_told92 (F : Fun K "_law_told" "_law_told" s_told f fd) (T : Tb mg) (pnone : ∀ z, partW z = none → PySem.W.nsIn K aPB z = some none) (c_read_book : Cal P w K mg base (L2.CX P w) 9 "read_book" ["text"] (spRb K C C_NoText aPB)) (c_parts_of : Cal P w K mg base CX0 3 "_law_parts_of" ["_law_book_here"] (spPo K C))
    (p_events : PrpG P w K mg base C "events" "_events") (p_witnesses : PrpG P w K mg base C "witnesses" "_witnesses") (g_NoText : mg "NoText" = some (.ref C_NoText)) (xf : XfC K C_NoText) (xn : PySem.W.findIn K (.ref C_NoText) "line" = some none) (xm : PySem.W.exmOne K (.ref C_NoText) (.ref C_NoText) = some true) :
    FnOk P w K mg base CX0 10 f fd ["_law_text"] (spOut9 K) := by
  refine F.ok sc_told (fun vs H Q E h => ?_) (fun cdv A outer s H vs Q E hr h => ?_)
  · obtain ⟨_, rfl, _⟩ := h
    rfl
  · obtain ⟨x, rfl, th, tx, k⟩ := h
    refine ⟨_, (pss_cons (ps_try_as (i := 2) rfl rfl sc_told.nd rfl rfl ⟨rfl, by decide, .inl g_NoText⟩ takes0 (fun W pn xe tk _ => (pss_one (ps_set (i := 1) sc_told.nd rfl (Or.inl rfl) (pe_calX c_read_book (show Room 9 _ from hr.mono (by decide)) tk (pa_cons (pv 0) pa_nil)))))
    (fun a oe cls d pn hz hf => (pss_one (ps_ret (pe_tup (pa_cons pe_str (pa_cons (pe_xfR hz hf (pv 2)) pa_nil)))))))
  (pss_one (ps_ret (pe_tup (pa_cons pe_str (pa_cons (pe_lst (pa_cons (pe_prp p_events (hr.mono (by decide)) (pv 1)) (pa_cons (pe_prp p_witnesses (hr.mono (by decide)) (pv 1)) pa_nil))) (pa_cons (pe_cal c_parts_of (hr.mono (by decide)) pass0 (pa_cons (pv 1) pa_nil)) pa_nil))))))), ?_⟩
    walk_at "el"
    refine ⟨x, rfl, th, fun hx => ?_, fun z hz => ⟨(tx z hz).1, (tx z hz).2, fun line _ wd rest _ hp => pnone wd hp, ?_⟩⟩
    · intro H1 d e1 hd
      have e2 := nw_of hd (.xd [("line", .int 1)])
      have g2 : upd H1 d (.xd [("line", .int 1)]) d = some (.xd [("line", .int 1)]) := upd_same
      generalize upd H1 d (.xd [("line", .int 1)]) = H2 at e2 g2 ⊢
      refine ⟨true, xm, fun _ a0 ha0 => ?_, fun z => nomatch z⟩
      walk_at "el"
      refine ⟨rfl, C_NoText, d, _, _, rfl, xf, xn, rfl, g2, rfl, ?_⟩
      walk_at "el"
      refine ⟨by show 2 ≤ sizeLine; decide, fun p hp => ?_⟩
      exact k _ _ _ ((e1.trans e2).nw hp) (.tup (SqT.of upd_same) (.cons (.str _) (.cons (.int _) .nil))) (out_no hx) (no9_fine 1 (by decide))
    · subst hz
      cases hr : readO z with
      | inr n =>
        intro H1 d e1 hd
        have e2 := nw_of hd (.xd [("line", .int n)])
        have g2 : upd H1 d (.xd [("line", .int n)]) d = some (.xd [("line", .int n)]) := upd_same
        generalize upd H1 d (.xd [("line", .int n)]) = H2 at e2 g2 ⊢
        refine ⟨true, xm, fun _ a0 ha0 => ?_, fun z => nomatch z⟩
        walk_at "el"
        refine ⟨rfl, C_NoText, d, _, _, rfl, xf, xn, rfl, g2, rfl, ?_⟩
        walk_at "el"
        refine ⟨by show 2 ≤ sizeLine; decide, fun p hp => ?_⟩
        exact k _ _ _ ((e1.trans e2).nw hp) (.tup (SqT.of upd_same) (.cons (.str _) (.cons (.int _) .nil))) (out_inr hr) (no9_fine n (by have := readO_le hr; have := (tx z rfl).1; omega))
      | inl q =>
        obtain ⟨ev, wi, acc⟩ := q
        intro e0 e8 w0 w8 o dx t g s' q' xs H1 s1 no ho t1 t2 t3 t4 rw1 ly it1
        obtain ⟨D, R, ok, hD⟩ := enc_of rw1 it1
        have W1 : BB K C H1 ⟨o, dx, t, g, s', q', ev, wi, xs⟩ D := ⟨ho, t1, t2, t3, t4, R⟩
        have ok' : D.Ok ev wi := ok
        walk_at "el"
        refine n_prp W1.bk rfl ?_
        walk_at "el"
        refine n_prp W1.bk rfl ?_
        walk_at "el"
        refine ⟨by show 2 ≤ sizeLine; decide, fun p hp => ?_⟩
        have e2 := nw_of hp (.lst [.int ev, .int wi])
        have g2 := upd_at hp (.lst [.int ev, .int wi])
        generalize upd H1 p (.lst [.int ev, .int wi]) = H2 at e2 g2 ⊢
        have W2 := W1.same e2
        walk_at "el"
        refine ⟨_, D, rfl, W2, fun u => Nat.le_trans (ly u) (by decide), fun m l H3 s3 hm hl => ?_⟩
        have W3 := W2.same s3
        have g3 := s3 _ _ g2
        walk_at "el"
        refine ⟨by show 3 ≤ sizeLine; decide, fun q hq => ?_⟩
        have e4 := nw_of hq (.tup [.str "told", .ref p, .ref m])
        have lA : D.T.length ≤ 100 ∧ D.G.length ≤ 100 ∧ D.S.length ≤ 100 ∧ D.L.length ≤ 100 := by
          have a := R.t.len; have b := R.g.len; have c := R.s.len; have d := R.l.len
          have a' := ly .tel; have b' := ly .gap; have c' := ly .sur; have d' := ly .cla
          refine ⟨?_, ?_, ?_, ?_⟩ <;> omega
        exact k _ _ (yes9 ev wi D) (((s1.trans e2).trans s3).trans e4) (.tup (SqT.of upd_same) (.cons (.str _) (.cons (.lst (SqL.of (e4 _ _ g3)) (.cons (.int _) (.cons (.int _) .nil))) (.cons (dp_partsI (e4 _ _ hm) (fun u => e4 _ _ (hl u)) (W3.same e4).r) .nil)))) (out_inl hr hD) (yes9_fine ok e0 e8 w0 w8 lA)
end
end EL

/- part K92E -/
namespace EL
open PySem PySem.Spec PyProof.Rows L2
open PySem.W (Frag)
open TX
abbrev s_due : Stmt := top 58
abbrev N_due : List Str := ["_law_text", "_law_lanes", "_law_head", "_law_at", "_law_word", "_law_words", "_law_parts_here", "_law_last", "_law_lane", "_law_told_here"]
theorem sc_due : FnScope N_due ["_law_text"] (defScope s_due) := ⟨rfl, rfl, rfl, by decide +kernel, rfl, by decide +kernel, by decide +kernel⟩
local macro_rules | `(tactic| walk_at "el1") => `(tactic| with_reducible first
  | refine a_sasg ?_ | refine a_sdrop ?_ | refine a_saugS ?_ | refine a_spar ?_ | refine a_seq ?_ | refine a_asg ?_ | refine a_drop ?_ | refine a_ret ?_ | refine a_if ?_ | refine a_next ?_
  | refine a_op ?_ | refine a_cons ?_ | refine a_nil ?_ | refine a_cb ?_ | refine a_call ?_ | refine a_c ?_ | refine a_gn ?_ | refine a_nx ?_ | refine a_rt ?_ | refine a_un ?_
  | refine a_test ?_ | refine a_B ?_ | refine a_bl ?_ | refine a_and ?_ | refine a_or ?_ | refine a_not ?_ | refine a_andV ?_ | refine a_orV ?_ | refine a_notV ?_ | refine a_ifx ?_ | refine a_chain ?_
  | refine a_nT ?_ | refine a_nF ?_ | refine a_fld ?_ | refine a_getF ?_ | refine a_T ?_ | refine a_F ?_ | refine a_tup ?_ | refine a_lst ?_ | refine a_sub ?_ | refine a_augS ?_ | refine a_two ?_ | refine a_I0 ?_ | refine a_U ?_ | refine n_add ?_ | refine n_int ?_ | refine n_ib ?_ | refine a_ip ?_ | refine a_rng1 ?_ | refine a_rng2 ?_ | refine a_bm ?_ | refine a_abs ?_ | refine a_pairs ?_ | refine a_pairs0 ?_ | refine a_bk ?_ | refine a_prp ?_ | refine a_lc ?_ | refine a_yes ?_ | refine a_sl ?_ | refine a_nop ?_ | refine a_prt ?_ | refine a_ex1 ?_ | refine a_for ?_ | refine a_sfor ?_ | refine a_iE1 ?_ | refine a_iEs ?_ | refine a_iEz ?_ | refine a_iEnum ?_ | refine a_iTup ?_ | refine a_iList ?_ | refine a_gcons ?_ | refine a_gnil ?_ | refine a_revT ?_ | refine a_spar3 ?_ | refine a_par3 ?_ | refine a_three ?_)
local macro_rules | `(tactic| walk_at "el2") => `(tactic| first
  | (refine a_var (by rfl) ?_)
  | (refine n_ixL (SqL.of (by assumption)) (by rfl) ?_) | (refine n_ixT (SqT.of (by assumption)) (by rfl) ?_) | (refine n_eq (by rfl) ?_) | (refine n_ne (by rfl) ?_)
  | (refine n_isN ?_) | (refine n_notN ?_) | (refine n_isB ?_) | (refine n_notB ?_) | (refine n_isBI ?_) | (refine n_notBI ?_) | (refine n_len (.inl (SqL.of (by assumption))) ?_) | (refine n_len (.inr (SqT.of (by assumption))) ?_)
  | (refine a_getL (SqL.of (by assumption)) (by rfl) ?_)
  | (refine n_isInt (by assumption) ?_) | (refine n_isBool (by assumption) ?_) | (refine n_isStr (by assumption) ?_) | (refine n_isTup (by assumption) ?_) | (refine n_isLst (by assumption) ?_))
local macro_rules | `(tactic| walk_at "el") => `(tactic| repeat (first | walk_at "el1" | walk_at "el2"))

theorem idx9 {z : Str} {n : Int} : idxO z 9 = some n ↔ intW z = some n ∧ 0 ≤ n ∧ n ≤ 8 := by
  unfold idxO intD
  constructor
  · intro h
    split at h
    · rename_i k e
      split at e
      · split at h
        · cases h; exact ⟨e, by omega⟩
        · cases h
      · cases e
    · cases h
  · rintro ⟨h, h0, h1⟩
    have l := figs_short (k := 3) h (Nat.lt_of_le_of_lt (by omega : n.natAbs ≤ 8) (by decide)) (by decide)
    rw [if_pos l, h]
    dsimp only
    rw [if_pos ⟨h0, by omega⟩]
/-- the number behind a word, as a law tells it -/
theorem size_law {ws : List Str} {word : Str} {n : Int} : sizeO ws word 8 = some n ↔ ∃ z, ws = [word, z] ∧ idxO z 9 = some n := by
  unfold sizeO
  constructor
  · intro h
    split at h
    · rename_i hd
      split at h
      · rename_i m e
        split at h
        · rename_i hm
          cases h
          match ws, hd with
          | [a, z], hd =>
            cases hd
            exact ⟨z, rfl, idx9.mpr ⟨e, hm⟩⟩
        · cases h
      · cases h
    · cases h
  · rintro ⟨z, rfl, h⟩
    obtain ⟨h1, h2⟩ := idx9.mp h
    rw [if_pos (show [word, z].dropLast = [word] from rfl)]
    show (match intW z with | some n => if 0 ≤ n ∧ n ≤ 8 then some n else none | none => none) = some n
    rw [h1]
    dsimp only
    rw [if_pos h2]
theorem val_int {z : Str} {n : Int} (h : intW z = some n) : digs z = true ∧ valW z = n := by
  unfold intW at h
  split at h
  · split at h
    · cases h; exact ⟨by assumption, rfl⟩
    · cases h
  · cases h
def wordAt : Nat → Str | 0 => "events" | _ => "witnesses"
theorem readO_bad {z : Str} {i : Nat} (h2 : i < 2) (hp : ∀ j, j < i → ∃ n, sizeAt (lanes z) j (wordAt j) = some n) (hn : sizeAt (lanes z) i (wordAt i) = none) : readO z = .inr (i + 1) := by
  unfold readO
  obtain rfl | rfl : i = 0 ∨ i = 1 := by omega
  · rw [show sizeAt (lanes z) 0 "events" = none from hn]
  · obtain ⟨n, h⟩ := hp 0 (by decide)
    rw [show sizeAt (lanes z) 0 "events" = some n from h]
    dsimp only
    rw [show sizeAt (lanes z) 1 "witnesses" = none from hn]
theorem itemO_told {line : Str} {ev wi : Int} {p : Pt} {xs : List V} (h : itemO line ev wi = some (p, xs)) : ∃ wd r, Told line ev wi p xs wd r := by
  unfold itemO at h
  split at h
  · rename_i ex
    obtain ⟨wd, r, t⟩ := ex.choose_spec
    rw [Option.some.inj h] at t
    exact ⟨wd, r, t⟩
  · cases h
section
variable {P : Program} {w : World} {K : Frag} {mg : Str → Option Value} {base : Heap} {f C C_NoText aPB : Addr} {fd : FuncData}
theorem ok_due92 (F : Fun K "_law_due" "_law_due" s_due f fd) (T : Tb mg) (c_item : Cal P w K mg base CX0 3 "_law_item" ["_law_words", "_law_events", "_law_witnesses"] spLI) (c_index_of : Cal P w K mg base CX0 2 "_law_index_of" ["_law_word", "_law_many"] spIx) : FnOk P w K mg base CX0 4 f fd ["_law_text"] (spOut9 K) := by
  refine F.ok sc_due (fun vs H Q E h => ?_) (fun cdv A outer s H vs Q E hr h => ?_)
  · obtain ⟨_, rfl, _⟩ := h
    rfl
  · obtain ⟨x, rfl, th, tx, k⟩ := h
    refine ⟨_, (pss_cons (ps_if (pt_not (pt_val (pe_callB u_isi rfl T.b.isinstance_ boot_isinstance (pa_cons (pv 0) (pa_cons (pe_bltn (v := V.ty "str") rfl T.b.str_ (by decide +kernel) rfl) pa_nil)))))
    (pss_one (ps_ret (pe_tup (pa_cons pe_str (pa_cons pe_int pa_nil)))))
    pss_nil)
  (pss_cons (ps_par (i := 1) (j := 2) rfl sc_due.nd rfl rfl (by decide) rfl rfl (pa_cons (pe_split (pv 0) pe_str) (pa_cons (pe_lst pa_nil) pa_nil)) (by with_unfolding_all rfl))
  (pss_cons (ps_for PassesOwn.never rfl (pi_enum (by rfl) T.b.enumerate_ (pa_cons (pe_lst (pa_cons pe_str (pa_cons pe_str pa_nil))) pa_nil)) (pg_tup rfl (pgs_cons (pg_name (i := 3) sc_due.nd rfl (Or.inl rfl)) (pgs_cons (pg_name (i := 4) sc_due.nd rfl (Or.inl rfl)) pgs_nil)))
    (pss_cons (ps_if (pt_cmpR op_le (pe_callB u_len rfl T.b.len_ boot_len (pa_cons (pv 1) pa_nil)) (pv 3) (nomark _))
    (pss_one (ps_ret (pe_tup (pa_cons pe_str (pa_cons (pe_op u_add (pv 3) pe_int) pa_nil)))))
    pss_nil)
  (pss_cons (ps_set (i := 5) sc_due.nd rfl (Or.inl rfl) (pe_split (pe_ix ix_seq (pv 1) (pv 3) (fun _ _ => rfl)) pe_str))
  (pss_cons (ps_if (PW.pt (pw_or (pt_cmpR (u_ne hr.units) (pe_callB u_len rfl T.b.len_ boot_len (pa_cons (pv 5) pa_nil)) pe_int (nomark _)) (pw_or (pt_cmpR (u_ne hr.units) (pe_ix ix_seq (pv 5) pe_int (fun _ _ => rfl)) (pv 4) (nomark _)) (pw_or1 (pt_cmpR u_is (pe_cal c_index_of (hr.mono (by decide)) pass0 (pa_cons (pe_ix ix_seq (pv 5) pe_int (fun _ _ => rfl)) (pa_cons pe_int pa_nil))) pe_non (nomark _))))))
    (pss_one (ps_ret (pe_tup (pa_cons pe_str (pa_cons (pe_op u_add (pv 3) pe_int) pa_nil)))))
    pss_nil)
  (pss_one (ps_expr (pe_bm PySem.F.plainAttrs_list PySem.F.slot_list_append PySem.F.type_list_append mt_append (pv 2) (pa_cons (pe_callTy call_int_str rfl T.b.int_ (by decide +kernel) (pa_cons (pe_ix ix_seq (pv 5) pe_int (fun _ _ => rfl)) pa_nil)) pa_nil))))))))
  (pss_cons (ps_par (i := 6) (j := 7) rfl sc_due.nd rfl rfl (by decide) rfl rfl (pa_cons (pe_lst (pa_cons (pe_lst pa_nil) (pa_cons (pe_lst pa_nil) (pa_cons (pe_lst pa_nil) (pa_cons (pe_lst pa_nil) pa_nil))))) (pa_cons pe_int pa_nil)) (by with_unfolding_all rfl))
  (pss_cons (ps_for PassesOwn.never rfl (pi_enum (by rfl) T.b.enumerate_ (pa_cons (pe_slice u_slice (pv 1) (po_some pe_int) po_none) pa_nil)) (pg_tup rfl (pgs_cons (pg_name (i := 3) sc_due.nd rfl (Or.inl rfl)) (pgs_cons (pg_name (i := 8) sc_due.nd rfl (Or.inl rfl)) pgs_nil)))
    (pss_cons (ps_set (i := 9) sc_due.nd rfl (Or.inl rfl) (pe_cal c_item (hr.mono (by decide)) pass0 (pa_cons (pe_split (pv 8) pe_str) (pa_cons (pe_ix ix_seq (pv 2) pe_int (fun _ _ => rfl)) (pa_cons (pe_ix ix_seq (pv 2) pe_int (fun _ _ => rfl)) pa_nil)))))
  (pss_cons (ps_if (PW.pt (pw_or (pt_cmpR u_is (pv 9) pe_non (nomark _)) (pw_or (pt_cmpR op_lt (pe_ix ix_seq (pv 9) pe_int (fun _ _ => rfl)) (pv 7) (nomark _)) (pw_or1 (pt_cmpR (u_eq hr.units) (pe_callB u_len rfl T.b.len_ boot_len (pa_cons (pe_ix ix_seq (pv 6) (pe_ix ix_seq (pv 9) pe_int (fun _ _ => rfl)) (fun _ _ => rfl)) pa_nil)) pe_int (nomark _))))))
    (pss_one (ps_ret (pe_tup (pa_cons pe_str (pa_cons (pe_op u_add (pv 3) pe_int) pa_nil)))))
    pss_nil)
  (pss_cons (ps_set (i := 7) sc_due.nd rfl (Or.inl rfl) (pe_ix ix_seq (pv 9) pe_int (fun _ _ => rfl)))
  (pss_one (ps_expr (pe_bm PySem.F.plainAttrs_list PySem.F.slot_list_append PySem.F.type_list_append mt_append (pe_ix ix_seq (pv 6) (pv 7) (fun _ _ => rfl)) (pa_cons (pe_ix ix_seq (pv 9) pe_int (fun _ _ => rfl)) pa_nil))))))))
  (pss_one (ps_ret (pe_tup (pa_cons pe_str (pa_cons (pv 2) (pa_cons (pv 6) pa_nil))))))))))), ?_⟩
    have hs0 : sizeLine = 16777216 := rfl
    obtain ⟨t, kt⟩ := th.kit
    walk_at "el"
    by_cases hs : ∃ z, x = .str z
    · obtain ⟨z, rfl⟩ := hs
      obtain ⟨hl, hok⟩ := tx z rfl
      rw [show isS (V.str z) = true from rfl]
      walk_at "el"
      refine ⟨⟨_, rfl⟩, ?_⟩
      walk_at "el"
      refine ⟨z, nl, rfl, by rw [nl_eq], rfl, by omega, fun pl hpl => ?_⟩
      have lk : ∀ l ∈ lanes z, l.length ≤ 7000000 := fun l h => Nat.le_trans (split_mem z 10 (p := l) h) hl
      have lo : ∀ l ∈ lanes z, okS9 l := fun l h => split_ok9 (c := 10) hok h
      have e1 := nw_of hpl (.lst ((lanes z).map V.str))
      have g1 := upd_at hpl (.lst ((lanes z).map V.str))
      rw [show Txt.split z nl = lanes z from rfl]
      generalize upd H pl (.lst ((lanes z).map V.str)) = H1 at e1 g1 ⊢
      walk_at "el"
      refine ⟨by show 0 ≤ sizeLine; decide, fun ph hph => ?_⟩
      have e2 := nw_of hph (.lst [])
      have g2 := upd_at hph (.lst [])
      have g12 := e2 _ _ g1
      have nph0 : H ph = none := none_b e1 hph
      have s2 := e1.trans e2
      have nl0 : pl ≠ ph := fun e => by rw [← e, g1] at hph; cases hph
      generalize upd H1 ph (.lst []) = H2 at g2 g12 s2 ⊢
      clear e1 e2 g1 hph
      walk_at "el"
      refine ⟨by show 2 ≤ sizeLine; decide, fun pw hpw => ?_⟩
      have e3 := nw_of hpw (.lst [.str "events", .str "witnesses"])
      have g3 := upd_at hpw (.lst [.str "events", .str "witnesses"])
      have g13 := e3 _ _ g12
      have g23 := e3 _ _ g2
      have nw0 : pw ≠ ph := fun e => by rw [e, g2] at hpw; cases hpw
      have s3 := s2.trans e3
      generalize upd H2 pw (.lst [.str "events", .str "witnesses"]) = H3 at g3 g13 g23 s3 ⊢
      clear e3 g2 g12 s2 hpw
      refine ⟨pw, _, rfl, SqL.of g3, ?_⟩
      refine lp_it (walk_enum (xs := [V.str "events", V.str "witnesses"])) (fun i σ H4 => Same H H4 ∧ H4 pl = some (.lst ((lanes z).map V.str)) ∧ H4 pw = some (.lst [.str "events", .str "witnesses"]) ∧ ∃ ns : List Int, ns.length = i ∧ H4 ph = some (.lst (ns.map V.int)) ∧ (∀ (j : Nat) (n : Int), ns[j]? = some n → sizeAt (lanes z) j (wordAt j) = some n) ∧ ∃ v3 v4 v5 v6 v7 v8 v9, σ = [some (.str z), some (.ref pl), some (.ref ph), v3, v4, v5, v6, v7, v8, v9])
        ⟨s3, g13, g3, [], rfl, g23, (fun j n h => nomatch h), _, _, _, _, _, _, _, rfl⟩ (fun i σ H4 hi h => SqL.of h.2.2.1) ?_ ?_
      · rintro i y σ H4 H5 hi ⟨s4, gl4, gw4, ns, hns, gh4, inv, v3, v4, v5, v6, v7, v8, v9, rfl⟩ ⟨t, x1, x2, rfl, ht, rfl, hx1, hx2⟩
        have hi2 : i < 2 := hi
        cases hx1
        have hx2' : x2 = .str (wordAt i) := by
          obtain rfl | rfl : i = 0 ∨ i = 1 := by omega
          · cases hx2; rfl
          · cases hx2; rfl
        subst hx2'
        have e5 := nw_of ht (.tup [.int (i : Nat), .str (wordAt i)])
        have g5 := upd_at ht (.tup [.int (i : Nat), .str (wordAt i)])
        have gl5 := e5 _ _ gl4
        have gw5 := e5 _ _ gw4
        have gh5 := e5 _ _ gh4
        have s5 := s4.trans e5
        generalize upd H4 t (.tup [.int (i : Nat), .str (wordAt i)]) = H5 at g5 gl5 gw5 gh5 s5 ⊢
        clear e5 gl4 gw4 gh4 s4 ht
        have bad : sizeAt (lanes z) i (wordAt i) = none → ∀ {H' : Hp} {p : Addr}, Same H H' → H' p = none → Q (.ref p) (upd H' p (.tup [.str "NoText", .int ((i : Int) + 1)])) := fun hn {H' p} s hp => by
          have r := readO_bad hi2 (fun j hj => by
            have hj' : j < ns.length := by omega
            exact ⟨ns[j], inv j _ (List.getElem?_eq_getElem hj')⟩) hn
          refine k _ _ (no9 ((i + 1 : Nat) : Int)) (s.nw hp) (.tup (SqT.of ?_) (.cons (.str _) (.cons (.int _) .nil))) (out_inr r) (no9_fine (i + 1) (by omega))
          rw [upd_same]; rfl
        refine a_gtup (SqT.of g5) rfl ?_
        walk_at "el"
        rw [List.length_map]
        by_cases c1 : (lanes z).length ≤ i
        · rw [decide_eq_true (by omega)]
          walk_at "el"
          refine ⟨by show 2 ≤ sizeLine; decide, fun p hp => ?_⟩
          exact bad (by unfold sizeAt; rw [List.getElem?_eq_none c1]) s5 hp
        · rw [decide_eq_false (by omega)]
          obtain ⟨l, hl9⟩ : ∃ l, (lanes z)[i]? = some l := ⟨_, List.getElem?_eq_getElem (by omega : i < (lanes z).length)⟩
          have ml := List.mem_of_getElem? hl9
          have es : sizeAt (lanes z) i (wordAt i) = sizeO (Txt.split l sp1) (wordAt i) 8 := by unfold sizeAt; rw [hl9]
          have ll := lk l ml
          have lw := TX.split_len l 32
          rw [show (⟨#[32]⟩ : Str) = sp1 from rfl] at lw
          have lwm : ∀ y ∈ Txt.split l sp1, y.length ≤ 7000000 ∧ okS9 y := fun y hy => ⟨Nat.le_trans (split_mem l 32 (p := y) hy) ll, split_ok9 (c := 32) (lo l ml) hy⟩
          walk_at "el"
          unfold tM1
          walk_at "el"
          refine n_ixL (SqL.of gl5) (atI_nat (by rw [List.getElem?_map, hl9]; rfl)) ?_
          refine ⟨⟨_, rfl⟩, ?_⟩
          walk_at "el"
          refine ⟨l, sp1, rfl, by rw [sp_eq], rfl, by omega, fun q hq => ?_⟩
          have e6 := nw_of hq (.lst ((Txt.split l sp1).map V.str))
          have g6 := upd_at hq (.lst ((Txt.split l sp1).map V.str))
          have gl6 := e6 _ _ gl5
          have gw6 := e6 _ _ gw5
          have gh6 := e6 _ _ gh5
          have s6 := s5.trans e6
          generalize upd H5 q (.lst ((Txt.split l sp1).map V.str)) = H6 at g6 gl6 gw6 gh6 s6 ⊢
          clear e6 gl5 gw5 gh5 s5 hq g5
          rw [es] at bad
          generalize Txt.split l sp1 = ws at g6 lwm bad es
          walk_at "el"
          rw [List.length_map]
          have no : (∀ b, ws = [wordAt i, b] → idxO b 9 = none) → sizeO ws (wordAt i) 8 = none := fun h => by
            cases e : sizeO ws (wordAt i) 8 with
            | none => rfl
            | some n =>
              obtain ⟨b, e1, e2⟩ := size_law.mp e
              rw [h b e1] at e2; cases e2
          by_cases c2 : ws.length = 2
          · rw [show decide (V.int (ws.length : Int) = V.int 2) = true from decide_eq_true (by rw [c2]; rfl)]
            obtain ⟨a, b, rfl⟩ : ∃ a b, ws = [a, b] := by
              match ws, c2 with
              | [a, b], _ => exact ⟨a, b, rfl⟩
            walk_at "el"
            rw [dk]
            by_cases c3 : a = wordAt i
            · rw [decide_eq_true c3]
              subst c3
              walk_at "el"
              refine ⟨b, 9, rfl, (lwm b (by simp)).1, (lwm b (by simp)).2, fun H7 s7 => ?_⟩
              have g7 := s7 _ _ g6
              have gl7 := s7 _ _ gl6
              have gw7 := s7 _ _ gw6
              have gh7 := s7 _ _ gh6
              have s67 := s6.trans s7
              clear g6 gl6 gw6 gh6 s6 s7
              cases hb : idxO b 9 with
              | none =>
                walk_at "el"
                rw [show decide (optV none = V.non) = true from rfl]
                walk_at "el"
                refine ⟨by show 2 ≤ sizeLine; decide, fun p hp => ?_⟩
                exact bad (no fun b' e => by cases e; exact hb) s67 hp
              | some n =>
                obtain ⟨hb1, hb2⟩ := idx9.mp hb
                obtain ⟨hb3, hb4⟩ := val_int hb1
                walk_at "el"
                rw [show decide (optV (some n) = V.non) = false from rfl]
                walk_at "el"
                refine ⟨.inl ⟨rfl, _, SqL.of gh7⟩, ?_⟩
                walk_at "el"
                refine ⟨b, valW b, rfl, digs_int hb3, Nat.le_trans (digs_len hb3) (by decide), ?_⟩
                walk_at "el"
                refine ⟨ph, _, .int (valW b), rfl, rfl, gh7, by rw [List.length_map]; omega, ?_⟩
                walk_at "el"
                refine ⟨L2.Same.mu s67 nph0, by rw [upd_ne nl0]; exact gl7, by rw [upd_ne nw0]; exact gw7, ns ++ [n], by rw [List.length_append, hns]; rfl, by rw [upd_same, List.map_append, hb4]; rfl, fun j m hj => ?_, _, _, _, _, _, _, _, rfl⟩
                by_cases cj : j < ns.length
                · rw [List.getElem?_append_left cj] at hj
                  exact inv j m hj
                · rw [List.getElem?_append_right (by omega)] at hj
                  have e : j - ns.length = 0 := by
                    have := (List.getElem?_eq_some_iff.mp hj).1
                    simp at this; omega
                  rw [e] at hj
                  cases hj
                  obtain rfl : j = i := by omega
                  rw [es]
                  exact size_law.mpr ⟨b, rfl, hb⟩
            · rw [decide_eq_false c3]
              walk_at "el"
              refine ⟨by show 2 ≤ sizeLine; decide, fun p hp => ?_⟩
              exact bad (no fun b' e => absurd (by cases e; rfl) c3) s6 hp
          · rw [show decide (V.int (ws.length : Int) = V.int 2) = false from decide_eq_false fun e => c2 (by have := V.int.inj e; omega)]
            walk_at "el"
            refine ⟨by show 2 ≤ sizeLine; decide, fun p hp => ?_⟩
            exact bad (no fun b' e => absurd (by rw [e]; rfl) c2) s6 hp
      · rintro σ H4 ⟨s4, gl4, gw4, ns, hns, gh4, inv, v3, v4, v5, v6, v7, v8, v9, rfl⟩
        obtain ⟨ev, wi, rfl⟩ : ∃ ev wi, ns = [ev, wi] := by
          match ns, hns with
          | [ev, wi], _ => exact ⟨ev, wi, rfl⟩
        have hev : sizeAt (lanes z) 0 "events" = some ev := inv 0 ev rfl
        have hwi : sizeAt (lanes z) 1 "witnesses" = some wi := inv 1 wi rfl
        have sz8 : ∀ {k : Nat} {w' : Str} {n : Int}, sizeAt (lanes z) k w' = some n → 0 ≤ n ∧ n ≤ 8 := fun h => by
          unfold sizeAt at h
          split at h
          · exact sizeO_some h
          · cases h
        obtain ⟨e0, e8⟩ := sz8 hev
        obtain ⟨w0, w8⟩ := sz8 hwi
        have hread : readO z = match readL ev wi ((lanes z).drop 2) 3 0 (fun _ => []) with
            | .inr n => .inr n
            | .inl acc => .inl (ev, wi, acc) := by
          unfold readO; rw [hev]; dsimp only; (rw [hwi] <;> rfl)
        clear inv hns hev hwi sz8 gw4
        walk_at "el"
        refine ⟨by show 0 ≤ sizeLine; decide, fun a0 h0 => ?_⟩
        have e0' := nw_of h0 (.lst [])
        have i0 := upd_at h0 (.lst [])
        generalize upd H4 a0 (.lst []) = Ha at e0' i0 ⊢
        walk_at "el"
        refine ⟨by show 0 ≤ sizeLine; decide, fun a1 h1 => ?_⟩
        have e1' := nw_of h1 (.lst [])
        have i1 := upd_at h1 (.lst [])
        have n01 : a0 ≠ a1 := fun e => by rw [← e, i0] at h1; cases h1
        have i01 := e1' _ _ i0
        generalize upd Ha a1 (.lst []) = Hb at e1' i1 i01 ⊢
        walk_at "el"
        refine ⟨by show 0 ≤ sizeLine; decide, fun a2 h2 => ?_⟩
        have e2' := nw_of h2 (.lst [])
        have i2 := upd_at h2 (.lst [])
        have n02 : a0 ≠ a2 := fun e => by rw [← e, i01] at h2; cases h2
        have n12 : a1 ≠ a2 := fun e => by rw [← e, i1] at h2; cases h2
        have i02 := e2' _ _ i01
        have i12 := e2' _ _ i1
        generalize upd Hb a2 (.lst []) = Hc at e2' i2 i02 i12 ⊢
        walk_at "el"
        refine ⟨by show 0 ≤ sizeLine; decide, fun a3 h3 => ?_⟩
        have e3' := nw_of h3 (.lst [])
        have i3 := upd_at h3 (.lst [])
        have n03 : a0 ≠ a3 := fun e => by rw [← e, i02] at h3; cases h3
        have n13 : a1 ≠ a3 := fun e => by rw [← e, i12] at h3; cases h3
        have n23 : a2 ≠ a3 := fun e => by rw [← e, i2] at h3; cases h3
        have i03 := e3' _ _ i02
        have i13 := e3' _ _ i12
        have i23 := e3' _ _ i2
        generalize upd Hc a3 (.lst []) = Hd at e3' i3 i03 i13 i23 ⊢
        walk_at "el"
        refine ⟨by show 4 ≤ sizeLine; decide, fun D0 hD0 => ?_⟩
        have e4' := nw_of hD0 (.lst [.ref a0, .ref a1, .ref a2, .ref a3])
        have s4d := ((e0'.trans e1').trans e2').trans e3'
        obtain ⟨l, hl4, inj, nl3⟩ : ∃ l : Pt → Addr, upd Hd D0 (.lst [.ref a0, .ref a1, .ref a2, .ref a3]) D0 = some (.lst [.ref (l .tel), .ref (l .gap), .ref (l .sur), .ref (l .cla)]) ∧ (∀ u v, u ≠ v → l u ≠ l v) ∧ ∀ u, H4 (l u) = none ∧ l u ≠ D0 ∧ upd Hd D0 (.lst [.ref a0, .ref a1, .ref a2, .ref a3]) (l u) = some (.lst []) := by
          refine ⟨lOf a0 a1 a2 a3, upd_same, fun u v h => ?_, fun u => ?_⟩
          · cases u <;> cases v <;> first | exact absurd rfl h | exact n01 | exact n02 | exact n03 | exact n12 | exact n13 | exact n23 | exact Ne.symm n01 | exact Ne.symm n02 | exact Ne.symm n03 | exact Ne.symm n12 | exact Ne.symm n13 | exact Ne.symm n23
          · have nD : ∀ {a : Addr}, Hd a = some (.lst []) → a ≠ D0 := fun h e => by rw [e] at h; rw [h] at hD0; cases hD0
            cases u
            · exact ⟨h0, nD i03, e4' _ _ i03⟩
            · exact ⟨none_b e0' h1, nD i13, e4' _ _ i13⟩
            · exact ⟨none_b (e0'.trans e1') h2, nD i23, e4' _ _ i23⟩
            · exact ⟨none_b ((e0'.trans e1').trans e2') h3, nD i3, e4' _ _ i3⟩
        have s5 := s4d.trans e4'
        have nD4 : H4 D0 = none := none_b s4d hD0
        have gl5 := s5 _ _ gl4
        have gh5 := s5 _ _ gh4
        generalize upd Hd D0 (.lst [.ref a0, .ref a1, .ref a2, .ref a3]) = H5 at s5 hl4 nl3 gl5 gh5 ⊢
        have lD : ∀ u, l u ≠ D0 := fun u => (nl3 u).2.1
        have hl5 : ∀ u, H5 (l u) = some (.lst []) := fun u => (nl3 u).2.2
        have nl4 : ∀ u, H4 (l u) = none := fun u => (nl3 u).1
        clear nl3 e0' e1' e2' e3' e4' s4d i0 i1 i2 i3 i01 i02 i12 i03 i13 i23 n01 n02 n12 n03 n13 n23 h0 h1 h2 h3 hD0
        walk_at "el"
        refine .inl ⟨pl, _, rfl, SqL.of gl5, fun q hq => ?_⟩
        have e6 := nw_of hq (.lst (((lanes z).drop 2).map V.str))
        have g6 := upd_at hq (.lst (((lanes z).drop 2).map V.str))
        rw [show cutV ((lanes z).map V.str) (some 2) none = ((lanes z).drop 2).map V.str from by rw [show (2 : Int) = ((2 : Nat) : Int) from rfl, cut_from, List.map_drop]]
        have hD6 := e6 _ _ hl4
        have gh6 := e6 _ _ gh5
        have hl6 : ∀ u, upd H5 q (.lst (((lanes z).drop 2).map V.str)) (l u) = some (.lst []) := fun u => e6 _ _ (hl5 u)
        have s46 := s5.trans e6
        have ql : ∀ u, q ≠ l u := fun u e => by rw [e, hl5 u] at hq; cases hq
        have qD : q ≠ D0 := fun e => by rw [e, hl4] at hq; cases hq
        have hl' : ∀ u, ph ≠ l u := fun u e => by have := nl4 u; rw [← e, gh4] at this; cases this
        generalize upd H5 q (.lst (((lanes z).drop 2).map V.str)) = H6 at g6 hD6 hl6 s46 gh6 ⊢
        clear e6 hl4 hl5 s5 gl5 gh5 hq gl4
        refine ⟨q, _, rfl, SqL.of g6, ?_⟩
        refine lp_it (walk_enum (xs := ((lanes z).drop 2).map V.str)) (fun i σ H7 => Same H4 H7 ∧ H7 q = some (.lst (((lanes z).drop 2).map V.str)) ∧ H7 ph = some (.lst [.int ev, .int wi]) ∧ H7 D0 = some (.lst [.ref (l .tel), .ref (l .gap), .ref (l .sur), .ref (l .cla)]) ∧ ∃ (xs : Pt → List V) (acc : Acc) (last : Nat), (∀ u, H7 (l u) = some (.lst (xs u))) ∧ (∀ u, RowsAre id H7 (xs u) (acc u)) ∧ (∀ u, (xs u).length ≤ 20) ∧ (∀ u, ∀ x ∈ xs u, ItemOk u H7 x ev wi) ∧
            readL ev wi ((lanes z).drop 2) 3 0 (fun _ => []) = readL ev wi (((lanes z).drop 2).drop i) (3 + i) last acc ∧ ∃ v3 v4 v5 v8 v9, σ = [some (.str z), some (.ref pl), some (.ref ph), v3, v4, v5, some (.ref D0), some (.int (last : Int)), v8, v9])
          ⟨s46, g6, gh6, hD6, fun _ => [], fun _ => [], 0, hl6, fun u => ⟨rfl, fun i v h => by cases h⟩, fun u => Nat.zero_le _, (fun u x h => nomatch h), rfl, _, _, _, _, _, rfl⟩ (fun i σ H7 hi h => SqL.of h.2.1) ?_ ?_
        · rintro i y σ H7 H8 hi ⟨s7, gq7, gh7, hD7, xs, acc, last, hl7, rw7, ln7, it7, rd, v3, v4, v5, v8, v9, rfl⟩ ⟨t, x1, x2, rfl, ht, rfl, hx1, hx2⟩
          cases hx1
          obtain ⟨line, hline, rfl⟩ : ∃ w', ((lanes z).drop 2)[i]? = some w' ∧ V.str w' = x2 := by
            change (((lanes z).drop 2).map V.str)[i]? = some x2 at hx2
            rw [List.getElem?_map] at hx2
            cases e : ((lanes z).drop 2)[i]? with
            | none => rw [e] at hx2; cases hx2
            | some w' => rw [e] at hx2; cases hx2; exact ⟨w', rfl, rfl⟩
          have lin : line ∈ lanes z := List.mem_of_mem_drop (List.mem_of_getElem? hline)
          have e8' := nw_of ht (.tup [.int (i : Nat), .str line])
          have g8 := upd_at ht (.tup [.int (i : Nat), .str line])
          generalize upd H7 t (.tup [.int (i : Nat), .str line]) = H8 at e8' g8 ⊢
          have dr : ((lanes z).drop 2).drop i = line :: ((lanes z).drop 2).drop (i + 1) := by
            obtain ⟨hh, e⟩ := List.getElem?_eq_some_iff.mp hline
            rw [← e]; exact List.drop_eq_getElem_cons hh
          rw [dr] at rd
          refine a_gtup (SqT.of g8) rfl ?_
          have ll := lk line lin
          have lw := TX.split_len line 32
          rw [show (⟨#[32]⟩ : Str) = sp1 from rfl] at lw
          have lwm : ∀ y ∈ Txt.split line sp1, y.length ≤ 7000000 ∧ okS9 y := fun y hy => ⟨Nat.le_trans (split_mem line 32 (p := y) hy) ll, split_ok9 (c := 32) (lo line lin) hy⟩
          have hsne := split_ne line sp1
          have hli := law_item (line := line) e8 w8
          have lm : i < ((lanes z).drop 2).length := (List.getElem?_eq_some_iff.mp hline).1
          have llz := TX.split_len z 10
          rw [show (⟨#[10]⟩ : Str) = nl from rfl, show Txt.split z nl = lanes z from rfl] at llz
          rw [List.length_drop] at lm
          have fin : readL ev wi ((lanes z).drop 2) 3 0 (fun _ => []) = .inr (3 + i) → ∀ {H' : Hp} {p : Addr}, Same H H' → H' p = none → Q (.ref p) (upd H' p (.tup [.str "NoText", .int ((i : Int) + 3)])) := fun hn {H' p} s hp => by
            have r : readO z = .inr (3 + i) := by rw [hread, hn]
            refine k _ _ (no9 ((3 + i : Nat) : Int)) (s.nw hp) (.tup (SqT.of ?_) (.cons (.str _) (.cons (.int _) .nil))) (out_inr r) (no9_fine (3 + i) (by omega))
            rw [upd_same, show ((3 + i : Nat) : Int) = (i : Int) + 3 from by omega]
          walk_at "el"
          refine ⟨⟨_, rfl⟩, ?_⟩
          walk_at "el"
          refine ⟨line, sp1, rfl, by rw [sp_eq], rfl, by omega, fun q1 hq1 => ?_⟩
          have e9 := nw_of hq1 (.lst ((Txt.split line sp1).map V.str))
          have g9 := upd_at hq1 (.lst ((Txt.split line sp1).map V.str))
          have gh9 := e9 _ _ (e8' _ _ gh7)
          generalize upd H8 q1 (.lst ((Txt.split line sp1).map V.str)) = H9 at e9 g9 gh9 ⊢
          walk_at "el"
          refine ⟨q1, Txt.split line sp1, ev, wi, rfl, g9, hsne, by omega, lwm, ?_⟩
          rw [hli]
          have s09 := (s4.trans (s7.trans e8')).trans e9
          cases hio : itemO line ev wi with
          | none =>
            intro Hn sn
            have rd' : readL ev wi ((lanes z).drop 2) 3 0 (fun _ => []) = .inr (3 + i) := by
              rw [rd]; unfold readL; rw [hio]
            walk_at "el"
            rw [decide_eq_true rfl]
            walk_at "el"
            refine ⟨by show 2 ≤ sizeLine; decide, fun p hp => ?_⟩
            exact fin rd' (s09.trans sn) hp
          | some pq =>
            obtain ⟨pt, ys⟩ := pq
            obtain ⟨wd, rr, told⟩ := itemO_told hio
            intro H10 tt a s10 htt ha
            have rd2 : readL ev wi ((lanes z).drop 2) 3 0 (fun _ => []) = if pt.ix < last ∨ (acc pt).length = 20 then .inr (3 + i) else readL ev wi (((lanes z).drop 2).drop (i + 1)) (3 + i + 1) pt.ix (addR acc pt ys) := by
              rw [rd]; conv => lhs; unfold readL
              rw [hio]
            have s710 := (e8'.trans e9).trans s10
            have s410 := s7.trans s710
            have s010 := s4.trans s410
            have hD10 := s710 _ _ hD7
            have gh10 := s710 _ _ gh7
            have hl10 : ∀ u, H10 (l u) = some (.lst (xs u)) := fun u => s710 _ _ (hl7 u)
            have gq10 := s710 _ _ gq7
            have rw10 : ∀ u, RowsAre id H10 (xs u) (acc u) := fun u => (rw7 u).same s710
            have it10 : ∀ u, ∀ x ∈ xs u, ItemOk u H10 x ev wi := fun u x hx => (it7 u x hx).same s710
            have okn : ItemOk pt H10 (.ref a) ev wi := ⟨a, ys, rfl, ha, told.ln, told.st⟩
            clear hl7 gq7 gh7 hD7 it7 rw7 rd s7 e8' e9 g8 g9 gh9 ht hq1 s710 s10 s09
            walk_at "el"
            rw [decide_eq_false (fun c => by cases c)]
            walk_at "el"
            have hix : ([V.ref (l .tel), .ref (l .gap), .ref (l .sur), .ref (l .cla)] : List V)[pt.ix]? = some (.ref (l pt)) := by cases pt <;> rfl
            have lac := (rw10 pt).len
            refine ite2 (fun c1 => ?_) (fun c1 => ?_)
            · have c1' := of_decide_eq_true c1
              walk_at "el"
              refine ⟨by show 2 ≤ sizeLine; decide, fun p hp => ?_⟩
              exact fin (by rw [rd2, if_pos (.inl (by omega))]) s010 hp
            · have c1' := of_decide_eq_false (Bool.not_eq_true _ |>.mp c1)
              walk_at "el"
              refine n_ixL (SqL.of hD10) (atI_nat hix) ?_
              walk_at "el"
              refine n_len (.inl (SqL.of (hl10 pt))) ?_
              walk_at "el"
              by_cases c2 : (xs pt).length = 20
              · rw [show decide (V.int ((xs pt).length : Int) = V.int 20) = true from decide_eq_true (by rw [c2]; rfl)]
                walk_at "el"
                refine ⟨by show 2 ≤ sizeLine; decide, fun p hp => ?_⟩
                exact fin (by rw [rd2, if_pos (.inr (by omega))]) s010 hp
              · rw [show decide (V.int ((xs pt).length : Int) = V.int 20) = false from decide_eq_false fun c => c2 (by have := V.int.inj c; omega)]
                have rd3 : readL ev wi ((lanes z).drop 2) 3 0 (fun _ => []) = readL ev wi (((lanes z).drop 2).drop (i + 1)) (3 + i + 1) pt.ix (addR acc pt ys) := by
                  rw [rd2, if_neg]; rintro (c | c) <;> omega
                walk_at "el"
                refine n_ixL (SqL.of hD10) (atI_nat hix) ?_
                refine ⟨.inl ⟨rfl, _, SqL.of (hl10 pt)⟩, ?_⟩
                walk_at "el"
                have l20 := ln7 pt
                refine ⟨l pt, _, .ref a, rfl, rfl, hl10 pt, by omega, ?_⟩
                walk_at "el"
                have mv : ∀ (q' : Addr) (zs : List V), H10 q' = some (.tup zs) → upd H10 (l pt) (.lst (xs pt ++ [.ref a])) q' = some (.tup zs) := fun q' zs h => by
                  rw [upd_ne fun e => by rw [e, hl10 pt] at h; cases h]; exact h
                refine ⟨L2.Same.mu s410 (nl4 pt), by rw [upd_ne (ql pt)]; exact gq10, by rw [upd_ne (hl' pt)]; exact gh10, by rw [upd_ne (lD pt).symm]; exact hD10, setP xs pt (xs pt ++ [.ref a]), addR acc pt ys, pt.ix, fun u => ?_, fun u => ?_, fun u => ?_, fun u x hx => ?_, rd3, _, _, _, _, _, rfl⟩
                · by_cases e : u = pt
                  · subst e; rw [upd_same, setP_at]
                  · rw [upd_ne (inj u pt e), setP_ne e]; exact hl10 u
                · by_cases e : u = pt
                  · subst e
                    rw [setP_at]; unfold addR; rw [if_pos rfl]
                    exact rows_app (rows_mv (rw10 u) mv) (mv _ _ ha)
                  · rw [setP_ne e]; unfold addR; rw [if_neg e]
                    exact rows_mv (rw10 u) mv
                · by_cases e : u = pt
                  · subst e; rw [setP_at, List.length_append]; show _ + 1 ≤ 20; omega
                  · rw [setP_ne e]; exact ln7 u
                · by_cases e : u = pt
                  · subst e; rw [setP_at] at hx
                    rcases List.mem_append.mp hx with hx | hx
                    · exact item_mv (it10 u x hx) mv
                    · rw [List.mem_singleton.mp hx]; exact item_mv okn mv
                  · rw [setP_ne e] at hx; exact item_mv (it10 u x hx) mv
        · rintro σ H7 ⟨s7, gq7, gh7, hD7, xs, acc, last, hl7, rw7, ln7, it7, rd, v3, v4, v5, v8, v9, rfl⟩
          have rd' : readO z = .inl (ev, wi, acc) := by
            rw [hread, rd, List.length_map, List.drop_length]; rfl
          obtain ⟨D, R, okD, hD⟩ := enc_of rw7 it7
          walk_at "el"
          refine ⟨by show 3 ≤ sizeLine; decide, fun p hp => ?_⟩
          have e8' := nw_of hp (.tup [.str "told", .ref ph, .ref D0])
          have lA : D.T.length ≤ 100 ∧ D.G.length ≤ 100 ∧ D.S.length ≤ 100 ∧ D.L.length ≤ 100 := by
            have a := R.t.len; have b := R.g.len; have c := R.s.len; have d := R.l.len
            have a' := ln7 .tel; have b' := ln7 .gap; have c' := ln7 .sur; have d' := ln7 .cla
            refine ⟨?_, ?_, ?_, ?_⟩ <;> omega
          exact k _ _ (yes9 ev wi D) ((s4.trans s7).trans e8') (.tup (SqT.of upd_same) (.cons (.str _) (.cons (.lst (SqL.of (e8' _ _ gh7)) (.cons (.int _) (.cons (.int _) .nil))) (.cons (dp_partsI (e8' _ _ hD7) (fun u => e8' _ _ (hl7 u)) (R.same e8')) .nil)))) (out_inl rd' hD) (yes9_fine okD e0 e8 w0 w8 lA)
    · rw [show isS x = false by cases x <;> first | rfl | exact absurd ⟨_, rfl⟩ hs]
      walk_at "el"
      refine ⟨by show 2 ≤ sizeLine; decide, fun p hp => ?_⟩
      exact k _ _ _ (nw_of hp _) (.tup (SqT.of upd_same) (.cons (.str _) (.cons (.int _) .nil))) (out_no fun z e => hs ⟨z, e⟩) (no9_fine 1 (by decide))
end
end EL

/- part K92F -/
namespace EL
open PySem PySem.Spec PyProof.Rows L2
open PySem.W (Frag)
open TX
abbrev s_bent : Stmt := top 60
abbrev N_bent : List Str := ["_law_bag_here", "_law_text", "_law_mode", "_law_at", "_law_lanes", "_law_k", "_law_other", "_law_some", "_law_more"]
theorem sc_bent : FnScope N_bent ["_law_bag_here", "_law_text"] (defScope s_bent) := ⟨rfl, rfl, rfl, by decide +kernel, rfl, by decide +kernel, by decide +kernel⟩
local macro_rules | `(tactic| walk_at "el1") => `(tactic| with_reducible first
  | refine a_sasg ?_ | refine a_sdrop ?_ | refine a_saugS ?_ | refine a_spar ?_ | refine a_seq ?_ | refine a_asg ?_ | refine a_drop ?_ | refine a_ret ?_ | refine a_if ?_ | refine a_next ?_
  | refine a_op ?_ | refine a_cons ?_ | refine a_nil ?_ | refine a_cb ?_ | refine a_call ?_ | refine a_c ?_ | refine a_gn ?_ | refine a_nx ?_ | refine a_rt ?_ | refine a_un ?_
  | refine a_test ?_ | refine a_B ?_ | refine a_bl ?_ | refine a_and ?_ | refine a_or ?_ | refine a_not ?_ | refine a_andV ?_ | refine a_orV ?_ | refine a_notV ?_ | refine a_ifx ?_ | refine a_chain ?_
  | refine a_nT ?_ | refine a_nF ?_ | refine a_fld ?_ | refine a_getF ?_ | refine a_T ?_ | refine a_F ?_ | refine a_tup ?_ | refine a_lst ?_ | refine a_sub ?_ | refine a_augS ?_ | refine a_two ?_ | refine a_I0 ?_ | refine a_U ?_ | refine n_add ?_ | refine n_int ?_ | refine n_ib ?_ | refine a_ip ?_ | refine a_rng1 ?_ | refine a_rng2 ?_ | refine a_bm ?_ | refine a_abs ?_ | refine a_pairs ?_ | refine a_pairs0 ?_ | refine a_bk ?_ | refine a_prp ?_ | refine a_lc ?_ | refine a_yes ?_ | refine a_sl ?_ | refine a_nop ?_ | refine a_prt ?_ | refine a_ex1 ?_ | refine a_for ?_ | refine a_sfor ?_ | refine a_iE1 ?_ | refine a_iEs ?_ | refine a_iEz ?_ | refine a_iEnum ?_ | refine a_iTup ?_ | refine a_iList ?_ | refine a_gcons ?_ | refine a_gnil ?_ | refine a_revT ?_ | refine a_spar3 ?_ | refine a_par3 ?_ | refine a_three ?_)
local macro_rules | `(tactic| walk_at "el2") => `(tactic| first
  | (refine a_var (by rfl) ?_)
  | (refine n_ixL (SqL.of (by assumption)) (by rfl) ?_) | (refine n_ixT (SqT.of (by assumption)) (by rfl) ?_) | (refine n_eq (by rfl) ?_) | (refine n_ne (by rfl) ?_)
  | (refine n_isN ?_) | (refine n_notN ?_) | (refine n_isB ?_) | (refine n_notB ?_) | (refine n_isBI ?_) | (refine n_notBI ?_) | (refine n_len (.inl (SqL.of (by assumption))) ?_) | (refine n_len (.inr (SqT.of (by assumption))) ?_)
  | (refine a_getL (SqL.of (by assumption)) (by rfl) ?_)
  | (refine n_isInt (by assumption) ?_) | (refine n_isBool (by assumption) ?_) | (refine n_isStr (by assumption) ?_) | (refine n_isTup (by assumption) ?_) | (refine n_isLst (by assumption) ?_))
local macro_rules | `(tactic| walk_at "el") => `(tactic| repeat (first | walk_at "el1" | walk_at "el2"))

theorem ok9_app {a b : Str} (h : okS9 a) (k : okS9 b) : okS9 (a ++ b) := fun c hc => (app_mem hc).elim (h c) (k c)
theorem ok9_cut {z : Str} {lo hi : Option Int} (h : okS9 z) : okS9 (cutS z lo hi) := fun c hc => h c (cutS_mem hc)
theorem app_len (a b : Str) : (a ++ b).length = a.length + b.length := Str.length_append a b
def lit9 (z : Str) : Bool := decide (z.length ≤ 100) && z.cps.toList.all fun c => decide (c < 1114112)
theorem lit9_ok {z : Str} (h : lit9 z = true) : z.length ≤ 100 ∧ okS9 z := by
  unfold lit9 at h
  simp only [Bool.and_eq_true, decide_eq_true_eq, List.all_eq_true] at h
  exact ⟨h.1, h.2⟩
/-- a text at most so long -/
def Sx9 (n : Nat) (v : V) : Prop := ∃ y : Str, v = .str y ∧ y.length ≤ n ∧ okS9 y
theorem sx9 {y : Str} {n : Nat} (hn : 100 ≤ n) (h : lit9 y = true := by decide +kernel) : Sx9 n (.str y) := ⟨y, rfl, by have := (lit9_ok h).1; omega, (lit9_ok h).2⟩
theorem join_le9 {ws : List Str} : (Txt.join nl ws).length ≤ (ws.map (·.length)).sum + ws.length := flat_le (join_listN ws)
theorem join_ok9 {ws : List Str} (h : ∀ y ∈ ws, okS9 y) : okS9 (Txt.join nl ws) := fun c hc => by
  rw [join_listN] at hc
  rcases mem_flat9 hc with rfl | ⟨l, m, hl⟩
  · decide
  · obtain ⟨y, hy, rfl⟩ := List.mem_map.mp m
    exact h y hy c hl
theorem sum_set {f : Str → Nat} : ∀ (l : List Str) (k : Nat) (a : Str), ((l.set k a).map f).sum ≤ (l.map f).sum + f a
  | [], k, a => by simp
  | x :: l, 0, a => by simp; omega
  | x :: l, k + 1, a => by
    have := sum_set (f := f) l k a
    simp only [List.set_cons_succ, List.map_cons, List.sum_cons]; omega
theorem sum_take {f : Str → Nat} (l : List Str) (k : Nat) : ((l.take k).map f).sum ≤ (l.map f).sum := by
  have e := congrArg (fun l => (List.map f l).sum) (List.take_append_drop k l)
  simp only [List.map_append, List.sum_append] at e
  omega
theorem sum_drop {f : Str → Nat} (l : List Str) (k : Nat) : ((l.drop k).map f).sum ≤ (l.map f).sum := by
  have e := congrArg (fun l => (List.map f l).sum) (List.take_append_drop k l)
  simp only [List.map_append, List.sum_append] at e
  omega
theorem bag_mut9 {H : Hp} {b c q : Addr} {o : HO} (h : Bag H b c) (n1 : q ≠ b) (n2 : q ≠ c) : Bag (upd H q o) b c := by
  obtain ⟨i, j, n, cs, h1, h2, r⟩ := h
  exact ⟨i, j, n, cs, by rw [upd_ne n1.symm]; exact h1, by rw [upd_ne n2.symm]; exact h2, r⟩
theorem bag_nc9 {H : Hp} {b c q : Addr} (h : Bag H b c) (hq : H q = none) : q ≠ c := fun z => by
  obtain ⟨_, _, _, _, _, h2, _⟩ := h
  rw [z, h2] at hq
  cases hq
theorem none_kp9 {b p : Addr} {H H1 : Hp} (k : Kp b H H1) (n : p ≠ b) (h : H1 p = none) : H p = none := by
  cases e : H p with
  | none => rfl
  | some o => rw [k p o n e] at h; cases h
theorem ixN9 {n j : Nat} (h : j < n) : L2.ixN n (j : Int) = some j := by
  unfold L2.ixN
  rw [if_pos (Int.natCast_nonneg _), if_pos (by omega)]; rfl
theorem rep9 (y : Str) : ∀ n : Nat, (List.replicate n ([.str y] : List V)).flatten = (List.replicate n y).map V.str
  | 0 => rfl
  | n + 1 => by rw [List.replicate_succ, List.flatten_cons, rep9 y n]; rfl
def spBent9 : Sp := fun vs H Q _ => ∃ (b c : Addr) (z : Str), vs = [.ref b, .str z] ∧ Bag H b c ∧ z.length ≤ 300000 ∧ okS9 z ∧ ∀ y H', y.length ≤ 25 * z.length + 110000 → okS9 y → Bag H' b c → Kp b H H' → Q (.str y) H'
section
variable {P : Program} {w : World} {K : Frag} {mg : Str → Option Value} {base : Heap} {f C aForms aParts : Addr} {fd : FuncData}
theorem ok_bent92 (F : Fun K "_law_bent" "_law_bent" s_bent f fd) (T : Tb mg) (c_take : Cal P w K mg base CX0 1 "_law_take" ["_law_bag_here", "_law_many"] spTake) (c_one : Cal P w K mg base CX0 2 "_law_one" ["_law_bag_here", "_law_menu"] (spOne K)) :
    FnOk P w K mg base CX0 3 f fd ["_law_bag_here", "_law_text"] spBent9 := by
  refine F.ok sc_bent (fun vs H Q E h => ?_) (fun cdv A outer s H vs Q E hr h => ?_)
  · obtain ⟨_, _, _, rfl, _⟩ := h
    rfl
  · obtain ⟨b, c, z, rfl, hb, hz, hok, k⟩ := h
    refine ⟨_, (pss_cons (ps_par (i := 2) (j := 3) rfl sc_bent.nd rfl rfl (by decide) rfl rfl (pa_cons (pe_cal c_take (hr.mono (by decide)) pass0 (pa_cons (pv 0) (pa_cons pe_int pa_nil))) (pa_cons (pe_cal c_take (hr.mono (by decide)) pass0 (pa_cons (pv 0) (pa_cons (pe_op u_add (pe_callB call_len_str rfl T.b.len_ boot_len (pa_cons (pv 1) pa_nil)) pe_int) pa_nil))) pa_nil)) (by with_unfolding_all rfl))
  (pss_cons (ps_if (pt_cmpR (u_eq hr.units) (pv 2) pe_int (nomark _))
    (pss_one (ps_ret (pe_op op_add_str (pe_slice sl_str (pv 1) po_none (po_some (pv 3))) (pe_slice sl_str (pv 1) (po_some (pe_op u_add (pv 3) pe_int)) po_none))))
    pss_nil)
  (pss_cons (ps_if (pt_cmpR (u_eq hr.units) (pv 2) pe_int (nomark _))
    (pss_one (ps_ret (pe_op op_add_str (pe_op op_add_str (pe_slice sl_str (pv 1) po_none (po_some (pv 3))) (pe_cal c_one (hr.mono (by decide)) pass0 (pa_cons (pv 0) (pa_cons (pe_lst (pa_cons pe_str (pa_cons pe_str (pa_cons pe_str (pa_cons pe_str (pa_cons pe_str (pa_cons pe_str (pa_cons pe_str (pa_cons pe_str (pa_cons pe_str pa_nil)))))))))) pa_nil)))) (pe_slice sl_str (pv 1) (po_some (pv 3)) po_none))))
    pss_nil)
  (pss_cons (ps_if (pt_cmpR (u_eq hr.units) (pv 2) pe_int (nomark _))
    (pss_one (ps_ret (pe_op op_add_str (pe_op op_add_str (pe_slice sl_str (pv 1) po_none (po_some (pv 3))) (pe_cal c_one (hr.mono (by decide)) pass0 (pa_cons (pv 0) (pa_cons (pe_lst (pa_cons pe_str (pa_cons pe_str (pa_cons pe_str (pa_cons pe_str (pa_cons pe_str (pa_cons pe_str (pa_cons pe_str pa_nil)))))))) pa_nil)))) (pe_slice sl_str (pv 1) (po_some (pe_op u_add (pv 3) pe_int)) po_none))))
    pss_nil)
  (pss_cons (ps_set (i := 4) sc_bent.nd rfl (Or.inl rfl) (pe_split (pv 1) pe_str))
  (pss_cons (ps_par (i := 5) (j := 6) rfl sc_bent.nd rfl rfl (by decide) rfl rfl (pa_cons (pe_cal c_take (hr.mono (by decide)) pass0 (pa_cons (pv 0) (pa_cons (pe_callB u_len rfl T.b.len_ boot_len (pa_cons (pv 4) pa_nil)) pa_nil))) (pa_cons (pe_cal c_take (hr.mono (by decide)) pass0 (pa_cons (pv 0) (pa_cons (pe_callB u_len rfl T.b.len_ boot_len (pa_cons (pv 4) pa_nil)) pa_nil))) pa_nil)) (by with_unfolding_all rfl))
  (pss_cons (ps_if (pt_cmpR (u_eq hr.units) (pv 2) pe_int (nomark _))
    (pss_cons (ps_asg (pe_tup (pa_cons (pe_ix ix_seq (pv 4) (pv 6) (fun _ _ => rfl)) (pa_cons (pe_ix ix_seq (pv 4) (pv 5) (fun _ _ => rfl)) pa_nil))) (pg_tup rfl (pgs_cons (pg_sub (pv 4) (pv 5) set_list) (pgs_cons (pg_sub (pv 4) (pv 6) set_list) pgs_nil))))
  (pss_one (ps_ret (pe_join pe_str (pv 4)))))
    pss_nil)
  (pss_cons (ps_set (i := 7) sc_bent.nd rfl (Or.inl rfl) (pe_lst (pa_cons pe_str (pa_cons pe_str (pa_cons pe_str (pa_cons pe_str (pa_cons pe_str pa_nil)))))))
  (pss_cons (ps_expr (pe_bm PySem.F.plainAttrs_list PySem.F.slot_list_append PySem.F.type_list_append mt_append (pv 7) (pa_cons pe_str pa_nil)))
  (pss_cons (ps_set (i := 7) sc_bent.nd rfl (Or.inl rfl) (pe_op u_add (pv 7) (pe_lst (pa_cons (pe_op op_add_str (pe_op op_add_str pe_str (pe_op op_mulS pe_str pe_int)) pe_str) (pa_cons (pe_op op_add_str (pe_op op_add_str pe_str (pe_op op_mulS pe_str pe_int)) pe_str) (pa_cons (pe_op op_add_str pe_str (pe_op op_mulS pe_str pe_int)) pa_nil))))))
  (pss_cons (ps_set (i := 7) sc_bent.nd rfl (Or.inl rfl) (pe_op u_add (pv 7) (pe_lst (pa_cons pe_str (pa_cons pe_str (pa_cons pe_str (pa_cons pe_str (pa_cons pe_str (pa_cons (pe_ix ix_seq (pv 4) (pv 5) (fun _ _ => rfl)) pa_nil)))))))))
  (pss_cons (ps_set (i := 7) sc_bent.nd rfl (Or.inl rfl) (pe_op u_add (pv 7) (pe_lst (pa_cons (pe_op op_add_str pe_str (pe_op op_mulS pe_str pe_int)) (pa_cons pe_str (pa_cons pe_str (pa_cons pe_str (pa_cons pe_str (pa_cons pe_str pa_nil)))))))))
  (pss_cons (ps_set (i := 8) sc_bent.nd rfl (Or.inl rfl) (pe_cal c_one (hr.mono (by decide)) pass0 (pa_cons (pv 0) (pa_cons (pv 7) pa_nil))))
  (pss_one (ps_ret (pe_join pe_str (pe_op u_add (pe_op u_add (pe_slice u_slice (pv 4) po_none (po_some (pv 5))) (pe_op u_mul (pe_lst (pa_cons (pv 8) pa_nil)) (pe_cal c_one (hr.mono (by decide)) pass0 (pa_cons (pv 0) (pa_cons (pe_lst (pa_cons pe_int (pa_cons pe_int (pa_cons pe_int (pa_cons pe_int pa_nil))))) pa_nil))))) (pe_slice u_slice (pv 4) (po_some (pe_op u_add (pv 5) (pe_cal c_take (hr.mono (by decide)) pass0 (pa_cons (pv 0) (pa_cons pe_int pa_nil))))) po_none)))))))))))))))))), ?_⟩
    have hs0 : sizeLine = 16777216 := rfl
    walk_at "el"
    refine ⟨b, c, 5, rfl, hb, by decide, by decide, fun md H1 m0 m1 hb1 k1 => ?_⟩
    walk_at "el"
    refine ⟨_, rfl, by omega, ?_⟩
    walk_at "el"
    refine ⟨b, c, _, rfl, hb1, by omega, by omega, fun at_ H2 a0 a1 hb2 k2 => ?_⟩
    have k12 := k1.trans k2
    clear hb hb1 k1 k2
    walk_at "el"
    refine ite2 (fun h0 => ?_) (fun h0 => ?_)
    · walk_at "el"
      refine ⟨z, rfl, by omega, ?_⟩
      walk_at "el"
      refine ⟨z, rfl, by omega, ?_⟩
      walk_at "el"
      have c1 := cutS_length z none (some at_)
      have c2 := cutS_length z (some (at_ + 1)) none
      refine ⟨_, _, rfl, rfl, by omega, ?_⟩
      exact k _ _ (by rw [app_len]; omega) (ok9_app (ok9_cut hok) (ok9_cut hok)) hb2 k12
    · clear h0
      walk_at "el"
      refine ite2 (fun h1 => ?_) (fun h1 => ?_)
      · walk_at "el"
        refine ⟨z, rfl, by omega, ?_⟩
        walk_at "el"
        refine ⟨by show 9 ≤ sizeLine; decide, fun p hp => ?_⟩
        have e1 := nw_of hp
        walk_at "el"
        have c1 := cutS_length z none (some at_)
        have c2 := cutS_length z (some at_) none
        refine ⟨b, c, p, _, rfl, hb2.same (fun a u h => e1 _ _ _ h), Bag.ne hb2 hp, .inl upd_same, by show 0 < 9; decide, by show 9 ≤ 1000000000; decide, fun x H4 hx hb4 k4 => ?_⟩
        have hx2 : Sx9 100 x := by
          revert x
          exact all_cons (sx9 (by decide)) (all_cons (sx9 (by decide)) (all_cons (sx9 (by decide)) (all_cons (sx9 (by decide)) (all_cons (sx9 (by decide)) (all_cons (sx9 (by decide)) (all_cons (sx9 (by decide)) (all_cons (sx9 (by decide)) (all_cons (sx9 (by decide)) all_nil))))))))
        obtain ⟨y, rfl, hy, oy⟩ := hx2
        refine ⟨_, _, rfl, rfl, by omega, ?_⟩
        walk_at "el"
        refine ⟨z, rfl, by omega, ?_⟩
        walk_at "el"
        refine ⟨_, _, rfl, rfl, by rw [app_len]; omega, ?_⟩
        exact k _ _ (by rw [app_len, app_len]; omega) (ok9_app (ok9_app (ok9_cut hok) oy) (ok9_cut hok)) hb4 (k12.trans (Kp.into k4 (fun a u h => e1 _ _ _ h)))
      · clear h1
        walk_at "el"
        refine ite2 (fun h2 => ?_) (fun h2 => ?_)
        · walk_at "el"
          refine ⟨z, rfl, by omega, ?_⟩
          walk_at "el"
          refine ⟨by show 7 ≤ sizeLine; decide, fun p hp => ?_⟩
          have e1 := nw_of hp
          walk_at "el"
          have c1 := cutS_length z none (some at_)
          have c2 := cutS_length z (some (at_ + 1)) none
          refine ⟨b, c, p, _, rfl, hb2.same (fun a u h => e1 _ _ _ h), Bag.ne hb2 hp, .inl upd_same, by show 0 < 7; decide, by show 7 ≤ 1000000000; decide, fun x H4 hx hb4 k4 => ?_⟩
          have hx2 : Sx9 100 x := by
            revert x
            exact all_cons (sx9 (by decide)) (all_cons (sx9 (by decide)) (all_cons (sx9 (by decide)) (all_cons (sx9 (by decide)) (all_cons (sx9 (by decide)) (all_cons (sx9 (by decide)) (all_cons (sx9 (by decide)) all_nil))))))
          obtain ⟨y, rfl, hy, oy⟩ := hx2
          refine ⟨_, _, rfl, rfl, by omega, ?_⟩
          walk_at "el"
          refine ⟨z, rfl, by omega, ?_⟩
          walk_at "el"
          refine ⟨_, _, rfl, rfl, by rw [app_len]; omega, ?_⟩
          exact k _ _ (by rw [app_len, app_len]; omega) (ok9_app (ok9_app (ok9_cut hok) oy) (ok9_cut hok)) hb4 (k12.trans (Kp.into k4 (fun a u h => e1 _ _ _ h)))
        · clear h2
          walk_at "el"
          refine ⟨⟨_, rfl⟩, ?_⟩
          walk_at "el"
          refine ⟨z, nl, rfl, by rw [nl_eq], rfl, by omega, fun pl hpl => ?_⟩
          rw [show Txt.split z nl = lanes z from rfl]
          have lk : ∀ l ∈ lanes z, l.length ≤ z.length ∧ okS9 l := fun l h => ⟨split_mem z 10 (p := l) h, split_ok9 (c := 10) hok h⟩
          have lz := TX.split_len z 10
          rw [show (⟨#[10]⟩ : Str) = nl from rfl, show Txt.split z nl = lanes z from rfl] at lz
          have lz1 : 1 ≤ (lanes z).length := by rw [lanes_ne z]; simp
          have e3 := nw_of hpl (.lst ((lanes z).map V.str))
          have g3 := upd_at hpl (.lst ((lanes z).map V.str))
          have hb3 := hb2.same e3
          have nb := Bag.ne hb2 hpl
          have npl0 : H pl = none := none_kp9 k12 nb hpl
          have k13 : Kp b H (upd H2 pl (.lst ((lanes z).map V.str))) := k12.trans (same_kp e3)
          generalize upd H2 pl (.lst ((lanes z).map V.str)) = H3 at g3 hb3 k13 ⊢
          clear e3 hpl hb2 k12
          generalize lanes z = ws at lk lz lz1 g3 ⊢
          walk_at "el"
          rw [List.length_map]
          refine ⟨b, c, _, rfl, hb3, by omega, by omega, fun kq H4 q0 q1 hb4 k4 => ?_⟩
          have g4 := k4 _ _ nb g3
          walk_at "el"
          rw [List.length_map]
          refine ⟨b, c, _, rfl, hb4, by omega, by omega, fun oq H5 o0 o1 hb5 k5 => ?_⟩
          have g5 := k5 _ _ nb g4
          have k15 := (k13.trans k4).trans k5
          clear k13 k4 k5 g3 g4 hb3 hb4
          obtain ⟨kn, rfl⟩ : ∃ kn : Nat, kq = kn := ⟨kq.toNat, by omega⟩
          obtain ⟨on, rfl⟩ : ∃ on : Nat, oq = on := ⟨oq.toNat, by omega⟩
          have hk : kn < ws.length := by omega
          have ho : on < ws.length := by omega
          have gk : (ws.map V.str)[kn]? = some (.str ws[kn]) := by rw [List.getElem?_map, List.getElem?_eq_getElem hk]; rfl
          have go : (ws.map V.str)[on]? = some (.str ws[on]) := by rw [List.getElem?_map, List.getElem?_eq_getElem ho]; rfl
          have mk := lk ws[kn] (List.getElem_mem hk)
          have mo := lk ws[on] (List.getElem_mem ho)
          walk_at "el"
          refine ite2 (fun h3 => ?_) (fun h3 => ?_)
          · walk_at "el"
            refine n_ixL (SqL.of g5) (atI_nat go) ?_
            walk_at "el"
            refine n_ixL (SqL.of g5) (atI_nat gk) ?_
            walk_at "el"
            refine ⟨by show 2 ≤ sizeLine; decide, fun pt hpt => ?_⟩
            have e6 := nw_of hpt (.tup [.str ws[on], .str ws[kn]])
            have g6 := upd_at hpt (.tup [.str ws[on], .str ws[kn]])
            have gl6 := e6 _ _ g5
            have hb6 := hb5.same e6
            have k16 := k15.trans (same_kp e6)
            generalize upd H5 pt (.tup [.str ws[on], .str ws[kn]]) = H6 at g6 gl6 hb6 k16 ⊢
            clear e6 hpt g5 hb5 k15
            refine a_gtup (SqT.of g6) rfl ?_
            walk_at "el"
            refine a_set gl6 (by rw [List.length_map]; exact ixN9 hk) ?_
            rw [← List.map_set]
            have npl : pl ≠ c := fun e => by
              obtain ⟨_, _, _, cs, _, h2, _⟩ := hb6
              rw [← e, gl6] at h2
              cases ws with
              | nil => exact absurd hk (Nat.not_lt_zero _)
              | cons x r => cases cs <;> cases h2
            have hb7 := bag_mut9 (o := .lst ((ws.set kn ws[on]).map V.str)) hb6 nb npl
            have gl7 : upd H6 pl (.lst ((ws.set kn ws[on]).map V.str)) pl = some (.lst ((ws.set kn ws[on]).map V.str)) := upd_same
            have k17 : Kp b H (upd H6 pl (.lst ((ws.set kn ws[on]).map V.str))) := k16.mut npl0
            generalize upd H6 pl (.lst ((ws.set kn ws[on]).map V.str)) = H7 at hb7 gl7 k17 ⊢
            walk_at "el"
            refine a_set gl7 (by rw [List.length_map, List.length_set]; exact ixN9 ho) ?_
            rw [← List.map_set]
            have npl2 : pl ≠ c := fun e => by
              obtain ⟨_, _, _, cs, _, h2, _⟩ := hb7
              rw [← e, gl7] at h2
              cases hw : (ws.set kn ws[on]) with
              | nil => have := congrArg List.length hw; rw [List.length_set] at this; exact absurd this (by show ws.length ≠ 0; omega)
              | cons x r => rw [hw] at h2; cases cs <;> cases h2
            have hb8 := bag_mut9 (o := .lst (((ws.set kn ws[on]).set on ws[kn]).map V.str)) hb7 nb npl2
            have gl8 : upd H7 pl (.lst (((ws.set kn ws[on]).set on ws[kn]).map V.str)) pl = some (.lst (((ws.set kn ws[on]).set on ws[kn]).map V.str)) := upd_same
            have k18 : Kp b H (upd H7 pl (.lst (((ws.set kn ws[on]).set on ws[kn]).map V.str))) := k17.mut npl0
            generalize upd H7 pl (.lst (((ws.set kn ws[on]).set on ws[kn]).map V.str)) = H8 at hb8 gl8 k18 ⊢
            have su1 := sum_set (f := fun s : Str => s.length) ws kn ws[on]
            have su2 := sum_set (f := fun s : Str => s.length) (ws.set kn ws[on]) on ws[kn]
            have lw : ((ws.set kn ws[on]).set on ws[kn]).length = ws.length := by rw [List.length_set, List.length_set]
            have ok8 : ∀ y ∈ (ws.set kn ws[on]).set on ws[kn], okS9 y := fun y hy => by
              rcases List.mem_or_eq_of_mem_set hy with hy | rfl
              · rcases List.mem_or_eq_of_mem_set hy with hy | rfl
                · exact (lk y hy).2
                · exact mo.2
              · exact mk.2
            generalize (ws.set kn ws[on]).set on ws[kn] = ws2 at gl8 su2 lw ok8 ⊢
            have mo1 := mo.1
            have mk1 := mk.1
            have su3 : (ws2.map fun s : Str => s.length).sum ≤ 3 * z.length + 1 := by omega
            refine ⟨rfl, ?_⟩
            walk_at "el"
            unfold tM1
            walk_at "el"
            refine ⟨⟨_, rfl⟩, ?_⟩
            walk_at "el"
            refine ⟨nl, pl, ws2, congrArg V.str nl_eq, rfl, .inl (SqL.of gl8), by rw [show nl.length = 1 from rfl]; omega, ?_⟩
            have jl := join_le9 (ws := ws2)
            exact k _ _ (by omega) (join_ok9 ok8) hb8 k18
          · clear h3
            have x0 : (100 : Nat) ≤ 5100 + z.length := by omega
            walk_at "el"
            refine ⟨by show 5 ≤ sizeLine; decide, fun p1 hp1 => ?_⟩
            have e1 := nw_of hp1 (.lst [.str "tell 0 0 1000000000000", .str "tell 0 0 1000000000001", .str "gap 0 1 -1000000000000", .str "gap 0 0 1", .str "least 0 00"])
            have g1 := upd_at hp1 (.lst [.str "tell 0 0 1000000000000", .str "tell 0 0 1000000000001", .str "gap 0 1 -1000000000000", .str "gap 0 0 1", .str "least 0 00"])
            have s1 : ∀ x ∈ ([.str "tell 0 0 1000000000000", .str "tell 0 0 1000000000001", .str "gap 0 1 -1000000000000", .str "gap 0 0 1", .str "least 0 00"] : List V), Sx9 (5100 + z.length) x := all_cons (sx9 x0) (all_cons (sx9 x0) (all_cons (sx9 x0) (all_cons (sx9 x0) (all_cons (sx9 x0) all_nil))))
            generalize hx1 : ([.str "tell 0 0 1000000000000", .str "tell 0 0 1000000000001", .str "gap 0 1 -1000000000000", .str "gap 0 0 1", .str "least 0 00"] : List V) = X1 at e1 g1 s1 ⊢
            have l1 : X1.length = 5 := by rw [← hx1]; rfl
            clear hx1
            have gl1 := e1 _ _ g5
            have hb6 := hb5.same e1
            have nb1 := Bag.ne hb5 hp1
            have nc1 : p1 ≠ c := bag_nc9 hb5 hp1
            have k16 := k15.trans (same_kp e1)
            have np1 : H p1 = none := none_kp9 k15 nb1 hp1
            have npl1 : pl ≠ p1 := fun e => by rw [← e, g5] at hp1; cases hp1
            generalize upd H5 p1 (.lst X1) = H6 at g1 gl1 hb6 k16 ⊢
            clear e1 g5 hb5 k15 hp1
            walk_at "el"
            refine ⟨.inl ⟨rfl, _, SqL.of g1⟩, ?_⟩
            walk_at "el"
            refine ⟨p1, X1, .str "least 0 -1000000000001", rfl, rfl, g1, by omega, ?_⟩
            have s2 : ∀ x ∈ X1 ++ [V.str "least 0 -1000000000001"], Sx9 (5100 + z.length) x := all_app s1 (all_cons (sx9 x0) all_nil)
            have l2 : (X1 ++ [V.str "least 0 -1000000000001"]).length = 6 := by rw [List.length_append, l1]; rfl
            have g2 : upd H6 p1 (.lst (X1 ++ [V.str "least 0 -1000000000001"])) p1 = some (.lst (X1 ++ [V.str "least 0 -1000000000001"])) := upd_same
            have hb7 := bag_mut9 (o := .lst (X1 ++ [V.str "least 0 -1000000000001"])) hb6 nb1 nc1
            have k17 : Kp b H (upd H6 p1 (.lst (X1 ++ [V.str "least 0 -1000000000001"]))) := k16.mut np1
            have gl2 : upd H6 p1 (.lst (X1 ++ [V.str "least 0 -1000000000001"])) pl = some (.lst (ws.map V.str)) := by rw [upd_ne npl1]; exact gl1
            generalize X1 ++ [V.str "least 0 -1000000000001"] = X2 at s2 l2 g2 hb7 k17 gl2 ⊢
            generalize upd H6 p1 (.lst X2) = H7 at g2 hb7 k17 gl2 ⊢
            clear g1 hb6 k16 gl1 s1 l1 np1
            have lz5 : ("tell " : Str).length = 5 ∧ ("known " : Str).length = 6 ∧ (" 0 1" : Str).length = 4 ∧ (" late" : Str).length = 5 ∧ ("gap 0 1 -" : Str).length = 9 ∧ ("tell 0 0 " : Str).length = 9 ∧ ("9" : Str).length = 1 := by decide +kernel
            have n9 : ∀ {u : Str}, (∀ x ∈ u.cps.toList, x ∈ ("9" : Str).cps.toList) → okS9 u := fun h y hy => (lit9_ok (z := "9") (by decide +kernel)).2 y (h y hy)
            have cat9 : ∀ {a b : Str}, okS9 a → okS9 b → okS9 (a ++ b) := fun h1 h2 => ok9_app h1 h2
            walk_at "el"
            refine ⟨"9", 5000, rfl, rfl, by decide, by decide, by decide +kernel, by decide +kernel, fun u1 lu1 mu1 => ?_⟩
            walk_at "el"
            have lu1 : u1.length = 5000 := by rw [lu1, lz5.2.2.2.2.2.2]; decide
            refine ⟨"tell ", u1, rfl, rfl, by omega, ?_⟩
            walk_at "el"
            refine ⟨_, " 0 1", rfl, rfl, by rw [app_len]; omega, ?_⟩
            walk_at "el"
            refine ⟨"9", 5000, rfl, rfl, by decide, by decide, by decide +kernel, by decide +kernel, fun u2 lu2 mu2 => ?_⟩
            walk_at "el"
            have lu2 : u2.length = 5000 := by rw [lu2, lz5.2.2.2.2.2.2]; decide
            refine ⟨"known ", u2, rfl, rfl, by omega, ?_⟩
            walk_at "el"
            refine ⟨_, " late", rfl, rfl, by rw [app_len]; omega, ?_⟩
            walk_at "el"
            refine ⟨"9", 5000, rfl, rfl, by decide, by decide, by decide +kernel, by decide +kernel, fun u3 lu3 mu3 => ?_⟩
            walk_at "el"
            have lu3 : u3.length = 5000 := by rw [lu3, lz5.2.2.2.2.2.2]; decide
            refine ⟨"gap 0 1 -", u3, rfl, rfl, by omega, ?_⟩
            walk_at "el"
            refine ⟨by show 3 ≤ sizeLine; decide, fun p2 hp2 => ?_⟩
            have e2 := fun o => nw_of hp2 o
            have nx3 : ∀ x ∈ ([.str ("tell " ++ u1 ++ " 0 1"), .str ("known " ++ u2 ++ " late"), .str ("gap 0 1 -" ++ u3)] : List V), Sx9 (5100 + z.length) x :=
              all_cons ⟨_, rfl, by rw [app_len, app_len]; omega, cat9 (cat9 (lit9_ok (by decide +kernel)).2 (n9 mu1)) (lit9_ok (by decide +kernel)).2⟩
                (all_cons ⟨_, rfl, by rw [app_len, app_len]; omega, cat9 (cat9 (lit9_ok (by decide +kernel)).2 (n9 mu2)) (lit9_ok (by decide +kernel)).2⟩
                  (all_cons ⟨_, rfl, by rw [app_len]; omega, cat9 (lit9_ok (by decide +kernel)).2 (n9 mu3)⟩ all_nil))
            refine n_cat (e2 _ _ _ g2) upd_same (by rw [l2]; show 6 + 3 ≤ sizeLine; decide) fun p3 hp3 => ?_
            have s3 := all_app s2 nx3
            have l3 : (X2 ++ ([.str ("tell " ++ u1 ++ " 0 1"), .str ("known " ++ u2 ++ " late"), .str ("gap 0 1 -" ++ u3)] : List V)).length = 9 := by rw [List.length_append, l2]; rfl
            have e3 := (e2 (.lst [.str ("tell " ++ u1 ++ " 0 1"), .str ("known " ++ u2 ++ " late"), .str ("gap 0 1 -" ++ u3)])).trans (nw_of hp3 (.lst (X2 ++ ([.str ("tell " ++ u1 ++ " 0 1"), .str ("known " ++ u2 ++ " late"), .str ("gap 0 1 -" ++ u3)] : List V))))
            have g3 := upd_at hp3 (.lst (X2 ++ ([.str ("tell " ++ u1 ++ " 0 1"), .str ("known " ++ u2 ++ " late"), .str ("gap 0 1 -" ++ u3)] : List V)))
            generalize (X2 ++ ([.str ("tell " ++ u1 ++ " 0 1"), .str ("known " ++ u2 ++ " late"), .str ("gap 0 1 -" ++ u3)] : List V)) = X3 at s3 l3 e3 g3 ⊢
            have gl3 := e3 _ _ gl2
            have hb8 := hb7.same e3
            have k18 := k17.trans (same_kp e3)
            generalize upd (upd H7 p2 (.lst [.str ("tell " ++ u1 ++ " 0 1"), .str ("known " ++ u2 ++ " late"), .str ("gap 0 1 -" ++ u3)])) p3 (.lst X3) = H8 at e3 g3 gl3 hb8 k18 ⊢
            clear nx3 s2 l2 g2 e2 hp2 hp3 e3 hb7 k17 gl2
            walk_at "el"
            refine n_ixL (SqL.of gl3) (atI_nat gk) ?_
            walk_at "el"
            refine ⟨by show 6 ≤ sizeLine; decide, fun p4 hp4 => ?_⟩
            generalize hY : ([.str "known 0 early late", .str "clause 0 early 0 early", .str "clause 0 early 0 late", .str "most 0 -0", .str "", .str ws[kn]] : List V) = Y4
            have s4 : ∀ x ∈ Y4, Sx9 (5100 + z.length) x := by
              rw [← hY]
              exact all_cons (sx9 x0) (all_cons (sx9 x0) (all_cons (sx9 x0) (all_cons (sx9 x0) (all_cons (sx9 x0) (all_cons ⟨_, rfl, by have := mk.1; omega, mk.2⟩ all_nil)))))
            have ly4 : Y4.length = 6 := by rw [← hY]; rfl
            clear hY
            have e4 := fun o => nw_of hp4 o
            refine n_cat (e4 _ _ _ g3) upd_same (by rw [l3, ly4]; show 9 + 6 ≤ sizeLine; decide) fun p5 hp5 => ?_
            have s5 := all_app s3 s4
            have l5 : (X3 ++ Y4).length = 15 := by rw [List.length_append, l3, ly4]
            have e5 := (e4 (.lst Y4)).trans (nw_of hp5 (.lst (X3 ++ Y4)))
            have g5' := upd_at hp5 (.lst (X3 ++ Y4))
            generalize X3 ++ Y4 = X5 at s5 l5 e5 g5' ⊢
            have gl5 := e5 _ _ gl3
            have hb9 := hb8.same e5
            have k19 := k18.trans (same_kp e5)
            generalize upd (upd H8 p4 (.lst Y4)) p5 (.lst X5) = H9 at e5 g5' gl5 hb9 k19 ⊢
            clear s4 s3 l3 g3 e4 hp4 hp5 e5 hb8 k18 gl3 ly4
            walk_at "el"
            refine ⟨"9", 5000, rfl, rfl, by decide, by decide, by decide +kernel, by decide +kernel, fun u4 lu4 mu4 => ?_⟩
            walk_at "el"
            have lu4 : u4.length = 5000 := by rw [lu4, lz5.2.2.2.2.2.2]; decide
            refine ⟨"tell 0 0 ", u4, rfl, rfl, by omega, ?_⟩
            walk_at "el"
            refine ⟨by show 6 ≤ sizeLine; decide, fun p6 hp6 => ?_⟩
            generalize hY : ([.str ("tell 0 0 " ++ u4), .str "events 2", .str "Known 0 late", .str "known 0 late ", .str "gap  0 1 2", .str "least 1 5"] : List V) = Y6
            have s6 : ∀ x ∈ Y6, Sx9 (5100 + z.length) x := by
              rw [← hY]
              exact all_cons ⟨_, rfl, by rw [app_len]; omega, cat9 (lit9_ok (by decide +kernel)).2 (n9 mu4)⟩ (all_cons (sx9 x0) (all_cons (sx9 x0) (all_cons (sx9 x0) (all_cons (sx9 x0) (all_cons (sx9 x0) all_nil)))))
            have ly6 : Y6.length = 6 := by rw [← hY]; rfl
            clear hY
            have e6 := fun o => nw_of hp6 o
            refine n_cat (e6 _ _ _ g5') upd_same (by rw [l5, ly6]; show 15 + 6 ≤ sizeLine; decide) fun p7 hp7 => ?_
            have s7 := all_app s5 s6
            have l7 : (X5 ++ Y6).length = 21 := by rw [List.length_append, l5, ly6]
            have e7 := (e6 (.lst Y6)).trans (nw_of hp7 (.lst (X5 ++ Y6)))
            have g7 := upd_at hp7 (.lst (X5 ++ Y6))
            have nb7 : p7 ≠ b := Bag.ne (hb9.same (e6 _)) hp7
            generalize X5 ++ Y6 = X7 at s7 l7 e7 g7 ⊢
            have gl7 := e7 _ _ gl5
            have hb11 := hb9.same e7
            have k111 := k19.trans (same_kp e7)
            generalize upd (upd H9 p6 (.lst Y6)) p7 (.lst X7) = H11 at e7 g7 gl7 hb11 k111 ⊢
            clear s6 s5 l5 g5' e6 hp6 hp7 e7 hb9 k19 gl5 ly6
            walk_at "el"
            refine ⟨b, c, p7, _, rfl, hb11, nb7, .inl g7, by omega, by omega, fun x H12 hx hb12 k12 => ?_⟩
            obtain ⟨y, rfl, hy, oy⟩ := s7 x hx
            have gl12 := k12 _ _ nb gl7
            have k112 := k111.trans k12
            clear g7 gl7 hb11 k111 k12 hx s7 l7
            walk_at "el"
            unfold tM1
            walk_at "el"
            refine ⟨⟨_, rfl⟩, ?_⟩
            walk_at "el"
            refine .inl ⟨pl, _, rfl, SqL.of gl12, fun q1 hq1 => ?_⟩
            rw [show cutV (ws.map V.str) none (some (kn : Int)) = (ws.take kn).map V.str from by rw [cut_to, List.map_take]]
            have e13 := nw_of hq1 (.lst ((ws.take kn).map V.str))
            have g13 := upd_at hq1 (.lst ((ws.take kn).map V.str))
            have gl13 := e13 _ _ gl12
            have hb13 := hb12.same e13
            have nq1 : q1 ≠ b := Bag.ne hb12 hq1
            have k113 := k112.trans (same_kp e13)
            generalize upd H12 q1 (.lst ((ws.take kn).map V.str)) = H13 at e13 g13 gl13 hb13 k113 ⊢
            clear gl12 hb12 k112 hq1 e13
            walk_at "el"
            refine ⟨by show 1 ≤ sizeLine; decide, fun q2 hq2 => ?_⟩
            have e14 := nw_of hq2 (.lst [.str y])
            have g14 := upd_at hq2 (.lst [.str y])
            have gl14 := e14 _ _ gl13
            have g134 := e14 _ _ g13
            have hb14 := hb13.same e14
            have nq2 : q2 ≠ b := Bag.ne hb13 hq2
            have k114 := k113.trans (same_kp e14)
            generalize upd H13 q2 (.lst [.str y]) = H14 at e14 g14 g134 gl14 hb14 k114 ⊢
            clear gl13 g13 hb13 k113 hq2 e14
            walk_at "el"
            refine ⟨by show 4 ≤ sizeLine; decide, fun q3 hq3 => ?_⟩
            have e15 := nw_of hq3 (.lst ([1, 1, 2, 21].map V.int))
            walk_at "el"
            refine ⟨b, c, q3, [1, 1, 2, 21].map V.int, rfl, hb14.same e15, Bag.ne hb14 hq3, .inl upd_same, by decide, by decide, fun x H16 hx hb16 k16 => ?_⟩
            obtain ⟨n, rfl, hn0, hn1⟩ : ∃ n : Nat, x = .int n ∧ 0 < n ∧ n ≤ 21 := by
              obtain ⟨m, hm, rfl⟩ := List.mem_map.mp hx
              have : m = 1 ∨ m = 2 ∨ m = 21 := by simp at hm; omega
              rcases this with rfl | rfl | rfl
              · exact ⟨1, rfl, by decide, by decide⟩
              · exact ⟨2, rfl, by decide, by decide⟩
              · exact ⟨21, rfl, by decide, by decide⟩
            have g146 := k16 _ _ nq2 (e15 _ _ g14)
            have g136 := k16 _ _ nq1 (e15 _ _ g134)
            have gl16 := k16 _ _ nb (e15 _ _ gl14)
            have k116 := k114.trans (Kp.into k16 e15)
            clear g14 g134 gl14 hb14 k114 k16 e15 hq3 hx
            refine .inr ⟨_, _, _, rfl, rfl, g146, by omega, by omega, by show 1 * n ≤ sizeLine; omega, fun q4 hq4 => ?_⟩
            rw [Int.toNat_natCast, rep9]
            have e17 := nw_of hq4 (.lst ((List.replicate n y).map V.str))
            have g17 := upd_at hq4 (.lst ((List.replicate n y).map V.str))
            have g137 := e17 _ _ g136
            have gl17 := e17 _ _ gl16
            have hb17 := hb16.same e17
            have k117 := k116.trans (same_kp e17)
            generalize upd H16 q4 (.lst ((List.replicate n y).map V.str)) = H17 at e17 g17 g137 gl17 hb17 k117 ⊢
            clear g146 g136 gl16 hb16 k116 hq4 e17
            walk_at "el"
            refine n_cat g137 g17 (by rw [List.length_map, List.length_map, List.length_take, List.length_replicate]; omega) fun q5 hq5 => ?_
            rw [← List.map_append]
            have e18 := nw_of hq5 (.lst ((ws.take kn ++ List.replicate n y).map V.str))
            have g18 := upd_at hq5 (.lst ((ws.take kn ++ List.replicate n y).map V.str))
            have gl18 := e18 _ _ gl17
            have hb18 := hb17.same e18
            have nq5 : q5 ≠ b := Bag.ne hb17 hq5
            have k118 := k117.trans (same_kp e18)
            generalize upd H17 q5 (.lst ((ws.take kn ++ List.replicate n y).map V.str)) = H18 at e18 g18 gl18 hb18 k118 ⊢
            clear g17 g137 gl17 hb17 k117 hq5 e18
            walk_at "el"
            refine ⟨b, c, 2, rfl, hb18, by decide, by decide, fun tn H19 t0 t1 hb19 k19 => ?_⟩
            have g19 := k19 _ _ nq5 g18
            have gl19 := k19 _ _ nb gl18
            have k119 := k118.trans k19
            clear g18 gl18 hb18 k118 k19
            obtain ⟨tm, rfl⟩ : ∃ tm : Nat, tn = tm := ⟨tn.toNat, by omega⟩
            walk_at "el"
            refine .inl ⟨pl, _, rfl, SqL.of gl19, fun q6 hq6 => ?_⟩
            rw [show cutV (ws.map V.str) (some ((kn : Int) + (tm : Int))) none = (ws.drop (kn + tm)).map V.str from by
              rw [show ((kn : Int) + (tm : Int)) = ((kn + tm : Nat) : Int) from by omega, cut_from, List.map_drop]]
            have e20 := nw_of hq6 (.lst ((ws.drop (kn + tm)).map V.str))
            have g20 := upd_at hq6 (.lst ((ws.drop (kn + tm)).map V.str))
            have g190 := e20 _ _ g19
            have hb20 := hb19.same e20
            have k120 := k119.trans (same_kp e20)
            generalize upd H19 q6 (.lst ((ws.drop (kn + tm)).map V.str)) = H20 at e20 g20 g190 hb20 k120 ⊢
            clear g19 gl19 hb19 k119 hq6 e20
            refine n_cat g190 g20 (by rw [List.length_map, List.length_map, List.length_append, List.length_take, List.length_replicate, List.length_drop]; omega) fun q7 hq7 => ?_
            rw [← List.map_append]
            have e21 := nw_of hq7 (.lst (((ws.take kn ++ List.replicate n y) ++ ws.drop (kn + tm)).map V.str))
            walk_at "el"
            have st := sum_take (f := fun s : Str => s.length) ws kn
            have sd := sum_drop (f := fun s : Str => s.length) ws (kn + tm)
            have sr : ((List.replicate n y).map fun s : Str => s.length).sum ≤ 21 * (5100 + z.length) := by
              have := StrLaws.sumLen_le (B := 5100 + z.length) (List.replicate n y) fun w hw => by rw [(List.mem_replicate.mp hw).2]; exact hy
              rw [List.length_replicate] at this
              exact Nat.le_trans this (Nat.mul_le_mul_right _ hn1)
            have stot : (((ws.take kn ++ List.replicate n y) ++ ws.drop (kn + tm)).map fun s : Str => s.length).sum ≤ 2 * (z.length + 1) + 21 * (5100 + z.length) := by
              simp only [List.map_append, List.sum_append]; omega
            have ltot : ((ws.take kn ++ List.replicate n y) ++ ws.drop (kn + tm)).length ≤ ws.length + 21 := by
              rw [List.length_append, List.length_append, List.length_take, List.length_replicate, List.length_drop]; omega
            have oktot : ∀ y' ∈ (ws.take kn ++ List.replicate n y) ++ ws.drop (kn + tm), okS9 y' :=
              all_app (all_app (fun y' h => (lk y' (List.mem_of_mem_take h)).2) fun y' h => by rw [(List.mem_replicate.mp h).2]; exact oy) fun y' h => (lk y' (List.mem_of_mem_drop h)).2
            generalize (ws.take kn ++ List.replicate n y) ++ ws.drop (kn + tm) = wf at e21 stot ltot oktot ⊢
            refine ⟨nl, q7, wf, congrArg V.str nl_eq, rfl, .inl (SqL.of upd_same), by rw [show nl.length = 1 from rfl]; omega, ?_⟩
            have jl := join_le9 (ws := wf)
            exact k _ _ (by omega) (join_ok9 oktot) (hb20.same e21) (k120.trans (same_kp e21))
end
end EL

/- part K92L -/
namespace EL
open PySem PySem.Spec PyProof.Rows L2
open PySem.W (Frag)
open TX
abbrev s_law : Stmt := top 61
abbrev N_law : List Str := ["_law_script", "_law_bag_here", "_law_trip", "_law_events", "_law_witnesses", "_law_text", "_law_asking", "_law_thing", "_law_bend"]
theorem sc_law : FnScope N_law ["_law_script"] (defScope s_law) := ⟨rfl, rfl, rfl, by decide +kernel, rfl, by decide +kernel, by decide +kernel⟩
local macro_rules | `(tactic| walk_at "el1") => `(tactic| with_reducible first
  | refine a_sasg ?_ | refine a_sdrop ?_ | refine a_saugS ?_ | refine a_spar ?_ | refine a_seq ?_ | refine a_asg ?_ | refine a_drop ?_ | refine a_ret ?_ | refine a_if ?_ | refine a_next ?_
  | refine a_op ?_ | refine a_cons ?_ | refine a_nil ?_ | refine a_cb ?_ | refine a_call ?_ | refine a_c ?_ | refine a_gn ?_ | refine a_nx ?_ | refine a_rt ?_ | refine a_un ?_
  | refine a_test ?_ | refine a_B ?_ | refine a_bl ?_ | refine a_and ?_ | refine a_or ?_ | refine a_not ?_ | refine a_andV ?_ | refine a_orV ?_ | refine a_notV ?_ | refine a_ifx ?_ | refine a_chain ?_
  | refine a_nT ?_ | refine a_nF ?_ | refine a_fld ?_ | refine a_getF ?_ | refine a_T ?_ | refine a_F ?_ | refine a_tup ?_ | refine a_lst ?_ | refine a_sub ?_ | refine a_augS ?_ | refine a_two ?_ | refine a_I0 ?_ | refine a_U ?_ | refine n_add ?_ | refine n_int ?_ | refine n_ib ?_ | refine a_ip ?_ | refine a_rng1 ?_ | refine a_rng2 ?_ | refine a_bm ?_ | refine a_abs ?_ | refine a_pairs ?_ | refine a_pairs0 ?_ | refine a_bk ?_ | refine a_prp ?_ | refine a_lc ?_ | refine a_yes ?_ | refine a_sl ?_ | refine a_nop ?_ | refine a_prt ?_ | refine a_ex1 ?_ | refine a_for ?_ | refine a_sfor ?_ | refine a_iE1 ?_ | refine a_iEs ?_ | refine a_iEz ?_ | refine a_iEnum ?_ | refine a_iTup ?_ | refine a_iList ?_ | refine a_gcons ?_ | refine a_gnil ?_ | refine a_revT ?_ | refine a_spar3 ?_ | refine a_par3 ?_ | refine a_three ?_)
local macro_rules | `(tactic| walk_at "el2") => `(tactic| first
  | (refine a_var (by rfl) ?_)
  | (refine n_ixL (SqL.of (by assumption)) (by rfl) ?_) | (refine n_ixT (SqT.of (by assumption)) (by rfl) ?_) | (refine n_eq (by rfl) ?_) | (refine n_ne (by rfl) ?_)
  | (refine n_isN ?_) | (refine n_notN ?_) | (refine n_isB ?_) | (refine n_notB ?_) | (refine n_isBI ?_) | (refine n_notBI ?_) | (refine n_len (.inl (SqL.of (by assumption))) ?_) | (refine n_len (.inr (SqT.of (by assumption))) ?_)
  | (refine a_getL (SqL.of (by assumption)) (by rfl) ?_)
  | (refine n_isInt (by assumption) ?_) | (refine n_isBool (by assumption) ?_) | (refine n_isStr (by assumption) ?_) | (refine n_isTup (by assumption) ?_) | (refine n_isLst (by assumption) ?_))
local macro_rules | `(tactic| walk_at "el") => `(tactic| repeat (first | walk_at "el1" | walk_at "el2"))

theorem ints_mem {js : List Int} {x : V} {P : Int → Prop} (h : x ∈ js.map V.int) (hp : ∀ j ∈ js, P j) : ∃ z, x = .int z ∧ P z := by
  obtain ⟨j, hj, rfl⟩ := List.mem_map.mp h
  exact ⟨j, rfl, hp j hj⟩
theorem no9_shp : SeqAt.shaped (no9 1) = true ∧ SeqAt.shaped (no9 2) = true := by decide +kernel
theorem read_empty : readO "" = .inr 1 := by
  have h : sizeAt (lanes "") 0 "events" = none := by decide +kernel
  unfold readO; rw [h]
theorem read_one : readO "events 0" = .inr 2 := by
  have h : sizeAt (lanes "events 0") 0 "events" = some 0 := by decide +kernel
  have h2 : sizeAt (lanes "events 0") 1 "witnesses" = none := by decide +kernel
  unfold readO; rw [h]; dsimp only; rw [h2]
theorem read_two : readO "events 0\n" = .inr 2 := by
  have h : sizeAt (lanes "events 0\n") 0 "events" = some 0 := by decide +kernel
  have h2 : sizeAt (lanes "events 0\n") 1 "witnesses" = none := by decide +kernel
  unfold readO; rw [h]; dsimp only; rw [h2]
theorem read_nines {u : Str} (hu : u.length = 5000) (hm : ∀ x ∈ u.cps.toList, x ∈ ("9" : Str).cps.toList) : readO ("events " ++ u ++ "\nwitnesses 0") = .inr 1 := by
  have e9 : ("9" : Str).cps.toList = [57] := by decide +kernel
  have m9 : ∀ x ∈ u.cps.toList, x = 57 := fun x hx => by have := hm x hx; rw [e9] at this; simpa using this
  have el : ("events " ++ u ++ "\nwitnesses 0" : Str) = Txt.join nl ["events " ++ u, "witnesses 0"] := str_ext (by
    rw [join_listN]
    simp only [List.map, flat, app_list]
    rw [show ("\nwitnesses 0" : Str).cps.toList = 10 :: ("witnesses 0" : Str).cps.toList from by decide +kernel])
  have ee : ("events " ++ u : Str) = lineS ["events", u] := str_ext (by
    rw [line_list]
    simp only [List.map, flat, app_list]
    rw [show ("events " : Str).cps.toList = ("events" : Str).cps.toList ++ [32] from by decide +kernel]; simp)
  have n10 : 10 ∉ ("events " ++ u : Str).cps.toList := fun h => by
    rw [app_list] at h
    rcases List.mem_append.mp h with h | h
    · exact absurd h (by decide +kernel)
    · have := m9 _ h; omega
  have hl : lanes ("events " ++ u ++ "\nwitnesses 0") = ["events " ++ u, "witnesses 0"] := by
    rw [el]
    exact (congrArg (fun s => Txt.split s nl) (StrLaws.glued_eq_join _ _)).trans (split_join (c := 10) (by simp) (all2 n10 (by decide +kernel)))
  have hw : Txt.split ("events " ++ u) sp1 = ([("events" : Str), u] : List Str) := by
    rw [ee]
    exact (congrArg (fun s => Txt.split s sp1) (StrLaws.glued_eq_join _ _)).trans (split_join (c := 32) (by simp) (all2 (by decide +kernel) fun h => by have := m9 _ h; omega))
  have hf : figs u.cps.toList = u.cps.toList := by
    rcases figs_or u.cps.toList with ⟨_, e⟩ | ⟨_, e, _⟩
    · have := m9 45 (by rw [e]; exact List.mem_cons_self); omega
    · exact e
  have hi : intW u = none := by
    have l : ¬ u.cps.toList.length ≤ 40 := by rw [TX.len_list]; omega
    have d : digs u = false := by
      unfold digs
      rw [hf, decide_eq_false l]; simp
    unfold intW
    rw [d]; rfl
  have h : sizeAt (lanes ("events " ++ u ++ "\nwitnesses 0")) 0 "events" = none := by
    rw [hl]
    show sizeO (Txt.split ("events " ++ u) sp1) "events" 8 = none
    rw [hw]
    unfold sizeO
    rw [if_pos (show ([("events" : Str), u] : List Str).dropLast = ([("events" : Str)] : List Str) from rfl)]
    show (match intW u with | some n => if 0 ≤ n ∧ n ≤ 8 then some n else none | none => none) = none
    rw [hi]
  unfold readO; rw [h]
section
variable {P : Program} {w : World} {K : Frag} {mg : Str → Option Value} {base : Heap} {f : Addr} {fd : FuncData} {C : Addr} {Dk : BookD}
set_option maxHeartbeats 16000000 in
theorem ok_law (F : Fun K "law" "law" s_law f fd) (T : Tb mg) (B0 : BkC K C) (c_bag : Cal P w K mg base CX0 1 "_law_bag" ["_law_script"] (spBag K)) (c_take : Cal P w K mg base CX0 1 "_law_take" ["_law_bag_here", "_law_many"] spTake) (c_one : Cal P w K mg base CX0 2 "_law_one" ["_law_bag_here", "_law_menu"] (spOne K))
    (c_parts : Cal P w K mg base CX0 3 "_law_parts" ["_law_bag_here", "_law_events", "_law_witnesses", "_law_most"] spParts) (c_lines : Cal P w K mg base CX0 1 "_law_lines" ["_law_events", "_law_witnesses", "_law_parts_here"] spLines)
    (c_told : Cal P w K mg base CX0 10 "_law_told" ["_law_text"] (spOut9 K)) (c_due : Cal P w K mg base CX0 4 "_law_due" ["_law_text"] (spOut9 K)) (c_bent : Cal P w K mg base CX0 3 "_law_bent" ["_law_bag_here", "_law_text"] spBent9) (c_Book : BookG P w K mg base C Dk) :
    FnG P w K mg base CX0 12 f fd ["_law_script"] (spLaw K) := by
  refine fnG_of F sc_law (fun vs H Q E h => ?_) (fun cdv A outer s H vs Q E hr hq h => ?_)
  · obtain ⟨_, _, rfl, _⟩ := h
    rfl
  · obtain ⟨a, ns, rfl, ha, k⟩ := h
    refine ⟨_, PSs.nox (pss_cons (ps_set (i := 1) sc_law.nd rfl (Or.inl rfl) (pe_cal c_bag (hr.mono (by decide)) pass0 (pa_cons (pv 0) pa_nil)))
  (pss_cons (ps_for PassesOwn.never rfl (pi_range1 rfl T.b.range_ (pa_cons pe_int pa_nil)) (pg_name (i := 2) sc_law.nd rfl (Or.inl rfl))
    (pss_cons (ps_par (i := 3) (j := 4) rfl sc_law.nd rfl rfl (by decide) rfl rfl (pa_cons (pe_cal c_one (hr.mono (by decide)) pass0 (pa_cons (pv 1) (pa_cons (pe_lst (pa_cons pe_int (pa_cons pe_int (pa_cons pe_int (pa_cons pe_int (pa_cons pe_int pa_nil)))))) pa_nil))) (pa_cons (pe_cal c_one (hr.mono (by decide)) pass0 (pa_cons (pv 1) (pa_cons (pe_lst (pa_cons pe_int (pa_cons pe_int (pa_cons pe_int (pa_cons pe_int (pa_cons pe_int pa_nil)))))) pa_nil))) pa_nil)) (by with_unfolding_all rfl))
  (pss_cons (ps_set (i := 5) sc_law.nd rfl (Or.inl rfl) (pe_join pe_str (pe_cal c_lines (hr.mono (by decide)) pass0 (pa_cons (pv 3) (pa_cons (pv 4) (pa_cons (pe_cal c_parts (hr.mono (by decide)) pass0 (pa_cons (pv 1) (pa_cons (pv 3) (pa_cons (pv 4) (pa_cons pe_int pa_nil))))) pa_nil))))))
  (pss_one (ps_for PassesOwn.never rfl (pi_range1 rfl T.b.range_ (pa_cons pe_int pa_nil)) (pg_name (i := 6) sc_law.nd rfl (Or.inl rfl))
    (pss_cons (ps_set (i := 7) sc_law.nd rfl (Or.inl rfl) (pv 5))
  (pss_cons (ps_for PassesOwn.never rfl (pi_range1 rfl T.b.range_ (pa_cons (pe_op u_add pe_int (pe_cal c_take (hr.mono (by decide)) pass0 (pa_cons (pv 1) (pa_cons pe_int pa_nil)))) pa_nil)) (pg_name (i := 8) sc_law.nd rfl (Or.inl rfl))
    (pss_one (ps_set (i := 7) sc_law.nd rfl (Or.inl rfl) (pe_cal c_bent (hr.mono (by decide)) pass0 (pa_cons (pv 1) (pa_cons (pv 7) pa_nil))))))
  (pss_one (ps_if (pt_cmpR (u_ne hr.units) (pe_callB (u_show hq hr.units) rfl T.b.repr_ (by decide +kernel) (pa_cons (pe_cal c_told (hr.mono (by decide)) pass0 (pa_cons (pv 7) pa_nil)) pa_nil)) (pe_callB (u_show hq hr.units) rfl T.b.repr_ (by decide +kernel) (pa_cons (pe_cal c_due (hr.mono (by decide)) pass0 (pa_cons (pv 7) pa_nil)) pa_nil)) (nomark _))
    (pss_one (ps_ret pe_bl))
    pss_nil)))))))))
  (pss_cons (ps_for PassesOwn.never rfl (u_iter (pe_lst (pa_cons pe_non (pa_cons pe_int (pa_cons pe_bl (pa_cons (pe_lst (pa_cons (pv 5) pa_nil)) (pa_cons (pe_tup (pa_cons pe_str (pa_cons pe_str pa_nil))) (pa_cons pe_dnewK (pa_cons pe_str (pa_cons (pe_bk2 c_Book (hr.mono (by decide)) rfl (pa_cons pe_int (pa_cons pe_int pa_nil))) (pa_cons (pe_tup (pa_cons pe_str pa_nil)) pa_nil))))))))))) (pg_name (i := 7) sc_law.nd rfl (Or.inl rfl))
    (pss_one (ps_if (pt_cmpR (u_ne hr.units) (pe_cal c_told (hr.mono (by decide)) pass0 (pa_cons (pv 7) pa_nil)) (pe_tup (pa_cons pe_str (pa_cons pe_int pa_nil))) (nomark _))
    (pss_one (ps_ret pe_bl))
    pss_nil)))
  (pss_cons (ps_if (pt_cmpR (u_ne hr.units) (pe_cal c_told (hr.mono (by decide)) pass0 (pa_cons (pe_op op_add_str (pe_op op_add_str pe_str (pe_op op_mulS pe_str pe_int)) pe_str) pa_nil)) (pe_tup (pa_cons pe_str (pa_cons pe_int pa_nil))) (nomark _))
    (pss_one (ps_ret pe_bl))
    pss_nil)
  (pss_one (ps_ret (pe_and (pe_cmpR (u_eq hr.units) (pe_cal c_told (hr.mono (by decide)) pass0 (pa_cons pe_str pa_nil)) (pe_tup (pa_cons pe_str (pa_cons pe_int pa_nil))) (nomark _)) (pe_one (pe_cmpR (u_eq hr.units) (pe_cal c_told (hr.mono (by decide)) pass0 (pa_cons pe_str pa_nil)) (pe_tup (pa_cons pe_str (pa_cons pe_int pa_nil))) (nomark _)))))))))), ?_⟩
    have hs0 : sizeLine = 16777216 := rfl
    walk_at "el"
    refine ⟨a, ns, rfl, ha, fun b c H1 hb0 hc0 hb1 s1 => ?_⟩
    walk_at "el"
    refine ⟨by decide, by decide, ?_⟩
    refine lp_range (fun i σ H2 => Bag H2 b c ∧ ∃ v2 v3 v4 v5 v6 v7 v8, (0 < i → ∃ t : Str, v5 = some (.str t)) ∧ σ = [some (.ref a), some (.ref b), v2, v3, v4, v5, v6, v7, v8]) ⟨hb1, _, _, _, _, _, _, _, fun h => absurd h (Nat.lt_irrefl _), rfl⟩ ?_ ?_
    · rintro i σ H2 hi ⟨hb2, v2, v3, v4, v5, v6, v7, v8, _, rfl⟩
      walk_at "el"
      refine ⟨by show 5 ≤ sizeLine; decide, fun m1 hm1 => ?_⟩
      have e1 := nw_of hm1
      walk_at "el"
      refine ⟨b, c, m1, _, rfl, hb2.same (e1 _), hb2.ne hm1, .inl upd_same, by decide, by decide, fun x1 H3 hx1 hb3 _ => ?_⟩
      obtain ⟨ev, rfl, e0, e8⟩ := ints_mem (js := [2, 3, 8, 1, 0]) (P := fun z => 0 ≤ z ∧ z ≤ 8) hx1 (by decide)
      walk_at "el"
      refine ⟨by show 5 ≤ sizeLine; decide, fun m2 hm2 => ?_⟩
      have e2 := nw_of hm2
      walk_at "el"
      refine ⟨b, c, m2, _, rfl, hb3.same (e2 _), hb3.ne hm2, .inl upd_same, by decide, by decide, fun x2 H4 hx2 hb4 _ => ?_⟩
      obtain ⟨wi, rfl, w0, w8⟩ := ints_mem (js := [2, 3, 8, 1, 0]) (P := fun z => 0 ≤ z ∧ z ≤ 8) hx2 (by decide)
      clear hx1 hx2 e1 e2 hm1 hm2 hb2 hb3
      walk_at "el"
      refine ⟨⟨_, rfl⟩, ?_⟩
      walk_at "el"
      refine ⟨ev, wi, 6, b, c, rfl, hb4, e0, e8, w0, w8, by decide, by decide, fun p l H6 xs S I6 lt lg ls lc => ?_⟩
      obtain ⟨D, R, ok⟩ := pr_of I6.it
      have liny := liny_all ok e0 e8 w0 w8
      have n18 : (linesW ev wi D).length ≤ 18 := by
        have h2 : (headW ev wi).length = 2 := rfl
        unfold linesW
        simp only [List.length_append, List.length_map]
        have a := R.t.len; have b := R.g.len; have c := R.s.len; have d := R.l.len
        omega
      have ln6 : ∀ u, (xs u).length ≤ 100 := fun u => by cases u <;> omega
      walk_at "el"
      refine ⟨ev, wi, p, l, xs, D, rfl, e0, e8, w0, w8, I6.hp, I6.hl, R, ok, ln6, fun q9 H9 s9 hq9 => ?_⟩
      have hb9 := I6.bag.same s9
      have tl := text_len (n := 18) liny n18
      have tk := text_ok9 liny
      have hsum := lines_sum (n := 18) liny n18
      walk_at "el"
      refine ⟨nl, q9, (linesW ev wi D).map lineS, congrArg V.str nl_eq, rfl, .inl (SqL.of hq9), by rw [show nl.length = 1 from rfl, Nat.mul_one]; exact Nat.le_trans hsum (by decide), ?_⟩
      rw [show Txt.join nl ((linesW ev wi D).map lineS) = textW ev wi D from rfl]
      generalize textW ev wi D = tx at tl tk ⊢
      clear hsum n18 liny ok R D I6 S lt lg ls lc ln6 hq9 s9 hb4
      walk_at "el"
      refine ⟨by decide, by decide, ?_⟩
      refine lp_range (fun i σ H2 => Bag H2 b c ∧ ∃ v2 v6 v7 v8, σ = [some (.ref a), some (.ref b), v2, some (.int ev), some (.int wi), some (.str tx), v6, v7, v8]) ⟨hb9, _, _, _, _, rfl⟩ ?_ ?_
      · clear hb9 H9
        rintro i2 σ H9 hi2 ⟨hb9, v2, v6, v7, v8, rfl⟩
        walk_at "el"
        refine ⟨b, c, 2, rfl, hb9, by decide, by decide, fun r H10 r0 r1 hb10 _ => ?_⟩
        walk_at "el"
        refine ⟨by omega, by omega, ?_⟩
        refine lp_range (fun j σ H2 => Bag H2 b c ∧ ∃ v2 v6 v8 z, okS9 z ∧ (j = 0 → z.length ≤ 3798) ∧ (j ≤ 1 → z.length ≤ 210000) ∧ z.length ≤ 7000000 ∧ σ = [some (.ref a), some (.ref b), v2, some (.int ev), some (.int wi), some (.str tx), v6, some (.str z), v8]) ⟨hb10, _, _, _, tx, tk, fun _ => tl, fun _ => by omega, by omega, rfl⟩ ?_ ?_
        · clear hb10 hb9
          rintro j σ H11 hj ⟨hb11, v2, v6, v8, z, zk, z0, z1, z2, rfl⟩
          have hj1 : j ≤ 1 := by omega
          have zl := z1 hj1
          walk_at "el"
          refine ⟨b, c, z, rfl, hb11, by omega, zk, fun y H12 hy oy hb12 _ => ?_⟩
          walk_at "el"
          refine ⟨hb12, _, _, _, y, oy, fun h => absurd h (Nat.succ_ne_zero _), fun h => ?_, by omega, rfl⟩
          have := z0 (by omega)
          omega
        · rintro σ H11 ⟨hb11, v2, v6, v8, z, zk, _, _, zl, rfl⟩
          walk_at "el"
          refine ⟨.str z, rfl, .str _, fun z' h => by cases h; exact ⟨zl, zk⟩, fun H12 v d s12 dp ox fn => ?_⟩
          walk_at "el"
          refine .inl ⟨v, d, rfl, dp, gd_showable _ fn.good, by have := fn.depth; omega, fn.len, ?_⟩
          walk_at "el"
          refine ⟨.str z, rfl, .str _, fun z' h => by cases h; exact ⟨zl, zk⟩, fun H13 v' d' s13 dp' ox' fn' => ?_⟩
          walk_at "el"
          refine .inl ⟨v', d', rfl, dp', gd_showable _ fn'.good, by have := fn'.depth; omega, fn'.len, ?_⟩
          walk_at "el"
          rw [out_uniq ox ox', decide_eq_true rfl]
          walk_at "el"
          exact ⟨hb11.same (s12.trans s13), _, _, _, _, rfl⟩
      · rintro σ H10 ⟨hb10, v2, v6, v7, v8, rfl⟩
        walk_at "el"
        exact ⟨hb10, _, _, _, _, _, _, _, fun _ => ⟨tx, rfl⟩, rfl⟩
    · rintro σ H2 ⟨hb2, v2, v3, v4, v5, v6, v7, v8, h5, rfl⟩
      obtain ⟨tx, rfl⟩ := h5 (by decide)
      have hd := c_Book.dflt
      walk_at "el"
      refine .inl ?_
      walk_at "el"
      refine ⟨by show 1 ≤ sizeLine; decide, fun q1 hq1 => ?_⟩
      have e1 := nw_of hq1 (.lst [.str tx])
      have g1 := upd_at hq1 (.lst [.str tx])
      generalize upd H2 q1 (.lst [.str tx]) = H3 at e1 g1 ⊢
      walk_at "el"
      refine ⟨by show 2 ≤ sizeLine; decide, fun q2 hq2 => ?_⟩
      have e2 := nw_of hq2 (.tup [.str "events 0", .str "witnesses 0"])
      have g2 := upd_at hq2 (.tup [.str "events 0", .str "witnesses 0"])
      have g12 := e2 _ _ g1
      generalize upd H3 q2 (.tup [.str "events 0", .str "witnesses 0"]) = H4 at e2 g2 g12 ⊢
      walk_at "el"
      refine fun q3 hq3 => ?_
      have e3 := nw_of hq3 (.dK [])
      have g3 := upd_at hq3 (.dK [])
      have g13 := e3 _ _ g12
      have g23 := e3 _ _ g2
      generalize upd H4 q3 (.dK []) = H5 at e3 g3 g13 g23 ⊢
      walk_at "el"
      refine n_bk2 hd (by decide) (by decide) (by decide) (by decide) fun o dx t g s' q H6 s6 ho0 ho _ _ _ _ => ?_
      have g14 := s6 _ _ g13
      have g24 := s6 _ _ g23
      have g34 := s6 _ _ g3
      walk_at "el"
      refine ⟨by show 1 ≤ sizeLine; decide, fun q4 hq4 => ?_⟩
      have e7 := nw_of hq4 (.tup [.str "early"])
      have g4 := upd_at hq4 (.tup [.str "early"])
      have g15 := e7 _ _ g14
      have g25 := e7 _ _ g24
      have g35 := e7 _ _ g34
      have ho2 := e7 _ _ ho
      have s27 := (((e1.trans e2).trans e3).trans s6).trans e7
      generalize upd H6 q4 (.tup [.str "early"]) = H7 at s27 g4 g15 g25 g35 ho2 ⊢
      walk_at "el"
      refine ⟨by show 9 ≤ sizeLine; decide, fun q5 hq5 => ?_⟩
      have e8 := nw_of hq5 (.lst [.non, .int 0, .bl true, .ref q1, .ref q2, .ref q3, .str "", .ref o, .ref q4])
      have g5 := upd_at hq5 (.lst [.non, .int 0, .bl true, .ref q1, .ref q2, .ref q3, .str "", .ref o, .ref q4])
      have hb8 := hb2.same (s27.trans e8)
      have oref : ∀ {p : Addr}, OutX (.ref p) (no9 1) := out_no fun z e => by cases e
      have its : ∀ x ∈ ([.non, .int 0, .bl true, .ref q1, .ref q2, .ref q3, .str "", .ref o, .ref q4] : List V), Th K (upd H7 q5 (.lst [.non, .int 0, .bl true, .ref q1, .ref q2, .ref q3, .str "", .ref o, .ref q4])) x ∧ OutX x (no9 1) ∧ ∀ z, x = .str z → z.length ≤ 7000000 ∧ okS9 z := by
        refine all_cons ⟨.non, (out_no fun z e => (by cases e)), fun z e => (by cases e)⟩ (all_cons ⟨.int _, (out_no fun z e => (by cases e)), fun z e => (by cases e)⟩ (all_cons ⟨.bl _, (out_no fun z e => (by cases e)), fun z e => (by cases e)⟩ (all_cons ⟨.lst (e8 _ _ g15), oref, fun z e => (by cases e)⟩ (all_cons ⟨.tup (e8 _ _ g25), oref, fun z e => (by cases e)⟩
          (all_cons ⟨.dct (e8 _ _ g35), oref, fun z e => (by cases e)⟩ (all_cons ⟨.str _, (out_inr read_empty), fun z e => by cases e; exact ⟨by decide, fun c h => by cases h⟩⟩ (all_cons ⟨.ins (e8 _ _ ho2) B0.own, oref, fun z e => (by cases e)⟩ (all_cons ⟨.tup (e8 _ _ g4), oref, fun z e => (by cases e)⟩ all_nil))))))))
      generalize upd H7 q5 (.lst [.non, .int 0, .bl true, .ref q1, .ref q2, .ref q3, .str "", .ref o, .ref q4]) = H8 at g5 hb8 its ⊢
      refine ⟨q5, rfl, ⟨_, SqL.of g5⟩, ?_⟩
      generalize ([.non, .int 0, .bl true, .ref q1, .ref q2, .ref q3, .str "", .ref o, .ref q4] : List V) = xs9 at g5 its
      clear g4 g15 g25 g35 ho2 s27 e8 hq5 e7 hq4 g14 g24 g34 ho ho0 s6 e3 g3 g13 g23 hq3 e2 g2 g12 hq2 e1 g1 hq1 hb8 hb2
      refine lp_it (walk_list (xs := xs9)) (fun i σ H9 => Same H8 H9 ∧ ∃ v7, σ = [some (.ref a), some (.ref b), v2, v3, v4, some (.str tx), v6, v7, v8]) ⟨Same.refl _, _, rfl⟩ (fun i σ H9 hi h => SqL.of (h.1 _ _ g5)) ?_ ?_
      · rintro i x σ H9 H10 hi ⟨s9, v7, rfl⟩ ⟨rfl, hx⟩
        obtain ⟨th, ox, tx9⟩ := its x (List.mem_of_getElem? hx)
        walk_at "el"
        refine ⟨x, rfl, th.same s9, tx9, fun H11 v d s11 dp ox' fn => ?_⟩
        have ed := out_uniq ox' ox
        subst ed
        walk_at "el"
        refine ⟨by show 2 ≤ sizeLine; decide, fun p hp => ?_⟩
        have e12 := nw_of hp (.tup [.str "NoText", .int 1])
        refine n_neD (dp_same e12 _ _ dp) (.tup (SqT.of upd_same) (.cons (.str _) (.cons (.int _) .nil))) no9_shp.1 no9_shp.1 ?_
        rw [show PyData.eqv (no9 1) (.tuple [.str "NoText", .int 1]) = true from by decide +kernel]
        walk_at "el"
        exact ⟨(s9.trans s11).trans e12, _, rfl⟩
      · rintro σ H9 ⟨s9, v7, rfl⟩
        walk_at "el"
        refine ⟨"9", 5000, rfl, rfl, by decide, by decide, by decide +kernel, by decide +kernel, fun u lu mu => ?_⟩
        have lu : u.length = 5000 := by rw [lu, show ("9" : Str).length = 1 from by decide +kernel]; decide
        have lz5 : ("events " : Str).length = 7 ∧ ("\nwitnesses 0" : Str).length = 12 := by decide +kernel
        refine ⟨"events ", u, rfl, rfl, by omega, ?_⟩
        walk_at "el"
        refine ⟨_, "\nwitnesses 0", rfl, rfl, by rw [app_len]; omega, ?_⟩
        walk_at "el"
        have tz : ∀ z : Str, V.str ("events " ++ u ++ "\nwitnesses 0") = V.str z → z.length ≤ 7000000 ∧ okS9 z := fun z h => by
          cases h
          exact ⟨by rw [app_len, app_len]; omega, ok9_app (ok9_app (lit9_ok (by decide +kernel)).2 fun y hy => (lit9_ok (z := "9") (by decide +kernel)).2 y (mu y hy)) (lit9_ok (by decide +kernel)).2⟩
        refine ⟨_, rfl, .str _, tz, fun H11 v d s11 dp ox' fn => ?_⟩
        have ed := out_uniq ox' (out_inr (read_nines lu mu))
        subst ed
        walk_at "el"
        refine ⟨by show 2 ≤ sizeLine; decide, fun p hp => ?_⟩
        have e12 := nw_of hp (.tup [.str "NoText", .int 1])
        refine n_neD (dp_same e12 _ _ dp) (.tup (SqT.of upd_same) (.cons (.str _) (.cons (.int _) .nil))) no9_shp.1 no9_shp.1 ?_
        rw [show PyData.eqv (no9 ((1 : Nat) : Int)) (.tuple [.str "NoText", .int 1]) = true from by decide +kernel]
        walk_at "el"
        have tl9 : ∀ {y : Str}, lit9 y = true → ∀ z : Str, V.str y = V.str z → z.length ≤ 7000000 ∧ okS9 z := fun h z e => by
          cases e
          exact ⟨by have := (lit9_ok h).1; omega, (lit9_ok h).2⟩
        refine ⟨_, rfl, .str _, tl9 (by decide +kernel), fun H13 v2' d2 s13 dp2 ox2 fn2 => ?_⟩
        have ed := out_uniq ox2 (out_inr read_one)
        subst ed
        walk_at "el"
        refine ⟨by show 2 ≤ sizeLine; decide, fun p2 hp2 => ?_⟩
        have e14 := nw_of hp2 (.tup [.str "NoText", .int 2])
        refine n_eqD (dp_same e14 _ _ dp2) (.tup (SqT.of upd_same) (.cons (.str _) (.cons (.int _) .nil))) no9_shp.2 no9_shp.2 ?_
        rw [show PyData.eqv (no9 ((2 : Nat) : Int)) (.tuple [.str "NoText", .int 2]) = true from by decide +kernel]
        walk_at "el"
        refine ⟨_, rfl, .str _, tl9 (by decide +kernel), fun H15 v3' d3 s15 dp3 ox3 fn3 => ?_⟩
        have ed := out_uniq ox3 (out_inr read_two)
        subst ed
        walk_at "el"
        refine ⟨by show 2 ≤ sizeLine; decide, fun p3 hp3 => ?_⟩
        have e16 := nw_of hp3 (.tup [.str "NoText", .int 2])
        refine n_eqD (dp_same e16 _ _ dp3) (.tup (SqT.of upd_same) (.cons (.str _) (.cons (.int _) .nil))) no9_shp.2 no9_shp.2 ?_
        rw [show PyData.eqv (no9 ((2 : Nat) : Int)) (.tuple [.str "NoText", .int 2]) = true from by decide +kernel]
        walk_at "el"
        exact k _
end
end EL

/- part M92 -/
namespace EL
open PySem PySem.Spec PyProof.Rows L2
open PySem.W (Frag)
set_option maxHeartbeats 0 in
theorem all_mk {P : Program} {w : World} {K : Frag} {h : Heap} {mg : Str → Option Value} {fa : Addr} (X : K.In h) (G : h.Ns mainGlobals mg) (hfa : mg "law" = some (.ref fa))
    {f_is_integer : Addr} {od_is_integer an_is_integer : Option Addr} {sl_is_integer : Array (Option Value)} {oc_is_integer kV_is_integer dc_is_integer pm_is_integer cd_is_integer ct_is_integer : Value}
    {f_is_number : Addr} {od_is_number an_is_number : Option Addr} {sl_is_number : Array (Option Value)} {oc_is_number kV_is_number dc_is_number pm_is_number cd_is_number ct_is_number : Value}
    {f_is_kind : Addr} {od_is_kind an_is_kind : Option Addr} {sl_is_kind : Array (Option Value)} {oc_is_kind kV_is_kind dc_is_kind pm_is_kind cd_is_kind ct_is_kind : Value}
    {f_is_tuple : Addr} {od_is_tuple an_is_tuple : Option Addr} {sl_is_tuple : Array (Option Value)} {oc_is_tuple kV_is_tuple dc_is_tuple pm_is_tuple cd_is_tuple ct_is_tuple : Value}
    {f_is_below : Addr} {od_is_below an_is_below : Option Addr} {sl_is_below : Array (Option Value)} {oc_is_below kV_is_below dc_is_below pm_is_below cd_is_below ct_is_below : Value}
    {f_is_side : Addr} {od_is_side an_is_side : Option Addr} {sl_is_side : Array (Option Value)} {oc_is_side kV_is_side dc_is_side pm_is_side cd_is_side ct_is_side : Value}
    {f__can_stand : Addr} {od__can_stand an__can_stand : Option Addr} {sl__can_stand : Array (Option Value)} {oc__can_stand kV__can_stand dc__can_stand pm__can_stand cd__can_stand ct__can_stand : Value}
    {f_first_wrong : Addr} {od_first_wrong an_first_wrong : Option Addr} {sl_first_wrong : Array (Option Value)} {oc_first_wrong kV_first_wrong dc_first_wrong pm_first_wrong cd_first_wrong ct_first_wrong : Value}
    {f_is_item : Addr} {od_is_item an_is_item : Option Addr} {sl_is_item : Array (Option Value)} {oc_is_item kV_is_item dc_is_item pm_is_item cd_is_item ct_is_item : Value}
    {f__check_arguments : Addr} {od__check_arguments an__check_arguments : Option Addr} {sl__check_arguments : Array (Option Value)} {oc__check_arguments kV__check_arguments dc__check_arguments pm__check_arguments cd__check_arguments ct__check_arguments : Value}
    {f__check_items : Addr} {od__check_items an__check_items : Option Addr} {sl__check_items : Array (Option Value)} {oc__check_items kV__check_items dc__check_items pm__check_items cd__check_items ct__check_items : Value}
    {f_bag : Addr} {od_bag an_bag : Option Addr} {sl_bag : Array (Option Value)} {oc_bag kV_bag dc_bag pm_bag cd_bag ct_bag : Value}
    {f_take : Addr} {od_take an_take : Option Addr} {sl_take : Array (Option Value)} {oc_take kV_take dc_take pm_take cd_take ct_take : Value}
    {f_one : Addr} {od_one an_one : Option Addr} {sl_one : Array (Option Value)} {oc_one kV_one dc_one pm_one cd_one ct_one : Value}
    {f_number : Addr} {od_number an_number : Option Addr} {sl_number : Array (Option Value)} {oc_number kV_number dc_number pm_number cd_number ct_number : Value}
    {f_kind : Addr} {od_kind an_kind : Option Addr} {sl_kind : Array (Option Value)} {oc_kind kV_kind dc_kind pm_kind cd_kind ct_kind : Value}
    {f_parts : Addr} {od_parts an_parts : Option Addr} {sl_parts : Array (Option Value)} {oc_parts kV_parts dc_parts pm_parts cd_parts ct_parts : Value}
    {f_lines : Addr} {od_lines an_lines : Option Addr} {sl_lines : Array (Option Value)} {oc_lines kV_lines dc_lines pm_lines cd_lines ct_lines : Value}
    {f_parts_of : Addr} {od_parts_of an_parts_of : Option Addr} {sl_parts_of : Array (Option Value)} {oc_parts_of kV_parts_of dc_parts_of pm_parts_of cd_parts_of ct_parts_of : Value}
    {f_line_of : Addr} {od_line_of an_line_of : Option Addr} {sl_line_of : Array (Option Value)} {oc_line_of kV_line_of dc_line_of pm_line_of cd_line_of ct_line_of : Value}
    {f_integer_of : Addr} {od_integer_of an_integer_of : Option Addr} {sl_integer_of : Array (Option Value)} {oc_integer_of kV_integer_of dc_integer_of pm_integer_of cd_integer_of ct_integer_of : Value}
    {f__lines_of : Addr} {od__lines_of an__lines_of : Option Addr} {sl__lines_of : Array (Option Value)} {oc__lines_of kV__lines_of dc__lines_of pm__lines_of cd__lines_of ct__lines_of : Value}
    {f__size_in : Addr} {od__size_in an__size_in : Option Addr} {sl__size_in : Array (Option Value)} {oc__size_in kV__size_in dc__size_in pm__size_in cd__size_in ct__size_in : Value}
    {f__value_of : Addr} {od__value_of an__value_of : Option Addr} {sl__value_of : Array (Option Value)} {oc__value_of kV__value_of dc__value_of pm__value_of cd__value_of ct__value_of : Value}
    {f__item_told : Addr} {od__item_told an__item_told : Option Addr} {sl__item_told : Array (Option Value)} {oc__item_told kV__item_told dc__item_told pm__item_told cd__item_told ct__item_told : Value}
    {f_first_refused : Addr} {od_first_refused an_first_refused : Option Addr} {sl_first_refused : Array (Option Value)} {oc_first_refused kV_first_refused dc_first_refused pm_first_refused cd_first_refused ct_first_refused : Value}
    {f_item_of : Addr} {od_item_of an_item_of : Option Addr} {sl_item_of : Array (Option Value)} {oc_item_of kV_item_of dc_item_of pm_item_of cd_item_of ct_item_of : Value}
    {f_read_book : Addr} {od_read_book an_read_book : Option Addr} {sl_read_book : Array (Option Value)} {oc_read_book kV_read_book dc_read_book pm_read_book cd_read_book ct_read_book : Value}
    {f_integer : Addr} {od_integer an_integer : Option Addr} {sl_integer : Array (Option Value)} {oc_integer kV_integer dc_integer pm_integer cd_integer ct_integer : Value}
    {f_number_of : Addr} {od_number_of an_number_of : Option Addr} {sl_number_of : Array (Option Value)} {oc_number_of kV_number_of dc_number_of pm_number_of cd_number_of ct_number_of : Value}
    {f_index_of : Addr} {od_index_of an_index_of : Option Addr} {sl_index_of : Array (Option Value)} {oc_index_of kV_index_of dc_index_of pm_index_of cd_index_of ct_index_of : Value}
    {f_item : Addr} {od_item an_item : Option Addr} {sl_item : Array (Option Value)} {oc_item kV_item dc_item pm_item cd_item ct_item : Value}
    {f_due : Addr} {od_due an_due : Option Addr} {sl_due : Array (Option Value)} {oc_due kV_due dc_due pm_due cd_due ct_due : Value}
    {f_told : Addr} {od_told an_told : Option Addr} {sl_told : Array (Option Value)} {oc_told kV_told dc_told pm_told cd_told ct_told : Value}
    {f_bent : Addr} {od_bent an_bent : Option Addr} {sl_bent : Array (Option Value)} {oc_bent kV_bent dc_bent pm_bent cd_bent ct_bent : Value}
    {f_law : Addr} {od_law an_law : Option Addr} {sl_law : Array (Option Value)} {oc_law kV_law dc_law pm_law cd_law ct_law : Value}
    {tGN : Tok}
    {tMD : Tok}
    {tMT : Tok}
    {tTD : Tok}
    {aPB : Addr} {esPB : Array DictEntry} {nPB : Nat} {tp0 tp1 tp2 tp3 tp4 tp5 : Tok}
    {aForms aParts : Addr} {esF : Array DictEntry} {nF nP : Nat} {odP : Option Addr} {slP : Array (Option Value)} {p1 p2 p3 p4 : Tok}
    {a_tel : Addr} {n_tel : Nat} {od_tel : Option Addr} {sl_tel : Array (Option Value)} {t_tel0 t_tel1 t_tel2 : Tok}
    {a_gap : Addr} {n_gap : Nat} {od_gap : Option Addr} {sl_gap : Array (Option Value)} {t_gap0 t_gap1 t_gap2 : Tok}
    {a_sur : Addr} {n_sur : Nat} {od_sur : Option Addr} {sl_sur : Array (Option Value)} {t_sur0 t_sur1 t_sur2 : Tok}
    {a_cla : Addr} {n_cla : Nat} {od_cla : Option Addr} {sl_cla : Array (Option Value)} {t_cla0 t_cla1 t_cla2 t_cla3 : Tok}
    {tE tW tI : Tok}
    {C fI aT d1 d2 d3 d4 : Addr} {odI anI odT o1 o2 o3 o4 : Option Addr} {slI slT s1 s2 s3 s4 : Array (Option Value)} {ocI kVI dcI pmI cdI ctI ocT : Value} {nT n1 n2 n3 n4 : Nat}
    {q_events g_events : Addr} {odg_events ang_events : Option Addr} {slg_events : Array (Option Value)} {ocg_events kVg_events dcg_events pmg_events cdg_events ctg_events : Value} {rs_events : List Value}
    {q_witnesses g_witnesses : Addr} {odg_witnesses ang_witnesses : Option Addr} {slg_witnesses : Array (Option Value)} {ocg_witnesses kVg_witnesses dcg_witnesses pmg_witnesses cdg_witnesses ctg_witnesses : Value} {rs_witnesses : List Value}
    {q_tellings g_tellings : Addr} {odg_tellings ang_tellings : Option Addr} {slg_tellings : Array (Option Value)} {ocg_tellings kVg_tellings dcg_tellings pmg_tellings cdg_tellings ctg_tellings : Value} {rs_tellings : List Value}
    {q_gaps g_gaps : Addr} {odg_gaps ang_gaps : Option Addr} {slg_gaps : Array (Option Value)} {ocg_gaps kVg_gaps dcg_gaps pmg_gaps cdg_gaps ctg_gaps : Value} {rs_gaps : List Value}
    {q_sure g_sure : Addr} {odg_sure ang_sure : Option Addr} {slg_sure : Array (Option Value)} {ocg_sure kVg_sure dcg_sure pmg_sure cdg_sure ctg_sure : Value} {rs_sure : List Value}
    {q_clauses g_clauses : Addr} {odg_clauses ang_clauses : Option Addr} {slg_clauses : Array (Option Value)} {ocg_clauses kVg_clauses dcg_clauses pmg_clauses cdg_clauses ctg_clauses : Value} {rs_clauses : List Value}
    {CE : Addr}
    {CNo fNo : Addr} {odNo anNo : Option Addr} {slNo : Array (Option Value)} {ocNo kVNo dcNo pmNo cdNo ctNo : Value} {nmNo qNo : Str} {NNo : Addr} {bsNo bmNo : List Value} {snNo : List Str} {subNo : List Value} {abNo : Bool} {colNo : Option Bool} {ddNo : Option Addr} {k0No k1No k2No k3No k5No : Option Value}
    (a_is_integer : PySem.W.nsIn K mainGlobals "is_integer" = some (some (.ref f_is_integer)))
    (l_is_integer : K.lookup f_is_integer = some ⟨oc_is_integer, od_is_integer, .func (PySem.W.fnOf "is_integer" "is_integer" (defArgs s_is_integer) (defBody s_is_integer) (defScope s_is_integer) .none kV_is_integer dc_is_integer pm_is_integer an_is_integer cd_is_integer ct_is_integer), sl_is_integer⟩)
    (c_is_integer : PySem.W.codeIn K cd_is_integer "is_integer" = true)
    (k_is_integer : PySem.W.keepIn K (.ref f_is_integer) = true)
    (a_is_number : PySem.W.nsIn K mainGlobals "is_number" = some (some (.ref f_is_number)))
    (l_is_number : K.lookup f_is_number = some ⟨oc_is_number, od_is_number, .func (PySem.W.fnOf "is_number" "is_number" (defArgs s_is_number) (defBody s_is_number) (defScope s_is_number) .none kV_is_number dc_is_number pm_is_number an_is_number cd_is_number ct_is_number), sl_is_number⟩)
    (c_is_number : PySem.W.codeIn K cd_is_number "is_number" = true)
    (k_is_number : PySem.W.keepIn K (.ref f_is_number) = true)
    (a_is_kind : PySem.W.nsIn K mainGlobals "is_kind" = some (some (.ref f_is_kind)))
    (l_is_kind : K.lookup f_is_kind = some ⟨oc_is_kind, od_is_kind, .func (PySem.W.fnOf "is_kind" "is_kind" (defArgs s_is_kind) (defBody s_is_kind) (defScope s_is_kind) .none kV_is_kind dc_is_kind pm_is_kind an_is_kind cd_is_kind ct_is_kind), sl_is_kind⟩)
    (c_is_kind : PySem.W.codeIn K cd_is_kind "is_kind" = true)
    (k_is_kind : PySem.W.keepIn K (.ref f_is_kind) = true)
    (a_is_tuple : PySem.W.nsIn K mainGlobals "is_tuple" = some (some (.ref f_is_tuple)))
    (l_is_tuple : K.lookup f_is_tuple = some ⟨oc_is_tuple, od_is_tuple, .func (PySem.W.fnOf "is_tuple" "is_tuple" (defArgs s_is_tuple) (defBody s_is_tuple) (defScope s_is_tuple) .none kV_is_tuple dc_is_tuple pm_is_tuple an_is_tuple cd_is_tuple ct_is_tuple), sl_is_tuple⟩)
    (c_is_tuple : PySem.W.codeIn K cd_is_tuple "is_tuple" = true)
    (k_is_tuple : PySem.W.keepIn K (.ref f_is_tuple) = true)
    (a_is_below : PySem.W.nsIn K mainGlobals "is_below" = some (some (.ref f_is_below)))
    (l_is_below : K.lookup f_is_below = some ⟨oc_is_below, od_is_below, .func (PySem.W.fnOf "is_below" "is_below" (defArgs s_is_below) (defBody s_is_below) (defScope s_is_below) .none kV_is_below dc_is_below pm_is_below an_is_below cd_is_below ct_is_below), sl_is_below⟩)
    (c_is_below : PySem.W.codeIn K cd_is_below "is_below" = true)
    (k_is_below : PySem.W.keepIn K (.ref f_is_below) = true)
    (a_is_side : PySem.W.nsIn K mainGlobals "is_side" = some (some (.ref f_is_side)))
    (l_is_side : K.lookup f_is_side = some ⟨oc_is_side, od_is_side, .func (PySem.W.fnOf "is_side" "is_side" (defArgs s_is_side) (defBody s_is_side) (defScope s_is_side) .none kV_is_side dc_is_side pm_is_side an_is_side cd_is_side ct_is_side), sl_is_side⟩)
    (c_is_side : PySem.W.codeIn K cd_is_side "is_side" = true)
    (k_is_side : PySem.W.keepIn K (.ref f_is_side) = true)
    (a__can_stand : PySem.W.nsIn K mainGlobals "_can_stand" = some (some (.ref f__can_stand)))
    (l__can_stand : K.lookup f__can_stand = some ⟨oc__can_stand, od__can_stand, .func (PySem.W.fnOf "_can_stand" "_can_stand" (defArgs s__can_stand) (defBody s__can_stand) (defScope s__can_stand) .none kV__can_stand dc__can_stand pm__can_stand an__can_stand cd__can_stand ct__can_stand), sl__can_stand⟩)
    (c__can_stand : PySem.W.codeIn K cd__can_stand "_can_stand" = true)
    (k__can_stand : PySem.W.keepIn K (.ref f__can_stand) = true)
    (a_first_wrong : PySem.W.nsIn K mainGlobals "first_wrong" = some (some (.ref f_first_wrong)))
    (l_first_wrong : K.lookup f_first_wrong = some ⟨oc_first_wrong, od_first_wrong, .func (PySem.W.fnOf "first_wrong" "first_wrong" (defArgs s_first_wrong) (defBody s_first_wrong) (defScope s_first_wrong) .none kV_first_wrong dc_first_wrong pm_first_wrong an_first_wrong cd_first_wrong ct_first_wrong), sl_first_wrong⟩)
    (c_first_wrong : PySem.W.codeIn K cd_first_wrong "first_wrong" = true)
    (k_first_wrong : PySem.W.keepIn K (.ref f_first_wrong) = true)
    (a_is_item : PySem.W.nsIn K mainGlobals "is_item" = some (some (.ref f_is_item)))
    (l_is_item : K.lookup f_is_item = some ⟨oc_is_item, od_is_item, .func (PySem.W.fnOf "is_item" "is_item" (defArgs s_is_item) (defBody s_is_item) (defScope s_is_item) .none kV_is_item dc_is_item pm_is_item an_is_item cd_is_item ct_is_item), sl_is_item⟩)
    (c_is_item : PySem.W.codeIn K cd_is_item "is_item" = true)
    (k_is_item : PySem.W.keepIn K (.ref f_is_item) = true)
    (a__check_arguments : PySem.W.nsIn K mainGlobals "_check_arguments" = some (some (.ref f__check_arguments)))
    (l__check_arguments : K.lookup f__check_arguments = some ⟨oc__check_arguments, od__check_arguments, .func (PySem.W.fnOf "_check_arguments" "_check_arguments" (defArgs s__check_arguments) (defBody s__check_arguments) (defScope s__check_arguments) .none kV__check_arguments dc__check_arguments pm__check_arguments an__check_arguments cd__check_arguments ct__check_arguments), sl__check_arguments⟩)
    (c__check_arguments : PySem.W.codeIn K cd__check_arguments "_check_arguments" = true)
    (k__check_arguments : PySem.W.keepIn K (.ref f__check_arguments) = true)
    (a__check_items : PySem.W.nsIn K mainGlobals "_check_items" = some (some (.ref f__check_items)))
    (l__check_items : K.lookup f__check_items = some ⟨oc__check_items, od__check_items, .func (PySem.W.fnOf "_check_items" "_check_items" (defArgs s__check_items) (defBody s__check_items) (defScope s__check_items) .none kV__check_items dc__check_items pm__check_items an__check_items cd__check_items ct__check_items), sl__check_items⟩)
    (c__check_items : PySem.W.codeIn K cd__check_items "_check_items" = true)
    (k__check_items : PySem.W.keepIn K (.ref f__check_items) = true)
    (a_bag : PySem.W.nsIn K mainGlobals "_law_bag" = some (some (.ref f_bag)))
    (l_bag : K.lookup f_bag = some ⟨oc_bag, od_bag, .func (PySem.W.fnOf "_law_bag" "_law_bag" (defArgs s_bag) (defBody s_bag) (defScope s_bag) .none kV_bag dc_bag pm_bag an_bag cd_bag ct_bag), sl_bag⟩)
    (c_bag : PySem.W.codeIn K cd_bag "_law_bag" = true)
    (k_bag : PySem.W.keepIn K (.ref f_bag) = true)
    (a_take : PySem.W.nsIn K mainGlobals "_law_take" = some (some (.ref f_take)))
    (l_take : K.lookup f_take = some ⟨oc_take, od_take, .func (PySem.W.fnOf "_law_take" "_law_take" (defArgs s_take) (defBody s_take) (defScope s_take) .none kV_take dc_take pm_take an_take cd_take ct_take), sl_take⟩)
    (c_take : PySem.W.codeIn K cd_take "_law_take" = true)
    (k_take : PySem.W.keepIn K (.ref f_take) = true)
    (a_one : PySem.W.nsIn K mainGlobals "_law_one" = some (some (.ref f_one)))
    (l_one : K.lookup f_one = some ⟨oc_one, od_one, .func (PySem.W.fnOf "_law_one" "_law_one" (defArgs s_one) (defBody s_one) (defScope s_one) .none kV_one dc_one pm_one an_one cd_one ct_one), sl_one⟩)
    (c_one : PySem.W.codeIn K cd_one "_law_one" = true)
    (k_one : PySem.W.keepIn K (.ref f_one) = true)
    (a_number : PySem.W.nsIn K mainGlobals "_law_number" = some (some (.ref f_number)))
    (l_number : K.lookup f_number = some ⟨oc_number, od_number, .func (PySem.W.fnOf "_law_number" "_law_number" (defArgs s_number) (defBody s_number) (defScope s_number) .none kV_number dc_number pm_number an_number cd_number ct_number), sl_number⟩)
    (c_number : PySem.W.codeIn K cd_number "_law_number" = true)
    (k_number : PySem.W.keepIn K (.ref f_number) = true)
    (a_kind : PySem.W.nsIn K mainGlobals "_law_kind" = some (some (.ref f_kind)))
    (l_kind : K.lookup f_kind = some ⟨oc_kind, od_kind, .func (PySem.W.fnOf "_law_kind" "_law_kind" (defArgs s_kind) (defBody s_kind) (defScope s_kind) .none kV_kind dc_kind pm_kind an_kind cd_kind ct_kind), sl_kind⟩)
    (c_kind : PySem.W.codeIn K cd_kind "_law_kind" = true)
    (k_kind : PySem.W.keepIn K (.ref f_kind) = true)
    (a_parts : PySem.W.nsIn K mainGlobals "_law_parts" = some (some (.ref f_parts)))
    (l_parts : K.lookup f_parts = some ⟨oc_parts, od_parts, .func (PySem.W.fnOf "_law_parts" "_law_parts" (defArgs s_parts) (defBody s_parts) (defScope s_parts) .none kV_parts dc_parts pm_parts an_parts cd_parts ct_parts), sl_parts⟩)
    (c_parts : PySem.W.codeIn K cd_parts "_law_parts" = true)
    (k_parts : PySem.W.keepIn K (.ref f_parts) = true)
    (a_lines : PySem.W.nsIn K mainGlobals "_law_lines" = some (some (.ref f_lines)))
    (l_lines : K.lookup f_lines = some ⟨oc_lines, od_lines, .func (PySem.W.fnOf "_law_lines" "_law_lines" (defArgs s_lines) (defBody s_lines) (defScope s_lines) .none kV_lines dc_lines pm_lines an_lines cd_lines ct_lines), sl_lines⟩)
    (c_lines : PySem.W.codeIn K cd_lines "_law_lines" = true)
    (k_lines : PySem.W.keepIn K (.ref f_lines) = true)
    (a_parts_of : PySem.W.nsIn K mainGlobals "_law_parts_of" = some (some (.ref f_parts_of)))
    (l_parts_of : K.lookup f_parts_of = some ⟨oc_parts_of, od_parts_of, .func (PySem.W.fnOf "_law_parts_of" "_law_parts_of" (defArgs s_parts_of) (defBody s_parts_of) (defScope s_parts_of) .none kV_parts_of dc_parts_of pm_parts_of an_parts_of cd_parts_of ct_parts_of), sl_parts_of⟩)
    (c_parts_of : PySem.W.codeIn K cd_parts_of "_law_parts_of" = true)
    (k_parts_of : PySem.W.keepIn K (.ref f_parts_of) = true)
    (a_line_of : PySem.W.nsIn K mainGlobals "line_of" = some (some (.ref f_line_of)))
    (l_line_of : K.lookup f_line_of = some ⟨oc_line_of, od_line_of, .func (PySem.W.fnOf "line_of" "line_of" (defArgs s_line_of) (defBody s_line_of) (defScope s_line_of) .none kV_line_of dc_line_of pm_line_of an_line_of cd_line_of ct_line_of), sl_line_of⟩)
    (c_line_of : PySem.W.codeIn K cd_line_of "line_of" = true)
    (k_line_of : PySem.W.keepIn K (.ref f_line_of) = true)
    (a_integer_of : PySem.W.nsIn K mainGlobals "integer_of" = some (some (.ref f_integer_of)))
    (l_integer_of : K.lookup f_integer_of = some ⟨oc_integer_of, od_integer_of, .func (PySem.W.fnOf "integer_of" "integer_of" (defArgs s_integer_of) (defBody s_integer_of) (defScope s_integer_of) .none kV_integer_of dc_integer_of pm_integer_of an_integer_of cd_integer_of ct_integer_of), sl_integer_of⟩)
    (c_integer_of : PySem.W.codeIn K cd_integer_of "integer_of" = true)
    (k_integer_of : PySem.W.keepIn K (.ref f_integer_of) = true)
    (a__lines_of : PySem.W.nsIn K mainGlobals "_lines_of" = some (some (.ref f__lines_of)))
    (l__lines_of : K.lookup f__lines_of = some ⟨oc__lines_of, od__lines_of, .func (PySem.W.fnOf "_lines_of" "_lines_of" (defArgs s__lines_of) (defBody s__lines_of) (defScope s__lines_of) .none kV__lines_of dc__lines_of pm__lines_of an__lines_of cd__lines_of ct__lines_of), sl__lines_of⟩)
    (c__lines_of : PySem.W.codeIn K cd__lines_of "_lines_of" = true)
    (k__lines_of : PySem.W.keepIn K (.ref f__lines_of) = true)
    (a__size_in : PySem.W.nsIn K mainGlobals "_size_in" = some (some (.ref f__size_in)))
    (l__size_in : K.lookup f__size_in = some ⟨oc__size_in, od__size_in, .func (PySem.W.fnOf "_size_in" "_size_in" (defArgs s__size_in) (defBody s__size_in) (defScope s__size_in) .none kV__size_in dc__size_in pm__size_in an__size_in cd__size_in ct__size_in), sl__size_in⟩)
    (c__size_in : PySem.W.codeIn K cd__size_in "_size_in" = true)
    (k__size_in : PySem.W.keepIn K (.ref f__size_in) = true)
    (a__value_of : PySem.W.nsIn K mainGlobals "_value_of" = some (some (.ref f__value_of)))
    (l__value_of : K.lookup f__value_of = some ⟨oc__value_of, od__value_of, .func (PySem.W.fnOf "_value_of" "_value_of" (defArgs s__value_of) (defBody s__value_of) (defScope s__value_of) .none kV__value_of dc__value_of pm__value_of an__value_of cd__value_of ct__value_of), sl__value_of⟩)
    (c__value_of : PySem.W.codeIn K cd__value_of "_value_of" = true)
    (k__value_of : PySem.W.keepIn K (.ref f__value_of) = true)
    (a__item_told : PySem.W.nsIn K mainGlobals "_item_told" = some (some (.ref f__item_told)))
    (l__item_told : K.lookup f__item_told = some ⟨oc__item_told, od__item_told, .func (PySem.W.fnOf "_item_told" "_item_told" (defArgs s__item_told) (defBody s__item_told) (defScope s__item_told) .none kV__item_told dc__item_told pm__item_told an__item_told cd__item_told ct__item_told), sl__item_told⟩)
    (c__item_told : PySem.W.codeIn K cd__item_told "_item_told" = true)
    (k__item_told : PySem.W.keepIn K (.ref f__item_told) = true)
    (a_first_refused : PySem.W.nsIn K mainGlobals "first_refused" = some (some (.ref f_first_refused)))
    (l_first_refused : K.lookup f_first_refused = some ⟨oc_first_refused, od_first_refused, .func (PySem.W.fnOf "first_refused" "first_refused" (defArgs s_first_refused) (defBody s_first_refused) (defScope s_first_refused) .none kV_first_refused dc_first_refused pm_first_refused an_first_refused cd_first_refused ct_first_refused), sl_first_refused⟩)
    (c_first_refused : PySem.W.codeIn K cd_first_refused "first_refused" = true)
    (k_first_refused : PySem.W.keepIn K (.ref f_first_refused) = true)
    (a_item_of : PySem.W.nsIn K mainGlobals "item_of" = some (some (.ref f_item_of)))
    (l_item_of : K.lookup f_item_of = some ⟨oc_item_of, od_item_of, .func (PySem.W.fnOf "item_of" "item_of" (defArgs s_item_of) (defBody s_item_of) (defScope s_item_of) .none kV_item_of dc_item_of pm_item_of an_item_of cd_item_of ct_item_of), sl_item_of⟩)
    (c_item_of : PySem.W.codeIn K cd_item_of "item_of" = true)
    (k_item_of : PySem.W.keepIn K (.ref f_item_of) = true)
    (a_read_book : PySem.W.nsIn K mainGlobals "read_book" = some (some (.ref f_read_book)))
    (l_read_book : K.lookup f_read_book = some ⟨oc_read_book, od_read_book, .func (PySem.W.fnOf "read_book" "read_book" (defArgs s_read_book) (defBody s_read_book) (defScope s_read_book) .none kV_read_book dc_read_book pm_read_book an_read_book cd_read_book ct_read_book), sl_read_book⟩)
    (c_read_book : PySem.W.codeIn K cd_read_book "read_book" = true)
    (k_read_book : PySem.W.keepIn K (.ref f_read_book) = true)
    (a_integer : PySem.W.nsIn K mainGlobals "_law_integer" = some (some (.ref f_integer)))
    (l_integer : K.lookup f_integer = some ⟨oc_integer, od_integer, .func (PySem.W.fnOf "_law_integer" "_law_integer" (defArgs s_integer) (defBody s_integer) (defScope s_integer) .none kV_integer dc_integer pm_integer an_integer cd_integer ct_integer), sl_integer⟩)
    (c_integer : PySem.W.codeIn K cd_integer "_law_integer" = true)
    (k_integer : PySem.W.keepIn K (.ref f_integer) = true)
    (a_number_of : PySem.W.nsIn K mainGlobals "_law_number_of" = some (some (.ref f_number_of)))
    (l_number_of : K.lookup f_number_of = some ⟨oc_number_of, od_number_of, .func (PySem.W.fnOf "_law_number_of" "_law_number_of" (defArgs s_number_of) (defBody s_number_of) (defScope s_number_of) .none kV_number_of dc_number_of pm_number_of an_number_of cd_number_of ct_number_of), sl_number_of⟩)
    (c_number_of : PySem.W.codeIn K cd_number_of "_law_number_of" = true)
    (k_number_of : PySem.W.keepIn K (.ref f_number_of) = true)
    (a_index_of : PySem.W.nsIn K mainGlobals "_law_index_of" = some (some (.ref f_index_of)))
    (l_index_of : K.lookup f_index_of = some ⟨oc_index_of, od_index_of, .func (PySem.W.fnOf "_law_index_of" "_law_index_of" (defArgs s_index_of) (defBody s_index_of) (defScope s_index_of) .none kV_index_of dc_index_of pm_index_of an_index_of cd_index_of ct_index_of), sl_index_of⟩)
    (c_index_of : PySem.W.codeIn K cd_index_of "_law_index_of" = true)
    (k_index_of : PySem.W.keepIn K (.ref f_index_of) = true)
    (a_item : PySem.W.nsIn K mainGlobals "_law_item" = some (some (.ref f_item)))
    (l_item : K.lookup f_item = some ⟨oc_item, od_item, .func (PySem.W.fnOf "_law_item" "_law_item" (defArgs s_item) (defBody s_item) (defScope s_item) .none kV_item dc_item pm_item an_item cd_item ct_item), sl_item⟩)
    (c_item : PySem.W.codeIn K cd_item "_law_item" = true)
    (k_item : PySem.W.keepIn K (.ref f_item) = true)
    (a_due : PySem.W.nsIn K mainGlobals "_law_due" = some (some (.ref f_due)))
    (l_due : K.lookup f_due = some ⟨oc_due, od_due, .func (PySem.W.fnOf "_law_due" "_law_due" (defArgs s_due) (defBody s_due) (defScope s_due) .none kV_due dc_due pm_due an_due cd_due ct_due), sl_due⟩)
    (c_due : PySem.W.codeIn K cd_due "_law_due" = true)
    (k_due : PySem.W.keepIn K (.ref f_due) = true)
    (a_told : PySem.W.nsIn K mainGlobals "_law_told" = some (some (.ref f_told)))
    (l_told : K.lookup f_told = some ⟨oc_told, od_told, .func (PySem.W.fnOf "_law_told" "_law_told" (defArgs s_told) (defBody s_told) (defScope s_told) .none kV_told dc_told pm_told an_told cd_told ct_told), sl_told⟩)
    (c_told : PySem.W.codeIn K cd_told "_law_told" = true)
    (k_told : PySem.W.keepIn K (.ref f_told) = true)
    (a_bent : PySem.W.nsIn K mainGlobals "_law_bent" = some (some (.ref f_bent)))
    (l_bent : K.lookup f_bent = some ⟨oc_bent, od_bent, .func (PySem.W.fnOf "_law_bent" "_law_bent" (defArgs s_bent) (defBody s_bent) (defScope s_bent) .none kV_bent dc_bent pm_bent an_bent cd_bent ct_bent), sl_bent⟩)
    (c_bent : PySem.W.codeIn K cd_bent "_law_bent" = true)
    (k_bent : PySem.W.keepIn K (.ref f_bent) = true)
    (a_law : PySem.W.nsIn K mainGlobals "law" = some (some (.ref f_law)))
    (l_law : K.lookup f_law = some ⟨oc_law, od_law, .func (PySem.W.fnOf "law" "law" (defArgs s_law) (defBody s_law) (defScope s_law) .none kV_law dc_law pm_law an_law cd_law ct_law), sl_law⟩)
    (c_law : PySem.W.codeIn K cd_law "law" = true)
    (k_law : PySem.W.keepIn K (.ref f_law) = true)
    (z_len : PySem.W.nsIn K mainGlobals "len" = some none)
    (z_isinstance : PySem.W.nsIn K mainGlobals "isinstance" = some none)
    (z_int : PySem.W.nsIn K mainGlobals "int" = some none)
    (z_bool : PySem.W.nsIn K mainGlobals "bool" = some none)
    (z_str : PySem.W.nsIn K mainGlobals "str" = some none)
    (z_list : PySem.W.nsIn K mainGlobals "list" = some none)
    (z_tuple : PySem.W.nsIn K mainGlobals "tuple" = some none)
    (z_range : PySem.W.nsIn K mainGlobals "range" = some none)
    (z_enumerate : PySem.W.nsIn K mainGlobals "enumerate" = some none)
    (z_zip : PySem.W.nsIn K mainGlobals "zip" = some none)
    (z_abs : PySem.W.nsIn K mainGlobals "abs" = some none)
    (z_repr : PySem.W.nsIn K mainGlobals "repr" = some none)
    (z_min : PySem.W.nsIn K mainGlobals "min" = some none)
    (z_max : PySem.W.nsIn K mainGlobals "max" = some none)
    (z_sum : PySem.W.nsIn K mainGlobals "sum" = some none)
    (z_all : PySem.W.nsIn K mainGlobals "all" = some none)
    (gGN : PySem.W.nsIn K mainGlobals "GREATEST_NUMBER" = some (some (.int 1000000000000000 tGN)))
    (gMD : PySem.W.nsIn K mainGlobals "MOST_DIGITS" = some (some (.int 40 tMD)))
    (gMT : PySem.W.nsIn K mainGlobals "MOST_TOLD" = some (some (.int 20 tMT)))
    (gTD : PySem.W.nsIn K mainGlobals "GREATEST_TOLD" = some (some (.int 1000000000000 tTD)))
    (gPB : PySem.W.nsIn K mainGlobals "PART_BY_WORD" = some (some (.ref aPB)))
    (lPB : K.lookup aPB = some { cls := .type "dict", data := .dict esPB nPB })
    (kPB : PySem.W.KeysLit w.params esPB.toList)
    (zPB : (aPB == sysModules) = false)
    (np0 : PySem.W.nsIn K aPB "tell" = some (some (.str "tellings" tp0)))
    (np1 : PySem.W.nsIn K aPB "gap" = some (some (.str "gaps" tp1)))
    (np2 : PySem.W.nsIn K aPB "least" = some (some (.str "sure" tp2)))
    (np3 : PySem.W.nsIn K aPB "most" = some (some (.str "sure" tp3)))
    (np4 : PySem.W.nsIn K aPB "known" = some (some (.str "clauses" tp4)))
    (np5 : PySem.W.nsIn K aPB "clause" = some (some (.str "clauses" tp5)))
    (yPB : KeyIn ["tell", "gap", "least", "most", "known", "clause"] esPB.toList)
    (gForms : PySem.W.nsIn K mainGlobals "FORMS" = some (some (.ref aForms)))
    (lForms : K.lookup aForms = some { cls := .type "dict", data := .dict esF nF })
    (kForms : PySem.W.KeysLit w.params esF.toList)
    (ntel : PySem.W.nsIn K aForms "tellings" = some (some (.ref a_tel)))
    (ltel : K.lookup a_tel = some ⟨.type "tuple", od_tel, .seq #[.str "witness" t_tel0, .str "event" t_tel1, .str "number" t_tel2] n_tel, sl_tel⟩)
    (ngap : PySem.W.nsIn K aForms "gaps" = some (some (.ref a_gap)))
    (lgap : K.lookup a_gap = some ⟨.type "tuple", od_gap, .seq #[.str "event" t_gap0, .str "another event" t_gap1, .str "number" t_gap2] n_gap, sl_gap⟩)
    (nsur : PySem.W.nsIn K aForms "sure" = some (some (.ref a_sur)))
    (lsur : K.lookup a_sur = some ⟨.type "tuple", od_sur, .seq #[.str "event" t_sur0, .str "side" t_sur1, .str "number" t_sur2] n_sur, sl_sur⟩)
    (ncla : PySem.W.nsIn K aForms "clauses" = some (some (.ref a_cla)))
    (lcla : K.lookup a_cla = some ⟨.type "tuple", od_cla, .seq #[.str "witness" t_cla0, .str "kind" t_cla1, .str "witness" t_cla2, .str "kind" t_cla3] n_cla, sl_cla⟩)
    (gParts : PySem.W.nsIn K mainGlobals "PARTS" = some (some (.ref aParts)))
    (lParts : K.lookup aParts = some ⟨.type "tuple", odP, .seq #[.str "tellings" p1, .str "gaps" p2, .str "sure" p3, .str "clauses" p4] nP, slP⟩)
    (dPa : odP = none)
    (gtE : PySem.W.nsIn K mainGlobals "MOST_EVENTS" = some (some (.int 8 tE)))
    (gtW : PySem.W.nsIn K mainGlobals "MOST_WITNESSES" = some (some (.int 8 tW)))
    (gtI : PySem.W.nsIn K mainGlobals "MOST_ITEMS" = some (some (.int 24 tI)))
    (aC : PySem.W.nsIn K mainGlobals "Book" = some (some (.ref C)))
    (iC : PySem.W.findIn K (.ref C) "__init__" = some (some (.ref fI)))
    (fI_ : PySem.W.isFn K (.ref fI) = true)
    (lI : K.lookup fI = some ⟨ocI, odI, .func (PySem.W.fnOf "__init__" "Book.__init__" (defArgs s_Book_init) (defBody s_Book_init) (defScope s_Book_init) (.ref aT) kVI dcI pmI anI cdI ctI), slI⟩)
    (cI : PySem.W.codeIn K cdI "Book.__init__" = true)
    (kI : PySem.W.keepIn K (.ref fI) = true)
    (lT : K.lookup aT = some ⟨ocT, odT, .seq [.ref d1, .ref d2, .ref d3, .ref d4].toArray nT, slT⟩)
    (ld1 : K.lookup d1 = some ⟨.type "tuple", o1, .seq #[] n1, s1⟩)
    (ld2 : K.lookup d2 = some ⟨.type "tuple", o2, .seq #[] n2, s2⟩)
    (ld3 : K.lookup d3 = some ⟨.type "tuple", o3, .seq #[] n3, s3⟩)
    (ld4 : K.lookup d4 = some ⟨.type "tuple", o4, .seq #[] n4, s4⟩)
    (pg : PySem.W.plainGet K C Str.empty = true)
    (hd : PySem.W.hasDictIn K C = true)
    (po : PySem.W.plainOver K C = true)
    (sa : PySem.W.findIn K (.ref C) "__setattr__" = some (some (.builtin "object.__setattr__")))
    (mkC : PySem.W.makesIn K C = true)
    (kC : PySem.W.keepIn K (.ref C) = true)
    (nf0 : PySem.W.findIn K (.ref C) "_events" = some none)
    (nf1 : PySem.W.findIn K (.ref C) "_witnesses" = some none)
    (nf2 : PySem.W.findIn K (.ref C) "_tellings" = some none)
    (nf3 : PySem.W.findIn K (.ref C) "_gaps" = some none)
    (nf4 : PySem.W.findIn K (.ref C) "_sure" = some none)
    (nf5 : PySem.W.findIn K (.ref C) "_clauses" = some none)
    (oc1 : PySem.W.findIn K (.ref C) "__class__" = some (some (.builtin "object.__class__")))
    (oc2 : PySem.W.specialIn K (.builtin "object.__class__") "__get__" = some (some (.builtin "getset_descriptor.__get__")))
    (oc3 : PySem.W.takesIn K (.builtin "object.__class__") = some true)
    (oc4 : PySem.W.mroIn K C (.type "object") = some true)
    (kt0 : PySem.W.mroIn K C (.type "int") = some false)
    (kt1 : PySem.W.mroIn K C (.type "bool") = some false)
    (kt2 : PySem.W.mroIn K C (.type "str") = some false)
    (kt3 : PySem.W.mroIn K C (.type "tuple") = some false)
    (kt4 : PySem.W.mroIn K C (.type "list") = some false)
    (u1_events : PySem.W.findIn K (.ref C) "events" = some (some (.ref q_events)))
    (u2_events : PySem.W.specialIn K (.ref q_events) "__get__" = some (some (.builtin "property.__get__")))
    (u3_events : PySem.W.takesIn K (.ref q_events) = some true)
    (u4_events : PySem.W.recIn K q_events "property" = some (.ref g_events :: rs_events))
    (u5_events : K.lookup g_events = some ⟨ocg_events, odg_events, .func (PySem.W.fnOf "events" "Book.events" (defArgs s_Book_events) (defBody s_Book_events) (defScope s_Book_events) .none kVg_events dcg_events pmg_events ang_events cdg_events ctg_events), slg_events⟩)
    (u6_events : PySem.W.codeIn K cdg_events "Book.events" = true)
    (u7_events : PySem.W.keepIn K (.ref g_events) = true)
    (u1_witnesses : PySem.W.findIn K (.ref C) "witnesses" = some (some (.ref q_witnesses)))
    (u2_witnesses : PySem.W.specialIn K (.ref q_witnesses) "__get__" = some (some (.builtin "property.__get__")))
    (u3_witnesses : PySem.W.takesIn K (.ref q_witnesses) = some true)
    (u4_witnesses : PySem.W.recIn K q_witnesses "property" = some (.ref g_witnesses :: rs_witnesses))
    (u5_witnesses : K.lookup g_witnesses = some ⟨ocg_witnesses, odg_witnesses, .func (PySem.W.fnOf "witnesses" "Book.witnesses" (defArgs s_Book_witnesses) (defBody s_Book_witnesses) (defScope s_Book_witnesses) .none kVg_witnesses dcg_witnesses pmg_witnesses ang_witnesses cdg_witnesses ctg_witnesses), slg_witnesses⟩)
    (u6_witnesses : PySem.W.codeIn K cdg_witnesses "Book.witnesses" = true)
    (u7_witnesses : PySem.W.keepIn K (.ref g_witnesses) = true)
    (u1_tellings : PySem.W.findIn K (.ref C) "tellings" = some (some (.ref q_tellings)))
    (u2_tellings : PySem.W.specialIn K (.ref q_tellings) "__get__" = some (some (.builtin "property.__get__")))
    (u3_tellings : PySem.W.takesIn K (.ref q_tellings) = some true)
    (u4_tellings : PySem.W.recIn K q_tellings "property" = some (.ref g_tellings :: rs_tellings))
    (u5_tellings : K.lookup g_tellings = some ⟨ocg_tellings, odg_tellings, .func (PySem.W.fnOf "tellings" "Book.tellings" (defArgs s_Book_tellings) (defBody s_Book_tellings) (defScope s_Book_tellings) .none kVg_tellings dcg_tellings pmg_tellings ang_tellings cdg_tellings ctg_tellings), slg_tellings⟩)
    (u6_tellings : PySem.W.codeIn K cdg_tellings "Book.tellings" = true)
    (u7_tellings : PySem.W.keepIn K (.ref g_tellings) = true)
    (u1_gaps : PySem.W.findIn K (.ref C) "gaps" = some (some (.ref q_gaps)))
    (u2_gaps : PySem.W.specialIn K (.ref q_gaps) "__get__" = some (some (.builtin "property.__get__")))
    (u3_gaps : PySem.W.takesIn K (.ref q_gaps) = some true)
    (u4_gaps : PySem.W.recIn K q_gaps "property" = some (.ref g_gaps :: rs_gaps))
    (u5_gaps : K.lookup g_gaps = some ⟨ocg_gaps, odg_gaps, .func (PySem.W.fnOf "gaps" "Book.gaps" (defArgs s_Book_gaps) (defBody s_Book_gaps) (defScope s_Book_gaps) .none kVg_gaps dcg_gaps pmg_gaps ang_gaps cdg_gaps ctg_gaps), slg_gaps⟩)
    (u6_gaps : PySem.W.codeIn K cdg_gaps "Book.gaps" = true)
    (u7_gaps : PySem.W.keepIn K (.ref g_gaps) = true)
    (u1_sure : PySem.W.findIn K (.ref C) "sure" = some (some (.ref q_sure)))
    (u2_sure : PySem.W.specialIn K (.ref q_sure) "__get__" = some (some (.builtin "property.__get__")))
    (u3_sure : PySem.W.takesIn K (.ref q_sure) = some true)
    (u4_sure : PySem.W.recIn K q_sure "property" = some (.ref g_sure :: rs_sure))
    (u5_sure : K.lookup g_sure = some ⟨ocg_sure, odg_sure, .func (PySem.W.fnOf "sure" "Book.sure" (defArgs s_Book_sure) (defBody s_Book_sure) (defScope s_Book_sure) .none kVg_sure dcg_sure pmg_sure ang_sure cdg_sure ctg_sure), slg_sure⟩)
    (u6_sure : PySem.W.codeIn K cdg_sure "Book.sure" = true)
    (u7_sure : PySem.W.keepIn K (.ref g_sure) = true)
    (u1_clauses : PySem.W.findIn K (.ref C) "clauses" = some (some (.ref q_clauses)))
    (u2_clauses : PySem.W.specialIn K (.ref q_clauses) "__get__" = some (some (.builtin "property.__get__")))
    (u3_clauses : PySem.W.takesIn K (.ref q_clauses) = some true)
    (u4_clauses : PySem.W.recIn K q_clauses "property" = some (.ref g_clauses :: rs_clauses))
    (u5_clauses : K.lookup g_clauses = some ⟨ocg_clauses, odg_clauses, .func (PySem.W.fnOf "clauses" "Book.clauses" (defArgs s_Book_clauses) (defBody s_Book_clauses) (defScope s_Book_clauses) .none kVg_clauses dcg_clauses pmg_clauses ang_clauses cdg_clauses ctg_clauses), slg_clauses⟩)
    (u6_clauses : PySem.W.codeIn K cdg_clauses "Book.clauses" = true)
    (u7_clauses : PySem.W.keepIn K (.ref g_clauses) = true)
    (aE : PySem.W.nsIn K mainGlobals "CaseError" = some (some (.ref CE)))
    (yeE : PySem.W.subIn K (.ref CE) (.type "BaseException") = some true)
    (yiE : PySem.W.isClsIn K CE = true)
    (ytE : PySem.W.typeIn K (.ref CE) = some (.type "type"))
    (aNo : PySem.W.nsIn K mainGlobals "NoText" = some (some (.ref CNo)))
    (iNo : PySem.W.findIn K (.ref CNo) "__init__" = some (some (.ref fNo)))
    (tNo : PySem.W.typeIn K (.ref fNo) = some (.type "function"))
    (lNo : K.lookup fNo = some ⟨ocNo, odNo, .func (PySem.W.fnOf "__init__" "NoText.__init__" (defArgs s_NoText_init) (defBody s_NoText_init) (defScope s_NoText_init) .none kVNo dcNo pmNo anNo cdNo ctNo), slNo⟩)
    (cNo : PySem.W.codeIn K cdNo "NoText.__init__" = true)
    (kNo : PySem.W.keepIn K (.ref fNo) = true)
    (xlNo : K.lookup CNo = some (excClassObj nmNo qNo CNo NNo bsNo bmNo true snNo subNo abNo colNo ddNo k0No k1No k2No k3No k5No "ValueError.__new__"))
    (xvNo : PySem.HandSPX.refsVE bmNo = true)
    (xsNo : PySem.W.findIn K (.ref CNo) "__setattr__" = some (some (.builtin "object.__setattr__")))
    (xeNo : PySem.W.subIn K (.ref CNo) (.type "BaseException") = some true)
    (xtNo : PySem.W.typeIn K (.ref CNo) = some (.type "type"))
    (xkNo : PySem.W.keepIn K (.ref CNo) = true)
    (xgNo : PySem.W.findIn K (.ref CNo) "__getattribute__" = some (some (.builtin "BaseException.__getattribute__")))
    (xaNo : PySem.W.findIn K (.ref CNo) "__getattr__" = some none)
    (xhNo : PySem.W.hasDictIn K CNo = true)
    (xcNo : PySem.W.findIn K (.ref CNo) "__class__" = some (some (.builtin "object.__class__")))
    (xoNo : PySem.W.mroIn K CNo (.type "object") = some true)
    (xiNo : PySem.W.isClsIn K CNo = true)
    (ysNo : PySem.W.subIn K (.ref CNo) (.ref CE) = some true)
    (x0No : PySem.W.findIn K (.ref CNo) "line" = some none)
    (sNN : PySem.W.subIn K (.ref CNo) (.ref CNo) = some true) :
    ∃ fd : FuncData, (∀ (s : Shared) (v : Value), BindsTo s fd ⟨[v], []⟩ [("_law_script", v)]) ∧ ∀ base : Heap, K.In base → base.Ns mainGlobals mg → FnG P w K mg base CX0 12 fa fd ["_law_script"] (spLaw K) := by
  have e := hfa.symm.trans (PySem.W.mg_of X G a_law)
  cases e
  have F_is_integer := fun_mk (st := s_is_integer) l_is_integer c_is_integer k_is_integer
  have b_is_integer := F_is_integer.binds (ps := ["thing"]) fun _ _ _ _ _ _ us hl => match us, hl with | [_], _ => rfl
  have F_is_number := fun_mk (st := s_is_number) l_is_number c_is_number k_is_number
  have b_is_number := F_is_number.binds (ps := ["thing"]) fun _ _ _ _ _ _ us hl => match us, hl with | [_], _ => rfl
  have F_is_kind := fun_mk (st := s_is_kind) l_is_kind c_is_kind k_is_kind
  have b_is_kind := F_is_kind.binds (ps := ["thing"]) fun _ _ _ _ _ _ us hl => match us, hl with | [_], _ => rfl
  have F_is_tuple := fun_mk (st := s_is_tuple) l_is_tuple c_is_tuple k_is_tuple
  have b_is_tuple := F_is_tuple.binds (ps := ["thing", "many"]) fun _ _ _ _ _ _ us hl => match us, hl with | [_, _], _ => rfl
  have F_is_below := fun_mk (st := s_is_below) l_is_below c_is_below k_is_below
  have b_is_below := F_is_below.binds (ps := ["thing", "many"]) fun _ _ _ _ _ _ us hl => match us, hl with | [_, _], _ => rfl
  have F_is_side := fun_mk (st := s_is_side) l_is_side c_is_side k_is_side
  have b_is_side := F_is_side.binds (ps := ["thing"]) fun _ _ _ _ _ _ us hl => match us, hl with | [_], _ => rfl
  have F__can_stand := fun_mk (st := s__can_stand) l__can_stand c__can_stand k__can_stand
  have b__can_stand := F__can_stand.binds (ps := ["word", "values", "place", "events", "witnesses"]) fun _ _ _ _ _ _ us hl => match us, hl with | [_, _, _, _, _], _ => rfl
  have F_first_wrong := fun_mk (st := s_first_wrong) l_first_wrong c_first_wrong k_first_wrong
  have b_first_wrong := F_first_wrong.binds (ps := ["part", "values", "events", "witnesses"]) fun _ _ _ _ _ _ us hl => match us, hl with | [_, _, _, _], _ => rfl
  have F_is_item := fun_mk (st := s_is_item) l_is_item c_is_item k_is_item
  have b_is_item := F_is_item.binds (ps := ["part", "thing", "events", "witnesses"]) fun _ _ _ _ _ _ us hl => match us, hl with | [_, _, _, _], _ => rfl
  have F__check_arguments := fun_mk (st := s__check_arguments) l__check_arguments c__check_arguments k__check_arguments
  have b__check_arguments := F__check_arguments.binds (ps := ["events", "witnesses", "parts"]) fun _ _ _ _ _ _ us hl => match us, hl with | [_, _, _], _ => rfl
  have F__check_items := fun_mk (st := s__check_items) l__check_items c__check_items k__check_items
  have b__check_items := F__check_items.binds (ps := ["place", "part", "items", "events", "witnesses"]) fun _ _ _ _ _ _ us hl => match us, hl with | [_, _, _, _, _], _ => rfl
  have F_bag := fun_mk (st := s_bag) l_bag c_bag k_bag
  have b_bag := F_bag.binds (ps := ["_law_script"]) fun _ _ _ _ _ _ us hl => match us, hl with | [_], _ => rfl
  have F_take := fun_mk (st := s_take) l_take c_take k_take
  have b_take := F_take.binds (ps := ["_law_bag_here", "_law_many"]) fun _ _ _ _ _ _ us hl => match us, hl with | [_, _], _ => rfl
  have F_one := fun_mk (st := s_one) l_one c_one k_one
  have b_one := F_one.binds (ps := ["_law_bag_here", "_law_menu"]) fun _ _ _ _ _ _ us hl => match us, hl with | [_, _], _ => rfl
  have F_number := fun_mk (st := s_number) l_number c_number k_number
  have b_number := F_number.binds (ps := ["_law_bag_here"]) fun _ _ _ _ _ _ us hl => match us, hl with | [_], _ => rfl
  have F_kind := fun_mk (st := s_kind) l_kind c_kind k_kind
  have b_kind := F_kind.binds (ps := ["_law_bag_here"]) fun _ _ _ _ _ _ us hl => match us, hl with | [_], _ => rfl
  have F_parts := fun_mk (st := s_parts) l_parts c_parts k_parts
  have b_parts := F_parts.binds (ps := ["_law_bag_here", "_law_events", "_law_witnesses", "_law_most"]) fun _ _ _ _ _ _ us hl => match us, hl with | [_, _, _, _], _ => rfl
  have F_lines := fun_mk (st := s_lines) l_lines c_lines k_lines
  have b_lines := F_lines.binds (ps := ["_law_events", "_law_witnesses", "_law_parts_here"]) fun _ _ _ _ _ _ us hl => match us, hl with | [_, _, _], _ => rfl
  have F_parts_of := fun_mk (st := s_parts_of) l_parts_of c_parts_of k_parts_of
  have b_parts_of := F_parts_of.binds (ps := ["_law_book_here"]) fun _ _ _ _ _ _ us hl => match us, hl with | [_], _ => rfl
  have F_line_of := fun_mk (st := s_line_of) l_line_of c_line_of k_line_of
  have b_line_of := F_line_of.binds (ps := ["part", "item"]) fun _ _ _ _ _ _ us hl => match us, hl with | [_, _], _ => rfl
  have F_integer_of := fun_mk (st := s_integer_of) l_integer_of c_integer_of k_integer_of
  have b_integer_of := F_integer_of.binds (ps := ["word"]) fun _ _ _ _ _ _ us hl => match us, hl with | [_], _ => rfl
  have F__lines_of := fun_mk (st := s__lines_of) l__lines_of c__lines_of k__lines_of
  have b__lines_of := F__lines_of.binds (ps := ["text"]) fun _ _ _ _ _ _ us hl => match us, hl with | [_], _ => rfl
  have F__size_in := fun_mk (st := s__size_in) l__size_in c__size_in k__size_in
  have b__size_in := F__size_in.binds (ps := ["lines", "at", "word", "most"]) fun _ _ _ _ _ _ us hl => match us, hl with | [_, _, _, _], _ => rfl
  have F__value_of := fun_mk (st := s__value_of) l__value_of c__value_of k__value_of
  have b__value_of := F__value_of.binds (ps := ["word"]) fun _ _ _ _ _ _ us hl => match us, hl with | [_], _ => rfl
  have F__item_told := fun_mk (st := s__item_told) l__item_told c__item_told k__item_told
  have b__item_told := F__item_told.binds (ps := ["word", "values"]) fun _ _ _ _ _ _ us hl => match us, hl with | [_, _], _ => rfl
  have F_first_refused := fun_mk (st := s_first_refused) l_first_refused c_first_refused k_first_refused
  have b_first_refused := F_first_refused.binds (ps := ["part", "item", "events", "witnesses"]) fun _ _ _ _ _ _ us hl => match us, hl with | [_, _, _, _], _ => rfl
  have F_item_of := fun_mk (st := s_item_of) l_item_of c_item_of k_item_of
  have b_item_of := F_item_of.binds (ps := ["line", "events", "witnesses"]) fun _ _ _ _ _ _ us hl => match us, hl with | [_, _, _], _ => rfl
  have F_read_book := fun_mk (st := s_read_book) l_read_book c_read_book k_read_book
  have b_read_book := F_read_book.binds (ps := ["text"]) fun _ _ _ _ _ _ us hl => match us, hl with | [_], _ => rfl
  have F_integer := fun_mk (st := s_integer) l_integer c_integer k_integer
  have b_integer := F_integer.binds (ps := ["_law_word", "_law_digits"]) fun _ _ _ _ _ _ us hl => match us, hl with | [_, _], _ => rfl
  have F_number_of := fun_mk (st := s_number_of) l_number_of c_number_of k_number_of
  have b_number_of := F_number_of.binds (ps := ["_law_word"]) fun _ _ _ _ _ _ us hl => match us, hl with | [_], _ => rfl
  have F_index_of := fun_mk (st := s_index_of) l_index_of c_index_of k_index_of
  have b_index_of := F_index_of.binds (ps := ["_law_word", "_law_many"]) fun _ _ _ _ _ _ us hl => match us, hl with | [_, _], _ => rfl
  have F_item := fun_mk (st := s_item) l_item c_item k_item
  have b_item := F_item.binds (ps := ["_law_words", "_law_events", "_law_witnesses"]) fun _ _ _ _ _ _ us hl => match us, hl with | [_, _, _], _ => rfl
  have F_due := fun_mk (st := s_due) l_due c_due k_due
  have b_due := F_due.binds (ps := ["_law_text"]) fun _ _ _ _ _ _ us hl => match us, hl with | [_], _ => rfl
  have F_told := fun_mk (st := s_told) l_told c_told k_told
  have b_told := F_told.binds (ps := ["_law_text"]) fun _ _ _ _ _ _ us hl => match us, hl with | [_], _ => rfl
  have F_bent := fun_mk (st := s_bent) l_bent c_bent k_bent
  have b_bent := F_bent.binds (ps := ["_law_bag_here", "_law_text"]) fun _ _ _ _ _ _ us hl => match us, hl with | [_, _], _ => rfl
  have F_law := fun_mk (st := s_law) l_law c_law k_law
  have b_law := F_law.binds (ps := ["_law_script"]) fun _ _ _ _ _ _ us hl => match us, hl with | [_], _ => rfl
  have B : Bi mg := ⟨PySem.W.mg_none_of X G z_len, PySem.W.mg_none_of X G z_isinstance, PySem.W.mg_none_of X G z_int, PySem.W.mg_none_of X G z_bool, PySem.W.mg_none_of X G z_str, PySem.W.mg_none_of X G z_list, PySem.W.mg_none_of X G z_tuple, PySem.W.mg_none_of X G z_range, PySem.W.mg_none_of X G z_enumerate, PySem.W.mg_none_of X G z_zip, PySem.W.mg_none_of X G z_abs, PySem.W.mg_none_of X G z_repr, PySem.W.mg_none_of X G z_min, PySem.W.mg_none_of X G z_max, PySem.W.mg_none_of X G z_sum, PySem.W.mg_none_of X G z_all⟩
  have Tl : Tb mg := ⟨B⟩
  have Tw : Wo K mg := ⟨B, ⟨_, PySem.W.mg_of X G gGN, ⟨_, rfl⟩⟩⟩
  have kMD : ∃ u, mg "MOST_DIGITS" = some u ∧ L2.RelV (.int 40) u := ⟨_, PySem.W.mg_of X G gMD, ⟨_, rfl⟩⟩
  have kMT : ∃ u, mg "MOST_TOLD" = some u ∧ L2.RelV (.int 20) u := ⟨_, PySem.W.mg_of X G gMT, ⟨_, rfl⟩⟩
  have kTD : ∃ u, mg "GREATEST_TOLD" = some u ∧ L2.RelV (.int 1000000000000) u := ⟨_, PySem.W.mg_of X G gTD, ⟨_, rfl⟩⟩
  have PB : PbT K w mg aPB esPB nPB := ⟨PySem.W.mg_of X G gPB, ⟨lPB, kPB, zPB⟩, fun z p h => by
    rcases partW_cases h with ⟨rfl, rfl⟩ | ⟨rfl, rfl⟩ | ⟨rfl, rfl⟩ | ⟨rfl, rfl⟩ | ⟨rfl, rfl⟩ | ⟨rfl, rfl⟩
    · exact ⟨_, _, _, lPB, kPB, np0, ⟨_, rfl⟩⟩
    · exact ⟨_, _, _, lPB, kPB, np1, ⟨_, rfl⟩⟩
    · exact ⟨_, _, _, lPB, kPB, np2, ⟨_, rfl⟩⟩
    · exact ⟨_, _, _, lPB, kPB, np3, ⟨_, rfl⟩⟩
    · exact ⟨_, _, _, lPB, kPB, np4, ⟨_, rfl⟩⟩
    · exact ⟨_, _, _, lPB, kPB, np5, ⟨_, rfl⟩⟩⟩
  have pnone : ∀ z, partW z = none → PySem.W.nsIn K aPB z = some none := fun z h => ns_none lPB yPB.all (partW_no h)
  have lP : ∃ o, K.lookup aParts = some o ∧ o.cls = .type "tuple" ∧ o.dict = none := ⟨_, lParts, rfl, dPa⟩
  have Ti : It4 K w mg aForms aParts := ⟨B, PySem.W.mg_of X G gForms, PySem.W.mg_of X G gParts, fun p => match p with
    | .tel => ⟨a_tel, ⟨_, _, _, lForms, kForms, ntel, rfl⟩, fun H => .inr ⟨_, _, _, ltel, rfl, rfl, by show 3 ≤ sizeLine; decide, .cons ⟨_, rfl⟩ (.cons ⟨_, rfl⟩ (.cons ⟨_, rfl⟩ (.nil)))⟩⟩
    | .gap => ⟨a_gap, ⟨_, _, _, lForms, kForms, ngap, rfl⟩, fun H => .inr ⟨_, _, _, lgap, rfl, rfl, by show 3 ≤ sizeLine; decide, .cons ⟨_, rfl⟩ (.cons ⟨_, rfl⟩ (.cons ⟨_, rfl⟩ (.nil)))⟩⟩
    | .sur => ⟨a_sur, ⟨_, _, _, lForms, kForms, nsur, rfl⟩, fun H => .inr ⟨_, _, _, lsur, rfl, rfl, by show 3 ≤ sizeLine; decide, .cons ⟨_, rfl⟩ (.cons ⟨_, rfl⟩ (.cons ⟨_, rfl⟩ (.nil)))⟩⟩
    | .cla => ⟨a_cla, ⟨_, _, _, lForms, kForms, ncla, rfl⟩, fun H => .inr ⟨_, _, _, lcla, rfl, rfl, by show 4 ≤ sizeLine; decide, .cons ⟨_, rfl⟩ (.cons ⟨_, rfl⟩ (.cons ⟨_, rfl⟩ (.cons ⟨_, rfl⟩ (.nil))))⟩⟩,
    fun H => .inr ⟨_, _, _, lParts, rfl, rfl, by show 4 ≤ sizeLine; decide, .cons ⟨_, rfl⟩ (.cons ⟨_, rfl⟩ (.cons ⟨_, rfl⟩ (.cons ⟨_, rfl⟩ .nil)))⟩⟩
  have Tbo : BoT K w mg aForms aParts := { toIt4 := Ti, toBo := ⟨⟨_, PySem.W.mg_of X G gtE, ⟨_, rfl⟩⟩, ⟨_, PySem.W.mg_of X G gtW, ⟨_, rfl⟩⟩, ⟨_, PySem.W.mg_of X G gtI, ⟨_, rfl⟩⟩⟩ }
  have Bk : BkC K C := ⟨⟨⟨pg, hd, po, sa⟩, oc1, oc2, oc3, oc4, own_kit rfl kt0, own_kit rfl kt1, own_kit rfl kt2, own_kit rfl kt3, own_kit rfl kt4⟩, nf0, nf1, nf2, nf3, nf4, nf5⟩
  have F_init : FunD K "__init__" "Book.__init__" (defArgs s_Book_init) (defBody s_Book_init) (defScope s_Book_init) [.ref d1, .ref d2, .ref d3, .ref d4] [] fI _ := ⟨⟨_, _, _, _, _, _, _, _, _, _, rfl, lI, cI, .inr ⟨(fun z => nomatch z), _, _, _, _, rfl, lT, rfl, .cons rfl (.cons rfl (.cons rfl (.cons rfl .nil)))⟩, .inl rfl⟩, kI⟩
  obtain ⟨ds, v2, b2⟩ := F_init.binds1 (ps := psBook) 3 0 (fun z => nomatch z) rfl fun T kV doc pm an cdv ct us its h1 h2 => match us, its, h1, h2 with | [_, _, _], [_, _, _, _], _, _ => ⟨_, rfl, rfl⟩
  obtain ⟨ds4, v4, b4⟩ := F_init.binds1 (ps := psBook) 5 2 (fun z => nomatch z) rfl fun T kV doc pm an cdv ct us its h1 h2 => match us, its, h1, h2 with | [_, _, _, _, _], [_, _, _, _], _, _ => ⟨_, rfl, rfl⟩
  obtain ⟨ds3, v3, b3⟩ := F_init.binds1 (ps := psBook) 4 1 (fun z => nomatch z) rfl fun T kV doc pm an cdv ct us its h1 h2 => match us, its, h1, h2 with | [_, _, _, _], [_, _, _, _], _, _ => ⟨_, rfl, rfl⟩
  obtain ⟨ds0, v0, b0⟩ := F_init.binds1 (ps := psBook) 7 4 (fun z => nomatch z) rfl fun T kV doc pm an cdv ct us its h1 h2 => match us, its, h1, h2 with | [_, _, _, _, _, _, _], [_, _, _, _], _, _ => ⟨_, rfl, rfl⟩
  have e0 : ds0 = [] := by cases v0; rfl
  subst e0
  have F_g_events := fun_mk (st := s_Book_events) u5_events u6_events u7_events
  have b_g_events := F_g_events.binds (ps := ["self"]) fun _ _ _ _ _ _ us hl => match us, hl with | [_], _ => rfl
  have F_g_witnesses := fun_mk (st := s_Book_witnesses) u5_witnesses u6_witnesses u7_witnesses
  have b_g_witnesses := F_g_witnesses.binds (ps := ["self"]) fun _ _ _ _ _ _ us hl => match us, hl with | [_], _ => rfl
  have F_g_tellings := fun_mk (st := s_Book_tellings) u5_tellings u6_tellings u7_tellings
  have b_g_tellings := F_g_tellings.binds (ps := ["self"]) fun _ _ _ _ _ _ us hl => match us, hl with | [_], _ => rfl
  have F_g_gaps := fun_mk (st := s_Book_gaps) u5_gaps u6_gaps u7_gaps
  have b_g_gaps := F_g_gaps.binds (ps := ["self"]) fun _ _ _ _ _ _ us hl => match us, hl with | [_], _ => rfl
  have F_g_sure := fun_mk (st := s_Book_sure) u5_sure u6_sure u7_sure
  have b_g_sure := F_g_sure.binds (ps := ["self"]) fun _ _ _ _ _ _ us hl => match us, hl with | [_], _ => rfl
  have F_g_clauses := fun_mk (st := s_Book_clauses) u5_clauses u6_clauses u7_clauses
  have b_g_clauses := F_g_clauses.binds (ps := ["self"]) fun _ _ _ _ _ _ us hl => match us, hl with | [_], _ => rfl
  have F_No := fun_mk (st := s_NoText_init) lNo cNo kNo
  have b_No := F_No.binds (ps := ["self", "line"]) fun _ _ _ _ _ _ us hl => match us, hl with | [_, _], _ => rfl
  have ONo : OexC K CNo := ⟨⟨_, _, _, _, _, _, _, _, _, _, _, _, _, _, _, xlNo, xvNo⟩, xsNo, xeNo, xtNo, xkNo⟩
  have xmNo := exm_of yeE yiE ytE ysNo
  have XCNo : ExcC K CNo := ⟨xgNo, xaNo, xeNo, xhNo, xcNo, oc2, oc3, xoNo⟩
  have XFNo : XfC K CNo := ⟨xgNo, xaNo, xeNo, xhNo⟩
  have xmS := exm_of xeNo xiNo xtNo sNN
  refine ⟨PySem.W.fnOf "law" "law" (defArgs s_law) (defBody s_law) (defScope s_law) .none kV_law dc_law pm_law an_law cd_law ct_law, fun s v => .of_eq rfl, fun base _ _ => ?_⟩
  have ENo : ErrG P w K mg base "NoText" CNo ["self", "line"] (spErr1 CNo "line") := ⟨⟨_, _, iNo, tNo, ok_NoText F_No ONo x0No, b_No⟩, ONo, PySem.W.mg_of X G aNo⟩
  have p_events : PrpG P w K mg base C "events" "_events" := ⟨⟨_, _, _, ⟨u1_events, u2_events, u3_events, ⟨_, u4_events⟩⟩, ok_get_events F_g_events Bk, b_g_events⟩, Bk.own.cl⟩
  have p_witnesses : PrpG P w K mg base C "witnesses" "_witnesses" := ⟨⟨_, _, _, ⟨u1_witnesses, u2_witnesses, u3_witnesses, ⟨_, u4_witnesses⟩⟩, ok_get_witnesses F_g_witnesses Bk, b_g_witnesses⟩, Bk.own.cl⟩
  have p_tellings : PrpG P w K mg base C "tellings" "_tellings" := ⟨⟨_, _, _, ⟨u1_tellings, u2_tellings, u3_tellings, ⟨_, u4_tellings⟩⟩, ok_get_tellings F_g_tellings Bk, b_g_tellings⟩, Bk.own.cl⟩
  have p_gaps : PrpG P w K mg base C "gaps" "_gaps" := ⟨⟨_, _, _, ⟨u1_gaps, u2_gaps, u3_gaps, ⟨_, u4_gaps⟩⟩, ok_get_gaps F_g_gaps Bk, b_g_gaps⟩, Bk.own.cl⟩
  have p_sure : PrpG P w K mg base C "sure" "_sure" := ⟨⟨_, _, _, ⟨u1_sure, u2_sure, u3_sure, ⟨_, u4_sure⟩⟩, ok_get_sure F_g_sure Bk, b_g_sure⟩, Bk.own.cl⟩
  have p_clauses : PrpG P w K mg base C "clauses" "_clauses" := ⟨⟨_, _, _, ⟨u1_clauses, u2_clauses, u3_clauses, ⟨_, u4_clauses⟩⟩, ok_get_clauses F_g_clauses Bk, b_g_clauses⟩, Bk.own.cl⟩
  have h_is_integer : Cal P w K mg base CX0 1 "is_integer" ["thing"] (spB intB K) := ⟨_, _, PySem.W.mg_of X G a_is_integer, k_is_integer, b_is_integer, ok_is_integer F_is_integer Tw⟩
  have h_is_number : Cal P w K mg base CX0 2 "is_number" ["thing"] (spB numB K) := ⟨_, _, PySem.W.mg_of X G a_is_number, k_is_number, b_is_number, ok_is_number F_is_number Tw h_is_integer⟩
  have h_is_kind : Cal P w K mg base CX0 1 "is_kind" ["thing"] (spB kindB K) := ⟨_, _, PySem.W.mg_of X G a_is_kind, k_is_kind, b_is_kind, ok_is_kind F_is_kind Tw⟩
  have h_is_tuple : Cal P w K mg base CX0 1 "is_tuple" ["thing", "many"] (spTu K) := ⟨_, _, PySem.W.mg_of X G a_is_tuple, k_is_tuple, b_is_tuple, ok_is_tuple F_is_tuple Tw⟩
  have h_is_below : Cal P w K mg base CX0 2 "is_below" ["thing", "many"] (spBelow K) := ⟨_, _, PySem.W.mg_of X G a_is_below, k_is_below, b_is_below, ok_is_below F_is_below h_is_integer⟩
  have h_is_side : Cal P w K mg base CX0 1 "is_side" ["thing"] (spB sideB K) := ⟨_, _, PySem.W.mg_of X G a_is_side, k_is_side, b_is_side, ok_is_side F_is_side Tbo.toIt4⟩
  have h__can_stand : Cal P w K mg base CX0 3 "_can_stand" ["word", "values", "place", "events", "witnesses"] (spCan K) := ⟨_, _, PySem.W.mg_of X G a__can_stand, k__can_stand, b__can_stand, ok_can_stand F__can_stand h_is_below h_is_side h_is_kind h_is_number⟩
  have h_first_wrong : Cal P w K mg base CX0 4 "first_wrong" ["part", "values", "events", "witnesses"] (spFw K) := ⟨_, _, PySem.W.mg_of X G a_first_wrong, k_first_wrong, b_first_wrong, ok_first_wrong F_first_wrong Tbo.toIt4 h__can_stand⟩
  have h_is_item : Cal P w K mg base CX0 5 "is_item" ["part", "thing", "events", "witnesses"] (spItem K) := ⟨_, _, PySem.W.mg_of X G a_is_item, k_is_item, b_is_item, ok_is_item F_is_item Tbo.toIt4 h_is_tuple h_first_wrong⟩
  have h__check_arguments : Cal P w K mg base CX0 3 "_check_arguments" ["events", "witnesses", "parts"] (spCa K) := ⟨_, _, PySem.W.mg_of X G a__check_arguments, k__check_arguments, b__check_arguments, ok_check_arguments F__check_arguments Tbo h_is_below⟩
  have h__check_items : Cal P w K mg base CX0 6 "_check_items" ["place", "part", "items", "events", "witnesses"] (spCi K) := ⟨_, _, PySem.W.mg_of X G a__check_items, k__check_items, b__check_items, ok_check_items F__check_items Tbo h_is_item⟩
  have c_Book : BookG P w K mg base C ⟨fI, _, d1, d2, d3, d4, ds, ds4, ds3⟩ := ⟨⟨mkC, iC, fI_, kC⟩, ok_init F_init Tbo Bk h__check_arguments h__check_items, b0, v2, b2, v4, b4, v3, b3, fun H => ⟨.inr ⟨_, _, _, ld1, rfl, rfl, by show 0 ≤ sizeLine; decide, .nil⟩, .inr ⟨_, _, _, ld2, rfl, rfl, by show 0 ≤ sizeLine; decide, .nil⟩, .inr ⟨_, _, _, ld3, rfl, rfl, by show 0 ≤ sizeLine; decide, .nil⟩, .inr ⟨_, _, _, ld4, rfl, rfl, by show 0 ≤ sizeLine; decide, .nil⟩⟩, PySem.W.mg_of X G aC, Bk⟩
  have h_bag : Cal P w K mg base CX0 1 "_law_bag" ["_law_script"] (spBag K) := ⟨_, _, PySem.W.mg_of X G a_bag, k_bag, b_bag, ok_bag F_bag Tl⟩
  have h_take : Cal P w K mg base CX0 1 "_law_take" ["_law_bag_here", "_law_many"] spTake := ⟨_, _, PySem.W.mg_of X G a_take, k_take, b_take, ok_take F_take Tl⟩
  have h_one : Cal P w K mg base CX0 2 "_law_one" ["_law_bag_here", "_law_menu"] (spOne K) := ⟨_, _, PySem.W.mg_of X G a_one, k_one, b_one, ok_one F_one Tl h_take⟩
  have h_number : Cal P w K mg base CX0 2 "_law_number" ["_law_bag_here"] spNum := ⟨_, _, PySem.W.mg_of X G a_number, k_number, b_number, ok_number F_number Tl h_take⟩
  have h_kind : Cal P w K mg base CX0 2 "_law_kind" ["_law_bag_here"] spKnd := ⟨_, _, PySem.W.mg_of X G a_kind, k_kind, b_kind, ok_kind F_kind Tl h_take⟩
  have h_parts : Cal P w K mg base CX0 3 "_law_parts" ["_law_bag_here", "_law_events", "_law_witnesses", "_law_most"] spParts := ⟨_, _, PySem.W.mg_of X G a_parts, k_parts, b_parts, ok_parts F_parts Tl h_take h_number h_kind⟩
  have h_lines : Cal P w K mg base CX0 1 "_law_lines" ["_law_events", "_law_witnesses", "_law_parts_here"] spLines := ⟨_, _, PySem.W.mg_of X G a_lines, k_lines, b_lines, ok_lines F_lines Tl⟩
  have h_parts_of : Cal P w K mg base CX0 3 "_law_parts_of" ["_law_book_here"] (spPo K C) := ⟨_, _, PySem.W.mg_of X G a_parts_of, k_parts_of, b_parts_of, ok_parts_of F_parts_of Tl p_tellings p_gaps p_sure p_clauses⟩
  have h_line_of : Cal P w K mg base CX0 1 "line_of" ["part", "item"] spLine := ⟨_, _, PySem.W.mg_of X G a_line_of, k_line_of, b_line_of, ok_line_of F_line_of Tl⟩
  have h_integer_of : Cal P w K mg base CX0 1 "integer_of" ["word"] spIo := ⟨_, _, PySem.W.mg_of X G a_integer_of, k_integer_of, b_integer_of, ok_integer_of F_integer_of Tl kMD⟩
  have h__lines_of : Cal P w K mg base (L2.CX P w) 3 "_lines_of" ["text"] (spLo K CNo) := ⟨_, _, PySem.W.mg_of X G a__lines_of, k__lines_of, b__lines_of, ok_lines_of F__lines_of Tl ENo⟩
  have h__size_in : Cal P w K mg base (L2.CX P w) 3 "_size_in" ["lines", "at", "word", "most"] (spSz K CNo) := ⟨_, _, PySem.W.mg_of X G a__size_in, k__size_in, b__size_in, ok_size_in F__size_in Tl h_integer_of h_is_below ENo⟩
  have h__value_of : Cal P w K mg base CX0 2 "_value_of" ["word"] spV1 := ⟨_, _, PySem.W.mg_of X G a__value_of, k__value_of, b__value_of, ok_value_of F__value_of Tl h_is_kind h_integer_of⟩
  have h__item_told : Cal P w K mg base CX0 1 "_item_told" ["word", "values"] (spItT K) := ⟨_, _, PySem.W.mg_of X G a__item_told, k__item_told, b__item_told, ok_item_told F__item_told Tl⟩
  have h_first_refused : Cal P w K mg base CX0 5 "first_refused" ["part", "item", "events", "witnesses"] (spFr K) := ⟨_, _, PySem.W.mg_of X G a_first_refused, k_first_refused, b_first_refused, ok_first_refused F_first_refused Tl kTD h_first_wrong⟩
  have h_item_of : Cal P w K mg base CX0 6 "item_of" ["line", "events", "witnesses"] (spIof K aPB) := ⟨_, _, PySem.W.mg_of X G a_item_of, k_item_of, b_item_of, ok_item_of F_item_of Tl PB h_is_item h_first_refused h_line_of h__item_told h__value_of⟩
  have h_read_book : Cal P w K mg base (L2.CX P w) 9 "read_book" ["text"] (spRb K C CNo aPB) := ⟨_, _, PySem.W.mg_of X G a_read_book, k_read_book, b_read_book, ok_read_book F_read_book Tbo lP kMT h__lines_of h__size_in h_item_of c_Book ENo⟩
  have h_integer : Cal P w K mg base CX0 1 "_law_integer" ["_law_word", "_law_digits"] spLiD := ⟨_, _, PySem.W.mg_of X G a_integer, k_integer, b_integer, ok_integerD F_integer Tl⟩
  have h_number_of : Cal P w K mg base CX0 2 "_law_number_of" ["_law_word"] spNo := ⟨_, _, PySem.W.mg_of X G a_number_of, k_number_of, b_number_of, ok_number_of F_number_of Tl h_integer⟩
  have h_index_of : Cal P w K mg base CX0 2 "_law_index_of" ["_law_word", "_law_many"] spIx := ⟨_, _, PySem.W.mg_of X G a_index_of, k_index_of, b_index_of, ok_index_of F_index_of Tl h_integer⟩
  have h_item : Cal P w K mg base CX0 3 "_law_item" ["_law_words", "_law_events", "_law_witnesses"] spLI := ⟨_, _, PySem.W.mg_of X G a_item, k_item, b_item, ok_item92 F_item Tl h_index_of h_number_of⟩
  have h_due : Cal P w K mg base CX0 4 "_law_due" ["_law_text"] (spOut9 K) := ⟨_, _, PySem.W.mg_of X G a_due, k_due, b_due, ok_due92 F_due Tl h_item h_index_of⟩
  have h_told : Cal P w K mg base CX0 10 "_law_told" ["_law_text"] (spOut9 K) := ⟨_, _, PySem.W.mg_of X G a_told, k_told, b_told, ok_told92 F_told Tl pnone h_read_book h_parts_of p_events p_witnesses (PySem.W.mg_of X G aNo) XFNo x0No xmS⟩
  have h_bent : Cal P w K mg base CX0 3 "_law_bent" ["_law_bag_here", "_law_text"] spBent9 := ⟨_, _, PySem.W.mg_of X G a_bent, k_bent, b_bent, ok_bent92 F_bent Tl h_take h_one⟩
  exact ok_law F_law Tl Bk h_bag h_take h_one h_parts h_lines h_told h_due h_bent c_Book
end EL

open PySem PySem.W PyProof.Rows
set_option maxRecDepth 100000 in
set_option maxHeartbeats 0 in
theorem PySem.Challenge.cw_earlyorlate_k92_whole_books_read_holds : PySem.Challenge.rw_earlyorlate_k92_whole_books_read.Holds := by
  w_on; o_law; k_head; (case hw => w_witness2)
  k_fill
  refine EL.walk_all (l := PySem.Challenge.rw_earlyorlate_k92_whole_books_read) (k := 12) rfl rfl ⟨rfl, by decide, by decide⟩ (fun w h Y => PySem.W.kIn_of Y) ?F
  case F =>
    intro w mg fa h KX G hmg
    refine' EL.all_mk KX G hmg ?a_is_integer ?l_is_integer ?c_is_integer ?k_is_integer ?a_is_number ?l_is_number ?c_is_number ?k_is_number ?a_is_kind ?l_is_kind ?c_is_kind ?k_is_kind ?a_is_tuple ?l_is_tuple ?c_is_tuple ?k_is_tuple ?a_is_below ?l_is_below ?c_is_below ?k_is_below ?a_is_side ?l_is_side ?c_is_side ?k_is_side ?a__can_stand ?l__can_stand ?c__can_stand ?k__can_stand ?a_first_wrong ?l_first_wrong ?c_first_wrong ?k_first_wrong ?a_is_item ?l_is_item ?c_is_item ?k_is_item ?a__check_arguments ?l__check_arguments ?c__check_arguments ?k__check_arguments ?a__check_items ?l__check_items ?c__check_items ?k__check_items ?a_bag ?l_bag ?c_bag ?k_bag ?a_take ?l_take ?c_take ?k_take ?a_one ?l_one ?c_one ?k_one ?a_number ?l_number ?c_number ?k_number ?a_kind ?l_kind ?c_kind ?k_kind ?a_parts ?l_parts ?c_parts ?k_parts ?a_lines ?l_lines ?c_lines ?k_lines ?a_parts_of ?l_parts_of ?c_parts_of ?k_parts_of ?a_line_of ?l_line_of ?c_line_of ?k_line_of ?a_integer_of ?l_integer_of ?c_integer_of ?k_integer_of ?a__lines_of ?l__lines_of ?c__lines_of ?k__lines_of ?a__size_in ?l__size_in ?c__size_in ?k__size_in ?a__value_of ?l__value_of ?c__value_of ?k__value_of ?a__item_told ?l__item_told ?c__item_told ?k__item_told ?a_first_refused ?l_first_refused ?c_first_refused ?k_first_refused ?a_item_of ?l_item_of ?c_item_of ?k_item_of ?a_read_book ?l_read_book ?c_read_book ?k_read_book ?a_integer ?l_integer ?c_integer ?k_integer ?a_number_of ?l_number_of ?c_number_of ?k_number_of ?a_index_of ?l_index_of ?c_index_of ?k_index_of ?a_item ?l_item ?c_item ?k_item ?a_due ?l_due ?c_due ?k_due ?a_told ?l_told ?c_told ?k_told ?a_bent ?l_bent ?c_bent ?k_bent ?a_law ?l_law ?c_law ?k_law ?z_len ?z_isinstance ?z_int ?z_bool ?z_str ?z_list ?z_tuple ?z_range ?z_enumerate ?z_zip ?z_abs ?z_repr ?z_min ?z_max ?z_sum ?z_all ?gGN ?gMD ?gMT ?gTD ?gPB ?lPB ?kPB ?zPB ?np0 ?np1 ?np2 ?np3 ?np4 ?np5 ?yPB ?gForms ?lForms ?kForms ?ntel ?ltel ?ngap ?lgap ?nsur ?lsur ?ncla ?lcla ?gParts ?lParts ?dPa ?gtE ?gtW ?gtI ?aC ?iC ?fI_ ?lI ?cI ?kI ?lT ?ld1 ?ld2 ?ld3 ?ld4 ?pg ?hd ?po ?sa ?mkC ?kC ?nf0 ?nf1 ?nf2 ?nf3 ?nf4 ?nf5 ?oc1 ?oc2 ?oc3 ?oc4 ?kt0 ?kt1 ?kt2 ?kt3 ?kt4 ?u1_events ?u2_events ?u3_events ?u4_events ?u5_events ?u6_events ?u7_events ?u1_witnesses ?u2_witnesses ?u3_witnesses ?u4_witnesses ?u5_witnesses ?u6_witnesses ?u7_witnesses ?u1_tellings ?u2_tellings ?u3_tellings ?u4_tellings ?u5_tellings ?u6_tellings ?u7_tellings ?u1_gaps ?u2_gaps ?u3_gaps ?u4_gaps ?u5_gaps ?u6_gaps ?u7_gaps ?u1_sure ?u2_sure ?u3_sure ?u4_sure ?u5_sure ?u6_sure ?u7_sure ?u1_clauses ?u2_clauses ?u3_clauses ?u4_clauses ?u5_clauses ?u6_clauses ?u7_clauses ?aE ?yeE ?yiE ?ytE ?aNo ?iNo ?tNo ?lNo ?cNo ?kNo ?xlNo ?xvNo ?xsNo ?xeNo ?xtNo ?xkNo ?xgNo ?xaNo ?xhNo ?xcNo ?xoNo ?xiNo ?ysNo ?x0No ?sNN
    (case a_is_integer => k_is)
    (case l_is_integer => k_is)
    (case c_is_integer => k_is)
    (case k_is_integer => k_is)
    (case a_is_number => k_is)
    (case l_is_number => k_is)
    (case c_is_number => k_is)
    (case k_is_number => k_is)
    (case a_is_kind => k_is)
    (case l_is_kind => k_is)
    (case c_is_kind => k_is)
    (case k_is_kind => k_is)
    (case a_is_tuple => k_is)
    (case l_is_tuple => k_is)
    (case c_is_tuple => k_is)
    (case k_is_tuple => k_is)
    (case a_is_below => k_is)
    (case l_is_below => k_is)
    (case c_is_below => k_is)
    (case k_is_below => k_is)
    (case a_is_side => k_is)
    (case l_is_side => k_is)
    (case c_is_side => k_is)
    (case k_is_side => k_is)
    (case a__can_stand => k_is)
    (case l__can_stand => k_is)
    (case c__can_stand => k_is)
    (case k__can_stand => k_is)
    (case a_first_wrong => k_is)
    (case l_first_wrong => k_is)
    (case c_first_wrong => k_is)
    (case k_first_wrong => k_is)
    (case a_is_item => k_is)
    (case l_is_item => k_is)
    (case c_is_item => k_is)
    (case k_is_item => k_is)
    (case a__check_arguments => k_is)
    (case l__check_arguments => k_is)
    (case c__check_arguments => k_is)
    (case k__check_arguments => k_is)
    (case a__check_items => k_is)
    (case l__check_items => k_is)
    (case c__check_items => k_is)
    (case k__check_items => k_is)
    (case a_bag => k_is)
    (case l_bag => k_is)
    (case c_bag => k_is)
    (case k_bag => k_is)
    (case a_take => k_is)
    (case l_take => k_is)
    (case c_take => k_is)
    (case k_take => k_is)
    (case a_one => k_is)
    (case l_one => k_is)
    (case c_one => k_is)
    (case k_one => k_is)
    (case a_number => k_is)
    (case l_number => k_is)
    (case c_number => k_is)
    (case k_number => k_is)
    (case a_kind => k_is)
    (case l_kind => k_is)
    (case c_kind => k_is)
    (case k_kind => k_is)
    (case a_parts => k_is)
    (case l_parts => k_is)
    (case c_parts => k_is)
    (case k_parts => k_is)
    (case a_lines => k_is)
    (case l_lines => k_is)
    (case c_lines => k_is)
    (case k_lines => k_is)
    (case a_parts_of => k_is)
    (case l_parts_of => k_is)
    (case c_parts_of => k_is)
    (case k_parts_of => k_is)
    (case a_line_of => k_is)
    (case l_line_of => k_is)
    (case c_line_of => k_is)
    (case k_line_of => k_is)
    (case a_integer_of => k_is)
    (case l_integer_of => k_is)
    (case c_integer_of => k_is)
    (case k_integer_of => k_is)
    (case a__lines_of => k_is)
    (case l__lines_of => k_is)
    (case c__lines_of => k_is)
    (case k__lines_of => k_is)
    (case a__size_in => k_is)
    (case l__size_in => k_is)
    (case c__size_in => k_is)
    (case k__size_in => k_is)
    (case a__value_of => k_is)
    (case l__value_of => k_is)
    (case c__value_of => k_is)
    (case k__value_of => k_is)
    (case a__item_told => k_is)
    (case l__item_told => k_is)
    (case c__item_told => k_is)
    (case k__item_told => k_is)
    (case a_first_refused => k_is)
    (case l_first_refused => k_is)
    (case c_first_refused => k_is)
    (case k_first_refused => k_is)
    (case a_item_of => k_is)
    (case l_item_of => k_is)
    (case c_item_of => k_is)
    (case k_item_of => k_is)
    (case a_read_book => k_is)
    (case l_read_book => k_is)
    (case c_read_book => k_is)
    (case k_read_book => k_is)
    (case a_integer => k_is)
    (case l_integer => k_is)
    (case c_integer => k_is)
    (case k_integer => k_is)
    (case a_number_of => k_is)
    (case l_number_of => k_is)
    (case c_number_of => k_is)
    (case k_number_of => k_is)
    (case a_index_of => k_is)
    (case l_index_of => k_is)
    (case c_index_of => k_is)
    (case k_index_of => k_is)
    (case a_item => k_is)
    (case l_item => k_is)
    (case c_item => k_is)
    (case k_item => k_is)
    (case a_due => k_is)
    (case l_due => k_is)
    (case c_due => k_is)
    (case k_due => k_is)
    (case a_told => k_is)
    (case l_told => k_is)
    (case c_told => k_is)
    (case k_told => k_is)
    (case a_bent => k_is)
    (case l_bent => k_is)
    (case c_bent => k_is)
    (case k_bent => k_is)
    (case a_law => k_is)
    (case l_law => k_is)
    (case c_law => k_is)
    (case k_law => k_is)
    (case z_len => k_is)
    (case z_isinstance => k_is)
    (case z_int => k_is)
    (case z_bool => k_is)
    (case z_str => k_is)
    (case z_list => k_is)
    (case z_tuple => k_is)
    (case z_range => k_is)
    (case z_enumerate => k_is)
    (case z_zip => k_is)
    (case z_abs => k_is)
    (case z_repr => k_is)
    (case z_min => k_is)
    (case z_max => k_is)
    (case z_sum => k_is)
    (case z_all => k_is)
    (case gGN => k_is)
    (case gMD => k_is)
    (case gMT => k_is)
    (case gTD => k_is)
    (case gPB => k_is)
    (case lPB => k_is)
    (case kPB => exact ⟨⟨_, _, rfl, rfl⟩, ⟨_, _, rfl, rfl⟩, ⟨_, _, rfl, rfl⟩, ⟨_, _, rfl, rfl⟩, ⟨_, _, rfl, rfl⟩, ⟨_, _, rfl, rfl⟩, trivial⟩)
    (case zPB => rfl)
    (case np0 => k_is)
    (case np1 => k_is)
    (case np2 => k_is)
    (case np3 => k_is)
    (case np4 => k_is)
    (case np5 => k_is)
    (case yPB => exact ⟨⟨_, rfl⟩, ⟨_, rfl⟩, ⟨_, rfl⟩, ⟨_, rfl⟩, ⟨_, rfl⟩, ⟨_, rfl⟩, trivial⟩)
    (case gForms => k_is)
    (case lForms => k_is)
    (case kForms => exact ⟨⟨_, _, rfl, rfl⟩, ⟨_, _, rfl, rfl⟩, ⟨_, _, rfl, rfl⟩, ⟨_, _, rfl, rfl⟩, trivial⟩)
    (case ntel => k_is)
    (case ltel => k_is)
    (case ngap => k_is)
    (case lgap => k_is)
    (case nsur => k_is)
    (case lsur => k_is)
    (case ncla => k_is)
    (case lcla => k_is)
    (case gParts => k_is)
    (case lParts => k_is)
    (case dPa => rfl)
    (case gtE => k_is)
    (case gtW => k_is)
    (case gtI => k_is)
    (case aC => k_is)
    (case iC => k_is)
    (case fI_ => k_is)
    (case lI => k_is)
    (case cI => k_is)
    (case kI => k_is)
    (case lT => k_is)
    (case ld1 => k_is)
    (case ld2 => k_is)
    (case ld3 => k_is)
    (case ld4 => k_is)
    (case pg => k_is)
    (case hd => k_is)
    (case po => k_is)
    (case sa => k_is)
    (case mkC => k_is)
    (case kC => k_is)
    (case nf0 => k_is)
    (case nf1 => k_is)
    (case nf2 => k_is)
    (case nf3 => k_is)
    (case nf4 => k_is)
    (case nf5 => k_is)
    (case oc1 => k_is)
    (case oc2 => k_is)
    (case oc3 => k_is)
    (case oc4 => k_is)
    (case kt0 => k_is)
    (case kt1 => k_is)
    (case kt2 => k_is)
    (case kt3 => k_is)
    (case kt4 => k_is)
    (case u1_events => k_is)
    (case u2_events => k_is)
    (case u3_events => k_is)
    (case u4_events => k_is)
    (case u5_events => k_is)
    (case u6_events => k_is)
    (case u7_events => k_is)
    (case u1_witnesses => k_is)
    (case u2_witnesses => k_is)
    (case u3_witnesses => k_is)
    (case u4_witnesses => k_is)
    (case u5_witnesses => k_is)
    (case u6_witnesses => k_is)
    (case u7_witnesses => k_is)
    (case u1_tellings => k_is)
    (case u2_tellings => k_is)
    (case u3_tellings => k_is)
    (case u4_tellings => k_is)
    (case u5_tellings => k_is)
    (case u6_tellings => k_is)
    (case u7_tellings => k_is)
    (case u1_gaps => k_is)
    (case u2_gaps => k_is)
    (case u3_gaps => k_is)
    (case u4_gaps => k_is)
    (case u5_gaps => k_is)
    (case u6_gaps => k_is)
    (case u7_gaps => k_is)
    (case u1_sure => k_is)
    (case u2_sure => k_is)
    (case u3_sure => k_is)
    (case u4_sure => k_is)
    (case u5_sure => k_is)
    (case u6_sure => k_is)
    (case u7_sure => k_is)
    (case u1_clauses => k_is)
    (case u2_clauses => k_is)
    (case u3_clauses => k_is)
    (case u4_clauses => k_is)
    (case u5_clauses => k_is)
    (case u6_clauses => k_is)
    (case u7_clauses => k_is)
    (case aE => k_is)
    (case yeE => k_is)
    (case yiE => k_is)
    (case ytE => k_is)
    (case aNo => k_is)
    (case iNo => k_is)
    (case tNo => k_is)
    (case lNo => k_is)
    (case cNo => k_is)
    (case kNo => k_is)
    (case xlNo => k_is)
    (case xvNo => decide)
    (case xsNo => k_is)
    (case xeNo => k_is)
    (case xtNo => k_is)
    (case xkNo => k_is)
    (case xgNo => k_is)
    (case xaNo => k_is)
    (case xhNo => k_is)
    (case xcNo => k_is)
    (case xoNo => k_is)
    (case xiNo => k_is)
    (case ysNo => k_is)
    (case x0No => k_is)
    (case sNN => k_is)
