import PyProof.Rows.All
import Wide.All
import OpenK.AllK
import Wide.FinOn
import HandS.AnyAll
import HandS.GenOver
import HandS.GenBody
import HandS.ForMost
import HandS.Codes
import HandS.IsInst
import HandS.FStr
import HandS.DictTup
import HandS.TupAny
import HandS.Deep
import HandS.CallLocal
import HandS.Remove
import KE.DataFind
import HandS.Style
import KE.GoesMore
import PyProof.Draws
import HandS.More
import HandS.DictComp
import HandS.TupSets
import HandS.SetKeys
import PyProof.SetRoads
import HandS.HeadHook3
import PyProof.ReprRoads
import HandS.EndTab
import PyProof.P3In
import PyProof.StrLawsRepr
import HandS.NoneIn
import HandS.List
import KE.KRevSl
import KE.SortData
import KE.KNestM
import HandS.Head2
import HandS.HeadEnd
import HandS.HeadHook4
import HandS.HeadNt
import HandS.HeadWalk
import Wide.Once
import PySem.Challenge.RW_clearline_k08_faults_alone_and_two_at_on
set_option Elab.async false
set_option linter.all false
set_option maxRecDepth 100000
set_option maxHeartbeats 0
namespace GA
open PySem PySem.Spec PyProof.Rows L2 GxR GenW

/-- the context of a generator expression's frame -/
def cxG (X : Cx) (N : List Str) (A : Around) (cenv : Env) (s : Shared) (H : Hp) (ex : List Addr) : Cx where
  prog := X.prog
  w := X.w
  K := X.K
  mg := X.mg
  base := X.base
  A := A
  N := N
  s_0 := s
  H_0 := H
  env := cenv
  outer := X.stack
  stack := cenv :: X.stack
  ex := ex
  calm := true
  fn := fun _ => false
  pn := []
  xe := fun _ _ => False

theorem bareSet {s : Shared} {g : Nat} {x : GenState} (h : AllBare s.gens) (hx : x.bare = true) : AllBare (s.setGen g x).gens := fun y hy => by
  obtain ⟨i, hi, e⟩ := Array.mem_iff_getElem.mp hy
  have hi' : i < s.gens.size := by simpa [Shared.setGen] using hi
  have e2 : (s.gens.setIfInBounds g x)[i]? = some y := by
    have q : (s.setGen g x).gens[i]? = some y := by rw [Array.getElem?_eq_getElem hi, e]
    exact q
  rw [Array.getElem?_setIfInBounds] at e2
  split at e2
  · split at e2
    · cases e2; exact hx
    · cases e2
  · exact h y (Array.mem_of_getElem? e2)

theorem Inv.sim {X : Cx} {pins : List (Addr × Obj)} {σ : L2.St} {H : Hp} {s s' : Shared} (I : Inv X pins σ H s) (hh : s'.heap = s.heap) (ho : s'.os = s.os) (hb : AllBare s'.gens) : Inv X pins σ H s' :=
  ⟨I.ok, ho.trans I.os, hb, by rw [hh]; exact I.base, by rw [hh]; exact I.loc, by rw [hh]; exact I.cell, I.free, I.freeC, by rw [hh]; exact I.pin, by rw [hh]; exact I.hok, I.len⟩

/-- the whole of the walk: what is true at turn i (m: the turns that may be left), what each turn does -/
structure Plan (J : It) (g : TG) (te : TE) (W : Nat → Nat → L2.St → Hp → Prop) (Q : Bool → Hp → Prop) : Prop where
  turn : ∀ i m σ H, W i m σ H → (J.stop i H ∧ Q true H) ∨ (J.go i H ∧ 0 < m ∧ ∀ v H', J.yld i H v H' → g v σ H' fun σ2 H2 => te σ2 H2 fun r H3 => ∃ b, r = .bl b ∧ if b = true then ∃ m', m' < m ∧ W (i + 1) m' σ2 H3 else Q false H3)

/-- the run at rest: between two turns -/
def Rest (Xg : Cx) (a : Addr) (go : Obj) (fp : List Addr) (tn : Nat → Heap → Prop) (W : Nat → Nat → L2.St → Hp → Prop) (i m : Nat) (s : Shared) : Prop :=
  ∃ σ H, Inv Xg [(a, go)] σ H s ∧ tn i s.heap ∧ (∀ b ∈ fp, FpOk Xg [(a, go)] H b) ∧ W i m σ H
def Ended (Xg : Cx) (a : Addr) (go : Obj) (Q : Bool → Hp → Prop) (k : Bool) (s : Shared) : Prop :=
  ∃ σ H, Inv Xg [(a, go)] σ H s ∧ Q k H

def endG (Xg : Cx) (a : Addr) (go : Obj) (Q : Bool → Hp → Prop) : GenEnd := fun _ _ r s => r = .ok .next ∧ Ended Xg a go Q true s
def protoG (Xg : Cx) (a : Addr) (go : Obj) (Q : Bool → Hp → Prop) : Protocol := fun _ _ v s kap =>
  ∃ b, v = .bool b ∧ (∃ σ H, Inv Xg [(a, go)] σ H s) ∧ (b = false → Ended Xg a go Q false s) ∧
    (b = true → ∀ s'' : Shared, s''.heap = s.heap → s''.os = s.os → AllBare s''.gens → kap (.send .none) s'')

section
variable {As : Around} {elt tg iter : Expr} {scope : Scope} {pos : Pos} {it a : Addr} {go : Obj} {fp : List Addr} {tn : Nat → Heap → Prop} {J : It} {g : TG} {te : TE} {W : Nat → Nat → L2.St → Hp → Prop} {Q : Bool → Hp → Prop} {Xg : Cx}

abbrev gexp (elt tg iter : Expr) (scope : Scope) (pos : Pos) : Expr := .GeneratorExp elt [⟨tg, iter, [], 0⟩] scope pos
abbrev loopC (elt tg iter : Expr) (scope : Scope) (pos : Pos) (it : Addr) (env : Env) : Code := .compLoop (gexp elt tg iter scope pos) 0 (.ref it) .none env

theorem seg_turn (hXA : Xg.A = As.over (loopC elt tg iter scope pos it Xg.env) []) (hcalm : Xg.calm = true) (hpn : Xg.pn = [])
    (hco : Xg.env.scope.isCoroutine = false)
    (T : Turn Xg.prog Xg.w Xg.K tg J fp it tn) (hg : PG Xg tg g) (he : PE Xg elt te) (hP : Plan J g te W Q) (hxe : Xg.xe = fun _ _ => False)
    (n : Nat) (ih : ∀ n', n = n' + 1 → ∀ (m i : Nat) (s₀ s : Shared), m ≤ n' → Rest Xg a go fp tn W i m s →
      Seg (model Xg.prog Xg.w) As (endG Xg a go Q) (protoG Xg a go Q) n' s₀ (loopC elt tg iter scope pos it Xg.env) ((model Xg.prog Xg.w).den (loopC elt tg iter scope pos it Xg.env)) [] s) :
    ∀ (m i : Nat) (s₀ s : Shared), m ≤ n → Rest Xg a go fp tn W i m s →
      Seg (model Xg.prog Xg.w) As (endG Xg a go Q) (protoG Xg a go Q) n s₀ (loopC elt tg iter scope pos it Xg.env) ((model Xg.prog Xg.w).den (loopC elt tg iter scope pos it Xg.env)) [] s := by
  intro m i s₀ s hmn hR
  obtain ⟨σ, H, I, st, fpk, w⟩ := hR
  have noX : ∀ {α : Type} {t : Sem α} {Qa : α → Shared → Prop} {E : Value → Shared → Prop} {s : Shared}, wpAny (model Xg.prog Xg.w) Xg.A t Qa Xg.xe s → wpAny (model Xg.prog Xg.w) (As.over (loopC elt tg iter scope pos it Xg.env) []) t Qa E s := fun h => by
    rw [hxe, hXA] at h
    exact wpAny_mono h (fun _ _ z => z) fun _ _ z => z.elim
  show Seg _ As _ _ n s₀ _ ((compTurn (gexp elt tg iter scope pos) 0 (.ref it) .none Xg.env).onRaise (leaving Xg.env)) [] s
  rw [compTurn_gen, Sem.onRaise_eq_wrap]
  refine seg_bind_wrap (wpAny_standAt ?_)
  rcases hP.turn i m σ H w with ⟨stop, q⟩ | ⟨goi, hm, step⟩
  · refine seg_bind_wrap (noX (thn (T.done Xg rfl rfl rfl hcalm i _ s σ H Xg.xe I fpk st stop) fun r s1 ⟨hr, I1⟩ => ?_))
    subst hr
    exact seg_end (.ok .next) ⟨rfl, σ, H, I1, q⟩
  · refine seg_bind_wrap (noX (thn (T.item Xg rfl rfl rfl hcalm i _ s σ H Xg.xe I fpk st goi) fun r s1 ⟨u, hr, h4⟩ => ?_))
    subst hr
    refine seg_bind_wrap (noX (thn h4 fun _ s5 ⟨v, H5, I5, r5, y5, st5, fr5⟩ => ?_))
    have I5' := I5.pinned (fun b hb => ⟨fr5 b hb, (fpk b hb).2⟩) (T.obj _ _ st5)
    refine seg_bind_wrap (noX (thn (hg.run _ s5 σ H5 v u _ I5' r5 (step v H5 y5)) fun _ s6 ⟨σ6, H6, I6, q6⟩ => ?_))
    refine seg_bind_wrap ?_
    simp only [List.forIn_nil]
    refine wpAny_pure ?_
    simp only [if_true]
    have hy : ∀ v, yieldOut Xg.env v = yieldValue v := fun v => by simp only [yieldOut, hco, Bool.false_eq_true, if_false]
    simp only [hy]
    rw [Sem.bind_eq_wrap', Sem.bind_eq_wrap', Sem.wrap_wrap, Sem.wrap_wrap]
    refine seg_wrap (noX (thn (he.run _ s6 σ6 H6 _ I6 q6) fun y s7 ⟨x7, H7, I7, r7, b, e7, q7⟩ => ?_))
    subst e7
    cases r7
    obtain ⟨n', rfl⟩ : ∃ n', n = n' + 1 := ⟨n - 1, by omega⟩
    refine seg_at (seg_yield rfl rfl rfl ⟨b, rfl, ⟨σ6, H7, I7.unpinned⟩, fun hb => ?_, fun hb s'' hh ho hbare => ?_⟩)
    · subst hb
      exact ⟨σ6, H7, I7.unpinned, q7⟩
    · subst hb
      obtain ⟨m', hm', w7⟩ := q7
      refine seg_again rfl (ih n' rfl m' (i + 1) s'' s'' (by omega) ⟨σ6, H7, Inv.sim I7.unpinned hh ho hbare, ?_, fun b hb => ⟨?_, (fpk b hb).2⟩, w7⟩)
      · rw [hh]
        exact T.keep _ _ _ st5 fun b hb o e => (I7.pin (b, o) (List.mem_append_right _ (List.mem_append_right _ (mem_pinsAt hb e)))).1
      · obtain ⟨o, e, d⟩ := T.obj _ _ st5 b hb
        exact (I7.pin (b, o) (List.mem_append_right _ (List.mem_append_right _ (mem_pinsAt hb e)))).2.1

theorem seg_loop (hXA : Xg.A = As.over (loopC elt tg iter scope pos it Xg.env) []) (hcalm : Xg.calm = true) (hpn : Xg.pn = [])
    (hco : Xg.env.scope.isCoroutine = false)
    (T : Turn Xg.prog Xg.w Xg.K tg J fp it tn) (hg : PG Xg tg g) (he : PE Xg elt te) (hP : Plan J g te W Q) (hxe : Xg.xe = fun _ _ => False) :
    ∀ (n m i : Nat) (s₀ s : Shared), m ≤ n → Rest Xg a go fp tn W i m s →
      Seg (model Xg.prog Xg.w) As (endG Xg a go Q) (protoG Xg a go Q) n s₀ (loopC elt tg iter scope pos it Xg.env) ((model Xg.prog Xg.w).den (loopC elt tg iter scope pos it Xg.env)) [] s := by
  intro n
  induction n with
  | zero => exact seg_turn hXA hcalm hpn hco T hg he hP hxe 0 fun n' e => by cases e
  | succ n ih => exact seg_turn hXA hcalm hpn hco T hg he hP hxe (n + 1) fun n' e => by cases e; exact ih

theorem seg_start (hXA : Xg.A = As.over (loopC elt tg iter scope pos it Xg.env) []) (hcalm : Xg.calm = true) (hpn : Xg.pn = [])
    (hco : Xg.env.scope.isCoroutine = false)
    (T : Turn Xg.prog Xg.w Xg.K tg J fp it tn) (hg : PG Xg tg g) (he : PE Xg elt te) (hP : Plan J g te W Q) (hxe : Xg.xe = fun _ _ => False)
    (n m : Nat) (s₀ s : Shared) (hmn : m ≤ n) (hR : Rest Xg a go fp tn W 0 m s) :
      Seg (model Xg.prog Xg.w) As (endG Xg a go Q) (protoG Xg a go Q) n s₀ (.compStart (gexp elt tg iter scope pos) 0 (.ref it) .none Xg.env)
        ((model Xg.prog Xg.w).den (.compStart (gexp elt tg iter scope pos) 0 (.ref it) .none Xg.env)) [] s := by
  have loop := seg_loop hXA hcalm hpn hco T hg he hP hxe n m 0 s₀ s hmn hR
  obtain ⟨σ, H, I, st, fpk, w⟩ := hR
  show Seg _ As _ _ _ s₀ _ ((compStart (gexp elt tg iter scope pos) 0 (.ref it) .none Xg.env).onRaise (leaving Xg.env)) [] s
  unfold compStart
  rw [Sem.onRaise_eq_wrap]
  show Seg _ As _ _ _ s₀ _ ((ask >>= _).wrap _ _ _ _) [] s
  refine seg_bind_wrap (wpAny_askSetting ?_)
  split
  · exact seg_again rfl loop
  · first
      | exact seg_bind_wrap (wpAny_rule (seg_bind_wrap (wpAny_standAt (seg_bind_wrap (T.self _ 0 s _ _ st (seg_again rfl loop))))))
      | (refine seg_bind_wrap (wpAny_rule ?_); show Seg _ As _ _ _ s₀ _ ((standAt iter.pos >>= _).wrap _ _ _ _) [] s; exact seg_bind_wrap (wpAny_standAt (seg_bind_wrap (T.self _ 0 s _ _ st (seg_again rfl loop)))))
end

/-! ### the consumer: all -/
section
variable {A : Around} {E : Value → Shared → Prop}
theorem all_loop {P : Program} {w : World} {Xg : Cx} {a : Addr} {go : Obj} {g : Nat} {Q : Bool → Hp → Prop} {R : Result → Shared → Prop} (hXp : Xg.prog = P) (hXw : Xg.w = w) (hpn : Xg.pn = []) (hh : A.handled = none) (hroom : A.depth < recursionLimit)
    (hgo : ∀ h : Heap, h.get? a = some go → h.IsGen a g)
    (hend : ∀ k s', Ended Xg a go Q k s' → R (.ok (.ret (.bool k))) s') :
    ∀ (n : Nat) (s : Shared), (∃ σ H, Inv Xg [(a, go)] σ H s) →
      (∃ gs, s.gens[g]? = some gs ∧ ∀ s'' : Shared, s''.heap = s.heap → s''.os = s.os → AllBare s''.gens → gs.Goes (model P w) A.in1.in1 (endG Xg a go Q) (protoG Xg a go Q) n (.send .none) s'') →
      codeAny (model P w) A (.builtin "all.loop" ⟨[.ref a], []⟩) R s := by
  subst hXp hXw
  intro n
  have pinA : ∀ {σ : L2.St} {H : Hp} {s : Shared}, Inv Xg [(a, go)] σ H s → s.heap.get? a = some go := fun I => (I.pin (a, go) (List.mem_append_right _ List.mem_cons_self)).1
  have step : ∀ (n : Nat) (s : Shared), (∃ σ H, Inv Xg [(a, go)] σ H s) →
      (∃ gs, s.gens[g]? = some gs ∧ ∀ s'' : Shared, s''.heap = s.heap → s''.os = s.os → AllBare s''.gens → gs.Goes (model Xg.prog Xg.w) A.in1.in1 (endG Xg a go Q) (protoG Xg a go Q) n (.send .none) s'') →
      (∀ n', n = n' + 1 → ∀ s' gs' , (∃ σ H, Inv Xg [(a, go)] σ H s') → s'.gens[g]? = some gs' → (∀ s'' : Shared, s''.heap = s'.heap → s''.os = s'.os → AllBare s''.gens → gs'.Goes (model Xg.prog Xg.w) A.in1.in1 (endG Xg a go Q) (protoG Xg a go Q) n' (.send .none) s'') → codeAny (model Xg.prog Xg.w) A (.builtin "all.loop" ⟨[.ref a], []⟩) R s') →
      codeAny (model Xg.prog Xg.w) A (.builtin "all.loop" ⟨[.ref a], []⟩) R s := by
    intro n s ⟨σ, H, I⟩ ⟨gs, hgs, hgoes⟩ again
    have hgl : g < s.gens.size := (Array.getElem?_eq_some_iff.mp hgs).1
    refine codeAny_builtin F.entry_all_loop ?_
    rw [Around.under_plainId F.plain_all_loop _]
    show wpAny _ A.in1 (pyNext (.ref a) >>= _) _ _ s
    refine wpAny_bind (wpAny_gsz (n := g + 1) hgl (wpAny_pyNext_genexpQ (P := fun _ _ s₁ => Ended Xg a go Q true s₁) (A := A.in1) hh I.nolimit hroom (hgo _ (pinA I)) hgs
      (hgoes (s.setGen g .running) rfl rfl (bareSet I.bare rfl)) (fun v s₁ gs' hb hv => ?_) (fun s₁ hp h' hk => ?_)))
    · intro hsz
      obtain ⟨b, rfl, ⟨σ1, H1, I1⟩, hF, hT⟩ := hv
      refine wpAny_bind (wpAny_holding (wpAny_truthy_bool ?_))
      refine wpAny_bind (wpAny_letGo ?_)
      have hbare : AllBare (s₁.setGen g gs').gens := bareSet I1.bare hb
      cases b with
      | true =>
        simp only [if_true]
        refine wpAny_pure ⟨plainId_quiet F.plain_all_loop _, ?_⟩
        have hk := hT rfl
        cases n with
        | zero => exact False.elim (hk s₁ rfl rfl I1.bare)
        | succ n' =>
          refine again n' rfl (s₁.setGen g gs') gs' ⟨σ1, H1, Inv.sim I1 rfl rfl hbare⟩ ?_ fun s'' e1 e2 e3 => hk s'' e1 e2 e3
          have q : (s₁.setGen g gs').gens.size = s₁.gens.size := by simp [Shared.setGen]
          have h1 : g < s₁.gens.size := by
            have hsz' : g + 1 ≤ (s₁.setGen g gs').gens.size := hsz
            omega
          simp [Shared.setGen, h1]
      | false =>
        simp only [Bool.false_eq_true, if_false]
        obtain ⟨σ2, H2, I2, q2⟩ := hF rfl
        exact wpAny_bind (wpAny_rule (wpAny_pure (hend false _ ⟨σ2, H2, Inv.sim I2 rfl rfl (bareSet I2.bare hb), q2⟩)))
    · intro _
      obtain ⟨σ2, H2, I2, q2⟩ := hp
      refine wpAny_bind (wpAny_rule (wpAny_pure (hend true _ ⟨σ2, H2, ?_, q2⟩)))
      have I3 : Inv Xg [(a, go)] σ2 H2 { s₁ with heap := h', toks := s₁.toks } := I2.kept hk
      exact Inv.sim I3 rfl rfl (bareSet I2.bare rfl)
  induction n with
  | zero => exact fun s hI hg => step 0 s hI hg fun n' e => by cases e
  | succ n ih => exact fun s hI hg => step (n + 1) s hI hg fun n' e s' gs' h1 h2 h3 => by cases e; exact ih s' h1 ⟨gs', h2, h3⟩
end

/-! ### making it -/
structure GenOk (N : List Str) (scX scope : Scope) (ow : List (Str × Nat)) : Prop where
  kind : scope.kind = .function
  co : scope.isCoroutine = false
  cell : ∀ y ∈ scope.names, y.2 ≠ .cell
  dot : scope.names.lookup (".0" : Str) = some NameKind.local
  free : ∀ y ∈ scope.names, y.2 = .free → scX.names.lookup y.1 = some .cell ∨ scX.names.lookup y.1 = some .free
  uniq : ∀ y, (y, NameKind.free) ∈ scope.names → scope.names.lookup y = some .free
  own : ∀ y ∈ scope.names, y.2 = .local → y.1 ∈ ow.map (·.1) ∨ y.1 ∉ N
  ix : ∀ p ∈ ow, N[p.2]? = some p.1

theorem gen_begin {X : Cx} {pins : List (Addr × Obj)} {σ : L2.St} {H : Hp} {s : Shared} {scope : Scope} {own : List (Str × Nat)} {fp : List Addr} {it : Value} {h' : Heap} {A : Around} {a : Addr} {go : Obj}
    {cenv : Env} {gens' : Array GenState} {tk : Nat}
    (I : Inv X pins σ H s) (ok : GenOk X.N X.env.scope scope own) (hN : X.N.Nodup) (hfp : ∀ b ∈ fp, FpOk X pins H b ∧ b < s.heap.objs.size)
    (hc1 : cenv.scope = scope) (hc2 : cenv.locals = s.heap.objs.size) (hc3 : cenv.cells = cloFrom X.env.cells scope.names []) (hc4 : cenv.globals = X.env.globals) (hc5 : cenv.builtins = builtinsNs) (hc6 : cenv.frame = some cenv.locals)
    (hA1 : A.handled = none) (hA2 : A.frames = some (cenv :: X.stack))
    (hn' : h'.Ns s.heap.objs.size (fun y => if y = ".0" then some it else none)) (hs' : Heap.SameBut s.heap.objs.size (s.heap.push { cls := .type "frame", data := .dict #[] }) h')
    (ha : a = h'.objs.size) (hgo : ∀ v, go.data ≠ .cell v) (hfr : Obj.isFreed go = false) (hg : AllBare gens') :
    Inv (cxG X X.N A cenv s H fp) [(a, go)] (wipe σ (own.map (·.2))) H { s with heap := h'.push go, gens := gens', toks := tk } := by
  have hfree : ∀ y ∈ scope.names, y.2 = .free → ∃ c, X.env.cells.lookup y.1 = some c := fun y hy e => by
    rcases ok.free y hy e with k | k
    · exact I.ok.has _ (.inl k)
    · exact I.ok.has _ (.inr k)
  have hsz : h'.objs.size = s.heap.objs.size + 1 := by rw [hs'.1, Heap.size_push]
  have kp : ∀ b o, s.heap.get? b = some o → (h'.push go).get? b = some o := fun b o e =>
    Heap.get?_push_of_some _ (hs'.extBut b o (Nat.ne_of_lt (Heap.lt_size e)) (Heap.get?_push_of_some _ e))
  have cm : ∀ {y c}, (y, c) ∈ cloFrom X.env.cells scope.names [] → X.env.cells.lookup y = some c ∧ c < s.heap.objs.size := fun {y c} hm => by
    rcases cloFrom_mem hm with hm | ⟨h1, rfl⟩
    · cases hm
    · obtain ⟨c, hc⟩ := hfree _ h1 rfl
      rw [hc]
      obtain ⟨w, z⟩ := I.cell _ _ hc
      exact ⟨rfl, z.lt⟩
  have mem : ∀ {y c}, cenv.cells.lookup y = some c → X.env.cells.lookup y = some c ∧ c < s.heap.objs.size := fun {y c} e => by
    rw [hc3] at e
    exact cm (PySem.mem_of_lookup e)
  have look : ∀ {y}, scope.names.lookup y = some .free → ∃ c, cenv.cells.lookup y = some c := fun {y} hl => by
    obtain ⟨c', e'⟩ := mem_lookup (cloFrom_has (cells := X.env.cells) (acc := []) (PySem.mem_of_lookup hl))
    exact ⟨c', by rw [hc3]; exact e'⟩
  have nocell : ∀ y, scope.names.lookup y ≠ some .cell := fun y e => ok.cell _ (PySem.mem_of_lookup e) rfl
  have okB : (cxG X X.N A cenv s H fp).Ok := by
    refine ⟨I.ok.mod, by show cenv.scope.kind = _; rw [hc1]; exact ok.kind, by show cenv.globals = _; rw [hc4]; exact I.ok.glob, hc5, by show s.heap.objs.size ≤ cenv.locals; rw [hc2]; exact Nat.le_refl _,
      fun y z c e1 e2 => I.ok.inj y z c (mem e1).1 (mem e2).1, fun y hy => ?_, fun y c z e => (by cases z), fun _ => hA1, hA2, .inr ⟨rfl, hc6⟩, fun b hb => ⟨?_, fun y c e z => ?_⟩, I.bs, Nat.le_trans I.ok.bsz I.sz, fun b o e hb => ?_, fun b hb z => ?_, I.stack, I.stkFree⟩
    · have hy : scope.names.lookup y = some .cell ∨ scope.names.lookup y = some .free := by
        rcases hy with hy | hy
        · left; have q : cenv.scope.names.lookup y = _ := hy; rw [hc1] at q; exact q
        · right; have q : cenv.scope.names.lookup y = _ := hy; rw [hc1] at q; exact q
      rcases hy with hy | hy
      · exact (nocell y hy).elim
      · exact look hy
    · show b ≠ cenv.locals
      rw [hc2]; exact Nat.ne_of_lt (hfp b hb).2
    · exact (hfp b hb).1.2.2.2.2.1 y c (mem e).1 z
    · rcases (hfp b hb).1.2.2.2.1 with z | z
      · exact I.ok.noex b o e z
      · exact absurd (Nat.lt_of_lt_of_le (Heap.lt_size e) (Nat.le_trans I.ok.bsz z)) (Nat.lt_irrefl _)
    · rcases List.mem_cons.mp (I.stkSub b z) with z | z
      · exact (hfp b hb).1.2.1 z
      · exact (hfp b hb).1.2.2.1 z
  have hHC : H cenv.locals = none := by rw [hc2]; exact I.hok.fresh (Nat.le_refl _)
  refine ⟨okB, rfl, hg, Un.kept kp, ⟨_, by show Heap.Ns _ cenv.locals _; rw [hc2]; exact hn'.push _, fun i y av e1 e2 e3 => ?_⟩, fun y c e => ?_, hHC, fun y c e => I.freeC y c (mem e).1, fun p hp => ?_, I.hok.kept kp, by rw [wipe_length]; exact I.len⟩
  · obtain ⟨e2, hne⟩ := wipe_some e2
    have e3' : scope.names.lookup y = some .local ∨ scope.names.lookup y = some .cell ∨ scope.names.lookup y = some .free := by
      have q : cenv.scope.names.lookup y = some .local ∨ cenv.scope.names.lookup y = some .cell ∨ cenv.scope.names.lookup y = some .free := e3
      rw [hc1] at q; exact q
    rcases e3' with e3 | e3 | e3
    · exfalso
      rcases ok.own _ (PySem.mem_of_lookup e3) rfl with z | z
      · obtain ⟨p, hp, e⟩ := List.mem_map.mp z
        have hi := ok.ix p hp
        rw [e] at hi
        have : i = p.2 := nodup_ix hN e1 hi
        exact hne (List.mem_map.mpr ⟨p, hp, this.symm⟩)
      · exact z (List.mem_of_getElem? e1)
    · exact (nocell y e3).elim
    · have hX := ok.free (y, .free) (PySem.mem_of_lookup e3) rfl
      obtain ⟨m, hn, hl⟩ := I.loc
      have hv : Vis X.env.scope y := .inr hX
      obtain ⟨u, r, l⟩ := hl i y av e1 e2 hv
      obtain ⟨c, hcc⟩ := look e3
      refine ⟨u, r, .inr ⟨.inr (by show cenv.scope.names.lookup y = _; rw [hc1]; exact e3), c, hcc, ?_⟩⟩
      rcases l with ⟨k, _⟩ | ⟨_, c', e', z⟩
      · exfalso
        have k' : X.env.scope.names.lookup y = some .local := k
        rcases hX with q | q <;> (have q' : X.env.scope.names.lookup y = _ := q; rw [k'] at q'; cases q')
      · have : c = c' := by
          have := (mem hcc).1
          rw [e'] at this; cases this; rfl
        subst this
        exact z.keeps kp
  · obtain ⟨v, z⟩ := I.cell y c (mem e).1
    exact ⟨v, z.keeps kp⟩
  · have hp' : p = (a, go) := by simpa [cxG] using hp
    subst hp'
    refine ⟨by rw [ha]; exact Heap.get?_push_size _ hfr, by rw [ha]; exact I.hok.fresh (by omega), ?_, ?_, hgo⟩
    · show a ≠ cenv.locals
      rw [hc2, ha]; exact Nat.ne_of_gt (by omega)
    · intro hb
      have hb' : a ∈ frs X.stack := hb
      rcases List.mem_cons.mp (I.stkSub a hb') with z | z
      · rw [ha] at z
        have := I.lt
        exact Nat.lt_irrefl _ (Nat.lt_of_lt_of_le (z ▸ this) (by omega))
      · exact I.nofs (a := a) (by rw [ha]; omega) z

def tAllG (P : Addr) (own : List (Str × Nat)) (wi : TI) (g : TG) (te : TE) : TE := fun σ H Q => wi σ H fun J H1 => TabG H1 P ∧ ∀ H2, Tabbed P H1 H2 →
  ∃ (W : Nat → Nat → L2.St → Hp → Prop) (m : Nat), W 0 m (wipe σ (own.map (·.2))) H2 ∧ Plan J g te W (fun b H => Q (.bl b) H)

theorem over_hd {A : Around} {c : Code} : (A.over c []).handled = A.handled := rfl
theorem gen_over {A : Around} {elt tg iter : Expr} {scope : Scope} {pos : Pos} {it : Addr} {cenv : Env} {l : List Env} {k : Nat} (hr : Room (k + 1) A) (hf : A.frames = some l) :
    Room k ((A.in1.in1).over (loopC elt tg iter scope pos it cenv) []) ∧ ((A.in1.in1).over (loopC elt tg iter scope pos it cenv) []).frames = some (cenv :: l) := by
  refine ⟨⟨hr.hd, ?_, ?_⟩, ?_⟩
  · have := hr.dp
    show A.depth + 0 + 1 + 3 * k + 5 < recursionLimit
    omega
  · have := hr.un
    show A.units + 1 + 1 + 0 + 3 + 16 * k + 200 < cLine
    omega
  · show pushEnvs [cenv] (pushEnvs [] A.frames) = _
    rw [hf]; rfl

theorem pe_allG {X : Cx} {c P : Addr} {elt tg iter : Expr} {p pos gpos : Pos} {scope : Scope} {own : List (Str × Nat)} {wi : TI} {g : TG} {te : TE} {k : Nat}
    (hr : Room (k + 1) X.A) (hg : Gl X "all") (hm : X.mg "all" = none) (hb : bootBuiltins "all" = some (.builtin "all")) (TB : TabB X.base X.mg c P) (hcode : X.env.code = .ref c)
    (ok : GenOk X.N X.env.scope scope own) (hN : X.N.Nodup) (hi : PI X tg iter wi)
    (hgt : ∀ A cenv s H fp, cenv.scope = scope → PG (cxG X X.N A cenv s H fp) tg g)
    (hel : ∀ A cenv s H fp, cenv.scope = scope → Room k A → PE (cxG X X.N A cenv s H fp) elt te)
    (hs : ∀ v, genFold iter X.env v = pure v)
    (he : starEach [gexp elt tg iter scope gpos] X.env = (false, eval (gexp elt tg iter scope gpos) X.env) :: starEach [] X.env := by rfl) :
    PE X (.Call (.Name "all" p) [gexp elt tg iter scope gpos] [] pos) (tAllG P own wi g te) := by
  refine ⟨fun pins s σ H Q I h => ?_⟩
  have hfree : ∀ y ∈ scope.names, y.2 = .free → ∃ c, X.env.cells.lookup y.1 = some c := fun y hy e => by
    rcases ok.free y hy e with k | k
    · exact I.ok.has _ (.inl k)
    · exact I.ok.has _ (.inr k)
  refine wpAny_Call_Name_kw (ld_blt I hg hm hb ?_)
  refine PyProof.Rows.callWith_builtin1 ?_ he (by rfl)
  rw [he]
  show wpAny _ _ (spliced ((false, eval (gexp elt tg iter scope gpos) X.env) :: backTo pos (starEach [] X.env))) _ _ s
  refine Calls.spliced_cons (wpAny_GeneratorExp_make ok.co (closure_ok hfree) ok.cell ok.dot ok.kind (by have := hr.dp; omega) ?_ hs)
  refine thn (hi.run pins s σ H _ I h) fun v s1 h1 => thn h1 fun itv s2 h2 => ?_
  obtain ⟨it, fp, tn, J, H1, rfl, I2, T, st2, f2, ⟨ps, hP, ht⟩, cont⟩ := h2
  refine ⟨I2.nolimit, ?_⟩
  have hPs : s2.heap.get? P = some { cls := .none, data := .fields ps } := I2.hok P _ hP
  have cd : PySem.W.CodeHd s2.heap c P := TB.code.keeps fun b u e => I2.bk b u e
  have fpP : ∀ b ∈ fp, b ≠ P := fun b hb z => by
    have := (f2 b hb).1
    rw [z, hP] at this; cases this
  have fplt : ∀ b ∈ fp, b < s2.heap.objs.size := fun b hb => by
    obtain ⟨o, e, _⟩ := T.obj 0 _ st2 b hb
    exact Heap.lt_size e
  have main : ∀ (code : Value) (h3 : Heap) (tk : Nat) (ps' : Array Value), Heap.ExtBut P s2.heap h3 → s2.heap.objs.size ≤ h3.objs.size → h3.get? P = some { cls := .none, data := .fields ps' } → (∃ more, ps' = ps ++ more) → TriplesOk ps'.toList →
      wpAny (model X.prog X.w) X.A (builtinsFor X.env.globals X.env.builtins) (fun bi s₄ =>
        ∀ h', h'.Ns s₄.heap.objs.size (fun y => if y = ".0" then some (.ref it) else none) → Heap.SameBut s₄.heap.objs.size (s₄.heap.push { cls := .type "frame", data := .dict #[] }) h' →
          wpAny (model X.prog X.w) X.A (spliced (backTo pos (starEach [] X.env))) (fun us s' => wpAny (model X.prog X.w) X.A (call (.builtin "all") (Value.ref h'.objs.size :: us)) (EP X pins σ Q) X.xe s') X.xe { s₄ with
            gens := s₄.gens.push (.fresh (.compStart (gexp elt tg iter scope gpos) 0 (.ref it) .none (genEnv scope (cloFrom X.env.cells scope.names []) s₄.heap.objs.size code bi X.env))),
            toks := s₄.toks + 1 + 1 + 1,
            heap := h'.push { cls := .type "generator", data := .fields #[.int s₄.gens.size 0, .str "<genexpr>" (s₄.toks + 1), .str (X.env.qual ++ "<genexpr>") (s₄.toks + 1 + 1)] } }) X.xe { s2 with heap := h3, toks := tk } := by
    intro code h3 tk ps' hx hsz hP3 ⟨more, hmore⟩ ht3
    subst hmore
    obtain ⟨bm, ob, e1, e2, e3, e4, e5, e6, e7, e8⟩ := TB.bm
    have keep3 : ∀ b u, b ≠ P → s2.heap.get? b = some u → h3.get? b = some u := fun b u hb e => hx b u hb e
    refine wpAny_builtinsFor (m := X.mg) (by rw [I2.ok.glob]; exact (I2.mod.glob.keeps I2.bk).extBut hx TB.gP) e1 e2 (keep3 _ _ e4 (I2.bk _ _ e5)) e6 e7 e8 ?_
    have I3 := inv_tab (more := more) (h' := h3) (g' := s2.gens) (d' := s2.drawn) (t' := tk) I2 hP keep3 hP3 I2.bare
    intro h' hn' hs'
    refine Calls.spliced_nil ?_
    have hszC : h'.objs.size = h3.objs.size + 1 := by
      have := hs'.1
      rw [Heap.size_push] at this
      exact this
    -- the context
    generalize hce : genEnv scope (cloFrom X.env.cells scope.names []) h3.objs.size code builtinsNs X.env = cenv
    have c1 : cenv.scope = scope := by rw [← hce]; rfl
    have c2 : cenv.locals = h3.objs.size := by rw [← hce]; rfl
    have c3 : cenv.cells = cloFrom X.env.cells scope.names [] := by rw [← hce]; rfl
    have c4 : cenv.globals = X.env.globals := by rw [← hce]; rfl
    have c5 : cenv.builtins = builtinsNs := by rw [← hce]; rfl
    have c6 : cenv.frame = some cenv.locals := by rw [← hce]; rfl
    obtain ⟨hrg, hfr⟩ := gen_over (A := X.A) (elt := elt) (tg := tg) (iter := iter) (scope := scope) (pos := gpos) (it := it) (cenv := cenv) hr I2.ok.frames
    have fpOk3 : ∀ b ∈ fp, FpOk X pins (upd H1 P (.tbl (ps ++ more))) b ∧ b < h3.objs.size := fun b hb =>
      ⟨⟨by rw [upd_ne (fpP b hb)]; exact (f2 b hb).1, (f2 b hb).2⟩, Nat.lt_of_lt_of_le (fplt b hb) hsz⟩
    have IG := gen_begin (A := (X.A.in1.in1).over (loopC elt tg iter scope gpos it cenv) []) (gens' := s2.gens.push (.fresh (.compStart (gexp elt tg iter scope gpos) 0 (.ref it) .none cenv))) (tk := tk + 1 + 1 + 1)
      (a := h'.objs.size) (go := { cls := .type "generator", data := .fields #[.int s2.gens.size 0, .str "<genexpr>" (tk + 1), .str (X.env.qual ++ "<genexpr>") (tk + 1 + 1)] })
      I3 ok hN fpOk3 c1 c2 c3 c4 c5 c6 hr.hd hfr hn' hs' rfl (fun v z => by cases z) rfl (I2.bare.push rfl)
    obtain ⟨W, m, hW, hPl⟩ := cont (upd H1 P (.tbl (ps ++ more))) ⟨⟨ps ++ more, upd_same, ht3⟩, fun b hb => upd_ne hb⟩
    have hd := hr.hd
    have hroom : X.A.depth < recursionLimit := by have := hr.dp; omega
    refine call_function_tree F.kind_all F.plain_all F.entry_all (F.args_all1 _) ?_
    unfold Builtin.«all»
    refine wpAny_bind (m := oneArg "all" _) (wpAny_pure ?_)
    refine wpAny_bind (wpAny_pyIter_gen ⟨_, _, _, Heap.get?_push_size _ rfl, rfl, rfl, rfl⟩ ?_)
    refine wpAny_pure ⟨plainId_quiet F.plain_all_loop _, ?_⟩
    refine all_loop (A := X.A) (a := h'.objs.size) (g := s2.gens.size)
      (Q := fun b H => Q (.bl b) H) (Xg := cxG X X.N ((X.A.in1.in1).over (loopC elt tg iter scope gpos it cenv) []) cenv { s2 with heap := h3, toks := tk } (upd H1 P (.tbl (ps ++ more))) fp)
      (go := { cls := .type "generator", data := .fields #[.int s2.gens.size 0, .str "<genexpr>" (tk + 1), .str (X.env.qual ++ "<genexpr>") (tk + 1 + 1)] }) rfl rfl rfl hd hroom (fun h e => ⟨_, _, _, e, rfl, rfl, rfl⟩)
      (fun b s' hE => ?_) m _ ⟨_, _, IG⟩ ⟨_, Array.getElem?_push_size .., fun s'' e1 e2 e3 => ⟨rfl, ?_⟩⟩
    · obtain ⟨σ', H', I', q'⟩ := hE
      have J : Inv X pins σ H' s' := I3.call' (ch := fp) I'.os I'.base I'.hok I'.bare fun b hb => ⟨(f2 b hb).2.2.2.1, (f2 b hb).2.1, (f2 b hb).2.2.2.2.1, (f2 b hb).2.2.2.2.2⟩
      exact ⟨.bl b, H', J, rfl, q'⟩
    · refine seg_start (Xg := cxG X X.N ((X.A.in1.in1).over (loopC elt tg iter scope gpos it cenv) []) cenv { s2 with heap := h3, toks := tk } (upd H1 P (.tbl (ps ++ more))) fp) (As := X.A.in1.in1) (tg := tg) (elt := elt) (iter := iter) (it := it) (fp := fp) (tn := tn) (J := J) (g := g) (te := te) (W := W)
        rfl rfl rfl (by show cenv.scope.isCoroutine = false; rw [c1]; exact ok.co) T (hgt _ _ _ _ _ c1) (hel _ _ _ _ _ c1 hrg) hPl rfl m m s'' s'' (Nat.le_refl _) ?_
      refine ⟨_, _, Inv.sim IG e1 e2 e3, ?_, fun b hb => ?_, hW⟩
      · rw [e1]
        refine T.keep 0 _ _ st2 fun b hb o e => Heap.get?_push_of_some _ (hs'.extBut b o (Nat.ne_of_lt (fpOk3 b hb).2) (Heap.get?_push_of_some _ (keep3 b o (fpP b hb) e)))
      · refine ⟨(fpOk3 b hb).1.1, ?_, ?_, .inl hb, fun y c' e => ?_, fun p hp => ?_⟩
        · show b ≠ cenv.locals
          rw [c2]; exact Nat.ne_of_lt (fpOk3 b hb).2
        · intro z
          rcases List.mem_cons.mp (I3.stkSub b z) with z | z
          · exact (f2 b hb).2.1 z
          · exact (f2 b hb).2.2.1 z
        · have e : cenv.cells.lookup y = some c' := e
          rw [c3] at e
          rcases cloFrom_mem (PySem.mem_of_lookup e) with hm | ⟨h1, h2⟩
          · cases hm
          · obtain ⟨c0, hc0⟩ := hfree _ h1 rfl
            rw [hc0] at h2
            exact fun z => (f2 b hb).2.2.2.2.1 y c0 hc0 (by rw [← z, h2]; rfl)
        · have hp' : p.1 = h'.objs.size := by
            rcases List.mem_append.mp hp with z | z
            · exact absurd z (by simp [cxG])
            · rcases List.mem_cons.mp z with z | z
              · rw [z]
              · cases z
          rw [hp']
          exact Nat.ne_of_gt (Nat.lt_trans (fpOk3 b hb).2 (by rw [hszC]; exact Nat.lt_succ_self _))
  cases hf : codeAmong gpos ps.toList with
  | none =>
    refine wpAny_genexprCodeX hcode (cd.code hPs ht) (cd.tab hPs) hf fun c' h' tk hx hge hlt hco' _ htab' _ => ?_
    obtain ⟨o1, vs, f1, tf, fl, tg', inF, tx, tt, op, _, _, _, _, _, _, _, _, _, htr, _⟩ := hco'
    exact main _ h' tk _ hx (Nat.le_trans hge (Nat.le_of_lt hlt)) htab'.2 ⟨_, rfl⟩ htr
  | some cv => exact wpAny_genexprCode_hit hcode (cd.code hPs ht) hf (main cv s2.heap s2.toks ps (Heap.ExtBut.refl _ _) (Nat.le_refl _) hPs ⟨#[], by simp⟩ ht)
end GA

namespace DL
open PySem PySem.Spec PyProof.Rows L2

/-! ### values as trees: a tuple is its items; lists and dicts stand in a store -/
inductive D where
  | non | bl (b : Bool) | int (i : Int) | str (s : Str) | ref (a : Addr) | tup (ds : List D) | ktup (ds : List D)

mutual
inductive Rep (K : PySem.W.Frag) (H : Hp) : D → V → Prop
  | non : Rep K H .non .non
  | bl (b : Bool) : Rep K H (.bl b) (.bl b)
  | int (i : Int) : Rep K H (.int i) (.int i)
  | str (s : Str) : Rep K H (.str s) (.str s)
  | ref (a : Addr) : Rep K H (.ref a) (.ref a)
  | tup {a : Addr} {xs : List V} {ds : List D} : H a = some (.tup xs) → Reps K H ds xs → Rep K H (.tup ds) (.ref a)
  | ktup {a : Addr} {xs : List V} {ds : List D} : SqT K H a xs → Reps K H ds xs → Rep K H (.ktup ds) (.ref a)
inductive Reps (K : PySem.W.Frag) (H : Hp) : List D → List V → Prop
  | nil : Reps K H [] []
  | cons {d : D} {v : V} {ds : List D} {vs : List V} : Rep K H d v → Reps K H ds vs → Reps K H (d :: ds) (v :: vs)
end

/-- tuples stand -/
def Ts (K : PySem.W.Frag) (H H' : Hp) : Prop := (∀ a xs, SqT K H a xs → SqT K H' a xs) ∧ ∀ a xs, H a = some (.tup xs) → H' a = some (.tup xs)
theorem Ts.refl (K : PySem.W.Frag) (H : Hp) : Ts K H H := ⟨fun _ _ h => h, fun _ _ h => h⟩
theorem Ts.trans {K : PySem.W.Frag} {H H1 H2 : Hp} (a : Ts K H H1) (b : Ts K H1 H2) : Ts K H H2 := ⟨fun x xs h => b.1 x xs (a.1 x xs h), fun x xs h => b.2 x xs (a.2 x xs h)⟩

section
variable {K : PySem.W.Frag} {H H' : Hp}
mutual
theorem Rep.mono (t : Ts K H H') : ∀ (d : D) (v : V), Rep K H d v → Rep K H' d v
  | .non, _, h => by cases h; exact .non
  | .bl b, _, h => by cases h; exact .bl b
  | .int i, _, h => by cases h; exact .int i
  | .str s, _, h => by cases h; exact .str s
  | .ref a, _, h => by cases h; exact .ref a
  | .tup ds, _, h => by
    cases h with
    | tup h1 h2 => exact .tup (t.2 _ _ h1) (Reps.mono t ds _ h2)
  | .ktup ds, _, h => by
    cases h with
    | ktup h1 h2 => exact .ktup (t.1 _ _ h1) (Reps.mono t ds _ h2)
theorem Reps.mono (t : Ts K H H') : ∀ (ds : List D) (vs : List V), Reps K H ds vs → Reps K H' ds vs
  | [], _, h => by cases h; exact .nil
  | d :: ds, _, h => by
    cases h with
    | cons h1 h2 => exact .cons (Rep.mono t d _ h1) (Reps.mono t ds _ h2)
end
theorem Reps.length : ∀ {ds : List D} {vs : List V}, Reps K H ds vs → ds.length = vs.length
  | [], _, h => by cases h; rfl
  | d :: ds, _, h => by
    cases h with
    | cons h1 h2 => simp [Reps.length h2]
theorem Reps.get : ∀ {ds : List D} {vs : List V} {i : Nat} {d : D}, Reps K H ds vs → ds[i]? = some d → ∃ v, vs[i]? = some v ∧ Rep K H d v
  | [], _, _, _, _, e => by simp at e
  | d :: ds, _, 0, _, h, e => by
    cases h with
    | cons h1 h2 => simp at e; subst e; exact ⟨_, rfl, h1⟩
  | d :: ds, _, i + 1, _, h, e => by
    cases h with
    | cons h1 h2 =>
      obtain ⟨v, e1, e2⟩ := Reps.get (i := i) h2 (by simpa using e)
      exact ⟨v, by simpa using e1, e2⟩
theorem Reps.getV : ∀ {ds : List D} {vs : List V} {i : Nat} {v : V}, Reps K H ds vs → vs[i]? = some v → ∃ d, ds[i]? = some d ∧ Rep K H d v
  | [], _, _, _, h, e => by cases h; simp at e
  | d :: ds, _, 0, _, h, e => by
    cases h with
    | cons h1 h2 => simp at e; subst e; exact ⟨_, rfl, h1⟩
  | d :: ds, _, i + 1, _, h, e => by
    cases h with
    | cons h1 h2 =>
      obtain ⟨v, e1, e2⟩ := Reps.getV (i := i) h2 (by simpa using e)
      exact ⟨v, by simpa using e1, e2⟩
theorem Reps.append : ∀ {ds es : List D} {vs us : List V}, Reps K H ds vs → Reps K H es us → Reps K H (ds ++ es) (vs ++ us)
  | [], _, _, _, h, s => by cases h; exact s
  | d :: ds, _, _, _, h, s => by
    cases h with
    | cons h1 h2 => exact .cons h1 (Reps.append h2 s)
theorem Reps.take : ∀ {ds : List D} {vs : List V} (n : Nat), Reps K H ds vs → Reps K H (ds.take n) (vs.take n)
  | _, _, 0, _ => .nil
  | [], _, _ + 1, h => by cases h; exact .nil
  | d :: ds, _, n + 1, h => by
    cases h with
    | cons h1 h2 => exact .cons h1 (Reps.take n h2)
theorem Reps.drop : ∀ {ds : List D} {vs : List V} (n : Nat), Reps K H ds vs → Reps K H (ds.drop n) (vs.drop n)
  | _, _, 0, h => h
  | [], _, _ + 1, h => by cases h; exact .nil
  | d :: ds, _, n + 1, h => by
    cases h with
    | cons h1 h2 => exact Reps.drop n h2
theorem Reps.erase : ∀ {ds : List D} {vs : List V} (n : Nat), Reps K H ds vs → Reps K H (ds.eraseIdx n) (vs.eraseIdx n)
  | [], _, _, h => by cases h; exact .nil
  | d :: ds, _, 0, h => by cases h with | cons h1 h2 => exact h2
  | d :: ds, _, n + 1, h => by cases h with | cons h1 h2 => exact .cons h1 (Reps.erase n h2)
theorem Reps.set {d : D} {v : V} (r : Rep K H d v) : ∀ {ds : List D} {vs : List V} (n : Nat), Reps K H ds vs → Reps K H (ds.set n d) (vs.set n v)
  | [], _, _, h => by cases h; exact .nil
  | d :: ds, _, 0, h => by cases h with | cons h1 h2 => exact .cons r h2
  | d :: ds, _, n + 1, h => by cases h with | cons h1 h2 => exact .cons h1 (Reps.set r n h2)
theorem Reps.strs : ∀ {ss : List Str} {vs : List V}, Reps K H (ss.map D.str) vs → vs = ss.map V.str
  | [], _, h => by cases h; rfl
  | s :: ss, _, h => by
    cases h with
    | cons h1 h2 => cases h1; rw [Reps.strs h2]; rfl
theorem Reps.of_strs : ∀ (ss : List Str), Reps K H (ss.map D.str) (ss.map V.str)
  | [] => .nil
  | s :: ss => .cons (.str s) (Reps.of_strs ss)
end

/-! ### the store -/
inductive DO where
  | lst (ds : List D) | dic (kvs : List (Key × D)) | dit (kvs : List (List Key × D)) | lck (kvs : List (List Key × D)) (o : HO) | ext (f : Heap → Prop) (ts : List (Addr × D))

/-- what stands beside the store: its invariant, its addresses -/
structure Gh where
  inv : Hp → Prop
  own : Addr → Prop
  stable : ∀ H H', inv H → (∀ a, own a → H' a = H a) → inv H'
  there : ∀ H, inv H → ∀ a, own a → H a ≠ none

structure M where
  mu : Addr → Option DO
  gh : Gh
def M.set (m : M) (a : Addr) (o : DO) : M := { m with mu := fun b => if b = a then some o else m.mu b }
theorem M.set_same {m : M} {a : Addr} {o : DO} : (m.set a o).mu a = some o := by simp [M.set]
theorem M.set_ne {m : M} {a b : Addr} {o : DO} (h : b ≠ a) : (m.set a o).mu b = m.mu b := by simp [M.set, h]
theorem M.set_gh {m : M} {a : Addr} {o : DO} : (m.set a o).gh = m.gh := rfl

def KVd (K : PySem.W.Frag) (H : Hp) {κ : Type} : List (κ × D) → List (κ × V) → Prop := Paired fun p q => p.1 = q.1 ∧ Rep K H p.2 q.2

def RepO (K : PySem.W.Frag) (H : Hp) (a : Addr) : DO → Prop
  | .lst ds => ∃ xs, H a = some (.lst xs) ∧ Reps K H ds xs
  | .dic kvs => ∃ ys, H a = some (.dK ys) ∧ KVd K H kvs ys
  | .dit kvs => ∃ ys, H a = some (.dT ys) ∧ KVd K H kvs ys
  | .lck kvs o => H a = some o ∧ ∃ od ys, o = .frz od (.dT ys) ∧ KVd K H kvs ys
  | .ext f ts => H a = some (.ext f) ∧ ∀ t ∈ ts, Rep K H t.2 (.ref t.1)
structure RelH (K : PySem.W.Frag) (H : Hp) (m : M) : Prop where
  inv : m.gh.inv H
  sep : ∀ a, m.gh.own a → m.mu a = none
  obj : ∀ a o, m.mu a = some o → RepO K H a o
/-- slots: what is known of each -/
def RelS (K : PySem.W.Frag) (H : Hp) : List (Option D) → L2.St → Prop := Paired fun od ov => ∀ d, od = some d → ∃ v, ov = some v ∧ Rep K H d v

section
variable {K : PySem.W.Frag} {H H' : Hp}
theorem KVd.mono {κ : Type} (t : Ts K H H') {a : List (κ × D)} {b : List (κ × V)} (h : KVd K H a b) : KVd K H' a b := Paired.mapP h fun p q z => ⟨z.1, Rep.mono t _ _ z.2⟩
theorem RelS.mono (t : Ts K H H') {δ : List (Option D)} {σ : L2.St} (h : RelS K H δ σ) : RelS K H' δ σ := Paired.mapP h fun p q z d e => by
  obtain ⟨v, e1, e2⟩ := z d e
  exact ⟨v, e1, Rep.mono t _ _ e2⟩
theorem RelS.get : ∀ {δ : List (Option D)} {σ : L2.St} {i : Nat} {d : D}, RelS K H δ σ → δ[i]? = some (some d) → ∃ v, σ[i]? = some (some v) ∧ Rep K H d v
  | _, _, _, _, .nil, e => by simp at e
  | _, _, 0, _, .cons r _, e => by
    simp at e
    obtain ⟨v, e1, e2⟩ := r _ e
    exact ⟨v, by simp [e1], e2⟩
  | _, _, i + 1, d, .cons _ t, e => by
    obtain ⟨v, h1, h2⟩ := RelS.get (i := i) (d := d) t (by simpa using e)
    exact ⟨v, by simpa using h1, h2⟩
theorem RelS.set {d : D} {v : V} (r : Rep K H d v) : ∀ {δ : List (Option D)} {σ : L2.St} (i : Nat), RelS K H δ σ → RelS K H (δ.set i (some d)) (σ.set i (some v))
  | _, _, _, .nil => .nil
  | _, _, 0, .cons _ t => .cons (fun e h => by cases h; exact ⟨v, rfl, r⟩) t
  | _, _, i + 1, .cons q t => .cons q (RelS.set r i t)
theorem RelS.length : ∀ {δ : List (Option D)} {σ : L2.St}, RelS K H δ σ → δ.length = σ.length := fun h => Paired.length h
theorem RelS.forget : ∀ {δ : List (Option D)} {σ : L2.St} (i : Nat) (x : Option V), RelS K H δ σ → RelS K H (δ.set i none) (σ.set i x)
  | _, _, _, _, .nil => .nil
  | _, _, 0, _, .cons _ t => .cons (fun e h => by cases h) t
  | _, _, i + 1, x, .cons q t => .cons q (RelS.forget i x t)

theorem Ts.new {a : Addr} {o : HO} (h : H a = none) : Ts K H (upd H a o) := ⟨fun b xs s => by
  rcases s with (s | ⟨ob, s⟩) | s
  · exact .inl (.inl (by rw [upd_ne (ne_of_none s h)]; exact s))
  · exact .inl (.inr ⟨ob, by rw [upd_ne (ne_of_none s h)]; exact s⟩)
  · exact .inr s, fun b xs s => by rw [upd_ne (ne_of_none s h)]; exact s⟩
theorem Ts.put {a : Addr} {o u : HO} (h : H a = some u) (hu : ∀ xs, u ≠ .tup xs) (hf : ∀ ob xs, u ≠ .frz ob (.tup xs)) : Ts K H (upd H a o) := ⟨fun b xs s => by
  rcases s with (s | ⟨ob, s⟩) | s
  · have ne : b ≠ a := fun e => by subst e; rw [h] at s; cases s; exact hu _ rfl
    exact .inl (.inl (by rw [upd_ne ne]; exact s))
  · have ne : b ≠ a := fun e => by subst e; rw [h] at s; cases s; exact hf _ _ rfl
    exact .inl (.inr ⟨ob, by rw [upd_ne ne]; exact s⟩)
  · exact .inr s, fun b xs s => by
    have ne : b ≠ a := fun e => by subst e; rw [h] at s; cases s; exact hu _ rfl
    rw [upd_ne ne]; exact s⟩

theorem RepO.mono {a : Addr} {o : DO} (t : Ts K H H') (ha : H' a = H a) (h : RepO K H a o) : RepO K H' a o := by
  cases o with
  | lst ds => obtain ⟨xs, e, r⟩ := h; exact ⟨xs, ha.trans e, Reps.mono t _ _ r⟩
  | dic kvs => obtain ⟨ys, e, r⟩ := h; exact ⟨ys, ha.trans e, r.mono t⟩
  | dit kvs => obtain ⟨ys, e, r⟩ := h; exact ⟨ys, ha.trans e, r.mono t⟩
  | lck kvs o => obtain ⟨e, od, ys, e2, r⟩ := h; exact ⟨ha.trans e, od, ys, e2, r.mono t⟩
  | ext f ts => exact ⟨ha.trans h.1, fun z hz => Rep.mono t _ _ (h.2 z hz)⟩
theorem RepO.some {a : Addr} {o : DO} (h : RepO K H a o) : ∃ u, H a = some u ∧ (∀ xs, u ≠ .tup xs) ∧ (∀ ob xs, u ≠ .frz ob (.tup xs)) := by
  cases o with
  | lst ds => obtain ⟨xs, e, r⟩ := h; exact ⟨_, e, (fun _ z => by cases z), (fun _ _ z => by cases z)⟩
  | dic kvs => obtain ⟨ys, e, r⟩ := h; exact ⟨_, e, (fun _ z => by cases z), (fun _ _ z => by cases z)⟩
  | dit kvs => obtain ⟨ys, e, r⟩ := h; exact ⟨_, e, (fun _ z => by cases z), (fun _ _ z => by cases z)⟩
  | lck kvs o => obtain ⟨e, od, ys, e2, r⟩ := h; subst e2; exact ⟨_, e, (fun _ z => by cases z), (fun _ _ z => by cases z)⟩
  | ext f ts => exact ⟨_, h.1, (fun _ z => by cases z), (fun _ _ z => by cases z)⟩
theorem RelH.fresh {m : M} {p : Addr} (r : RelH K H m) (h : H p = none) : m.mu p = none := by
  cases e : m.mu p with
  | none => rfl
  | some o =>
    obtain ⟨u, hu, _⟩ := (r.obj p o e).some
    rw [h] at hu; cases hu
/-- a new thing of which the store knows nothing -/
theorem RelH.new {m : M} {p : Addr} {o : HO} (r : RelH K H m) (h : H p = none) : RelH K (upd H p o) m where
  inv := m.gh.stable _ _ r.inv fun a ha => upd_ne fun e => by subst e; exact m.gh.there _ r.inv a ha h
  sep := r.sep
  obj := fun a x e => (r.obj a x e).mono (Ts.new h) (upd_ne fun z => by subst z; rw [r.fresh h] at e; cases e)
/-- a new thing in the store -/
theorem RelH.newO {m : M} {p : Addr} {o : HO} {x : DO} (r : RelH K H m) (h : H p = none) (hx : RepO K (upd H p o) p x) : RelH K (upd H p o) (m.set p x) where
  inv := (r.new h).inv
  sep := fun a ha => by
    have ne : a ≠ p := fun e => by subst e; exact m.gh.there _ r.inv a ha h
    rw [M.set_ne ne]; exact r.sep a ha
  obj := fun a y e => by
    by_cases z : a = p
    · subst z; rw [M.set_same] at e; cases e; exact hx
    · rw [M.set_ne z] at e; exact (r.new h).obj a y e
/-- a thing of the store is changed -/
theorem RelH.put {m : M} {p : Addr} {o : HO} {x y : DO} (r : RelH K H m) (h : m.mu p = some y) (hx : RepO K (upd H p o) p x) : RelH K (upd H p o) (m.set p x) := by
  obtain ⟨u, hu, n1, n2⟩ := (r.obj p y h).some
  refine ⟨m.gh.stable _ _ r.inv fun a ha => upd_ne fun e => ?_, fun a ha => ?_, fun a z e => ?_⟩
  · subst e; rw [r.sep a ha] at h; cases h
  · have ne : a ≠ p := fun e => by subst e; rw [r.sep a ha] at h; cases h
    rw [M.set_ne ne]; exact r.sep a ha
  · by_cases q : a = p
    · subst q; rw [M.set_same] at e; cases e; exact hx
    · rw [M.set_ne q] at e; exact (r.obj a z e).mono (Ts.put hu n1 n2) (upd_ne q)
theorem RelH.putTS {m : M} {p : Addr} {o : HO} {y : DO} (r : RelH K H m) (h : m.mu p = some y) : Ts K H (upd H p o) := by
  obtain ⟨u, hu, n1, n2⟩ := (r.obj p y h).some
  exact Ts.put hu n1 n2
end

/-! ### transformers over trees -/
abbrev Sl := List (Option D)
abbrev DK := D → M → Prop
abbrev DTr := Sl → M → DK → Prop
abbrev DTT := Sl → M → (Bool → M → Prop) → Prop
abbrev DTA := Sl → M → (List D → M → Prop) → Prop

def Fits (K : PySem.W.Frag) (H : Hp) (Q' : DK) (Q : VK) : Prop := ∀ d m, Q' d m → ∀ v H', Ts K H H' → Rep K H' d v → RelH K H' m → Q v H'
theorem Fits.mono {K : PySem.W.Frag} {H H1 : Hp} {Q' : DK} {Q : VK} (t : Ts K H H1) (f : Fits K H Q' Q) : Fits K H1 Q' Q := fun d m q v H' t' r rh => f d m q v H' (t.trans t') r rh
def up (K : PySem.W.Frag) (t : DTr) : TE := fun σ H Q => ∃ δ m Q', RelS K H δ σ ∧ RelH K H m ∧ t δ m Q' ∧ Fits K H Q' Q
def FitsB (K : PySem.W.Frag) (H : Hp) (Q' : Bool → M → Prop) (Q : Bool → Hp → Prop) : Prop := ∀ b m, Q' b m → ∀ H', Ts K H H' → RelH K H' m → Q b H'
def upB (K : PySem.W.Frag) (t : DTT) : TT := fun σ H Q => ∃ δ m Q', RelS K H δ σ ∧ RelH K H m ∧ t δ m Q' ∧ FitsB K H Q' Q
def FitsA (K : PySem.W.Frag) (H : Hp) (Q' : List D → M → Prop) (Q : List V → Hp → Prop) : Prop := ∀ ds m, Q' ds m → ∀ vs H', Ts K H H' → Reps K H' ds vs → RelH K H' m → Q vs H'
def upA (K : PySem.W.Frag) (t : DTA) : TA := fun σ H Q => ∃ δ m Q', RelS K H δ σ ∧ RelH K H m ∧ t δ m Q' ∧ FitsA K H Q' Q

def DE (X : Cx) (e : Expr) (t : DTr) : Prop := PE X e (up X.K t)
def DTst (X : Cx) (e : Expr) (t : DTT) : Prop := PT X e (upB X.K t)
def DTW (X : Cx) (e : Expr) (t : DTT) : Prop := PW X e (upB X.K t)
def DA (X : Cx) (es : List Expr) (t : DTA) : Prop := PA X es (upA X.K t)

theorem _root_.L2.PE.imp {X : Cx} {e : Expr} {t t' : TE} (h : PE X e t) (i : ∀ σ H Q, t' σ H Q → t σ H Q) : PE X e t' := ⟨fun pins s σ H Q I q => h.run pins s σ H Q I (i σ H Q q)⟩
theorem _root_.L2.PT.imp {X : Cx} {e : Expr} {t t' : TT} (h : PT X e t) (i : ∀ σ H Q, t' σ H Q → t σ H Q) : PT X e t' := ⟨fun pins s σ H Q I q => h.run pins s σ H Q I (i σ H Q q)⟩
theorem _root_.L2.PW.imp {X : Cx} {e : Expr} {t t' : TT} (h : PW X e t) (i : ∀ σ H Q, t' σ H Q → t σ H Q) : PW X e t' := ⟨fun wh pins s σ H Q I q => h.run wh pins s σ H Q I (i σ H Q q)⟩
theorem _root_.L2.PA.imp {X : Cx} {es : List Expr} {t t' : TA} (h : PA X es t) (i : ∀ σ H Q, t' σ H Q → t σ H Q) : PA X es t' := ⟨fun pos pins s σ H Q I q => h.run pos pins s σ H Q I (i σ H Q q)⟩
theorem _root_.L2.PS.imp {X : Cx} {st : Stmt} {t t' : L2.TS} (h : PS X st t) (i : ∀ D σ H, t' D σ H → t D σ H) : PS X st t' := ⟨fun pins s σ H D I q => h.run pins s σ H D I (i D σ H q)⟩
theorem _root_.L2.PSs.imp {X : Cx} {st : List Stmt} {t t' : L2.TS} (h : PSs X st t) (i : ∀ D σ H, t' D σ H → t D σ H) : PSs X st t' := ⟨fun pins s σ H D I q => h.run pins s σ H D I (i D σ H q)⟩

/-! ### two in a row -/
abbrev DR2 := D → D → M → DK → Prop
def dOp (R : DR2) (ta tb : DTr) : DTr := fun δ m Q => ta δ m fun x m1 => tb δ m1 fun y m2 => R x y m2 Q
def OpL (K : PySem.W.Frag) (r : R2) (R : DR2) : Prop := ∀ (x y : D) (vx vy : V) (H : Hp) (m : M) (Q' : DK) (Q : VK), Rep K H x vx → Rep K H y vy → RelH K H m → R x y m Q' → Fits K H Q' Q → r vx vy H Q
theorem up_op {K : PySem.W.Frag} {r : R2} {R : DR2} (h : OpL K r R) {ta tb : DTr} : ∀ σ H Q, up K (dOp R ta tb) σ H Q → tOp r (up K ta) (up K tb) σ H Q := by
  rintro σ H Q ⟨δ, m, Q', rs, rh, t, f⟩
  refine ⟨δ, m, _, rs, rh, t, fun x m1 q1 v H1 t1 r1 rh1 => ?_⟩
  refine ⟨δ, m1, _, rs.mono t1, rh1, q1, fun y m2 q2 u H2 t2 r2 rh2 => ?_⟩
  exact h x y v u H2 m2 Q' Q (Rep.mono t2 _ _ r1) r2 rh2 q2 (f.mono (t1.trans t2))
def dUn (R : D → M → DK → Prop) (ta : DTr) : DTr := fun δ m Q => ta δ m fun x m1 => R x m1 Q
def UnL (K : PySem.W.Frag) (r : V → Hp → VK → Prop) (R : D → M → DK → Prop) : Prop := ∀ (x : D) (vx : V) (H : Hp) (m : M) (Q' : DK) (Q : VK), Rep K H x vx → RelH K H m → R x m Q' → Fits K H Q' Q → r vx H Q
theorem up_un {K : PySem.W.Frag} {r : V → Hp → VK → Prop} {R : D → M → DK → Prop} (h : UnL K r R) {ta : DTr} : ∀ σ H Q, up K (dUn R ta) σ H Q → tUn r (up K ta) σ H Q := by
  rintro σ H Q ⟨δ, m, Q', rs, rh, t, f⟩
  exact ⟨δ, m, _, rs, rh, t, fun x m1 q1 v H1 t1 r1 rh1 => h x v H1 m1 Q' Q r1 rh1 q1 (f.mono t1)⟩
/-- arguments -/
abbrev DRA := List D → M → DK → Prop
def dArgs (R : DRA) (t : DTA) : DTr := fun δ m Q => t δ m fun xs m1 => R xs m1 Q
def ArgL (K : PySem.W.Frag) (r : List V → Hp → VK → Prop) (R : DRA) : Prop := ∀ (xs : List D) (vs : List V) (H : Hp) (m : M) (Q' : DK) (Q : VK), Reps K H xs vs → RelH K H m → R xs m Q' → Fits K H Q' Q → r vs H Q
theorem up_args {K : PySem.W.Frag} {r : List V → Hp → VK → Prop} {R : DRA} (h : ArgL K r R) {t : DTA} : ∀ σ H Q, up K (dArgs R t) σ H Q → upA K t σ H (fun vs H1 => r vs H1 Q) := by
  rintro σ H Q ⟨δ, m, Q', rs, rh, t, f⟩
  exact ⟨δ, m, _, rs, rh, t, fun xs m1 q1 vs H1 t1 r1 rh1 => h xs vs H1 m1 Q' Q r1 rh1 q1 (f.mono t1)⟩

/-! ### names, constants -/
section
variable {X : Cx}
def dVar (i : Nat) : DTr := fun δ m Q => ∃ d, δ[i]? = some (some d) ∧ Q d m
def dC (d : D) : DTr := fun _ m Q => Q d m
theorem de_of_var {e : Expr} {i : Nat} (h : PE X e (tVar i)) : DE X e (dVar i) := h.imp fun σ H Q ⟨δ, m, Q', rs, rh, ⟨d, e, q⟩, f⟩ => by
  obtain ⟨v, e1, r⟩ := rs.get e
  exact ⟨v, e1, f d m q v H (Ts.refl _ _) r rh⟩
theorem de_var (i : Nat) {x : Str} {pos : Pos} (hN : X.N[i]? = some x := by rfl) (hv : Vis X.env.scope x := by first | exact Or.inl rfl | exact Or.inr (Or.inl rfl) | exact Or.inr (Or.inr rfl)) (hd : (x == ("__debug__" : Str)) = false := by decide)
    (hcd : (x == ("__classdict__" : Str)) = false := by decide) : DE X (.Name x pos) (dVar i) := de_of_var (pe_var hN hv hd hcd)
theorem de_of_c {e : Expr} {v : V} {d : D} (h : PE X e (tC v)) (r : ∀ H, Rep X.K H d v) : DE X e (dC d) := h.imp fun σ H Q ⟨δ, m, Q', rs, rh, q, f⟩ => f d m q v H (Ts.refl _ _) (r H) rh
theorem de_int {i j pos} : DE X (.Constant (.int i) j pos) (dC (.int i)) := de_of_c pe_int fun _ => .int i
theorem de_bl {b j pos} : DE X (.Constant (.bool b) j pos) (dC (.bl b)) := de_of_c pe_bl fun _ => .bl b
theorem de_non {j pos} : DE X (.Constant .none j pos) (dC .non) := de_of_c pe_non fun _ => .non
theorem de_str {s j pos} : DE X (.Constant (.str s) j pos) (dC (.str s)) := de_of_c pe_str fun _ => .str s
theorem de_glob {x : Str} {v : V} {d : D} {u : Value} {pos : Pos} (hg : Gl X x) (hm : X.mg x = some u) (rv : RelV v u) (r : ∀ H, Rep X.K H d v) (hd : (x == ("__debug__" : Str)) = false := by decide) : DE X (.Name x pos) (dC d) := de_of_c (pe_glob hg hm rv hd) r

/-! ### arguments -/
def dNil : DTA := fun _ m Q => Q [] m
def dCons (te : DTr) (t : DTA) : DTA := fun δ m Q => te δ m fun x m1 => t δ m1 fun xs m2 => Q (x :: xs) m2
theorem da_nil : DA X [] dNil := pa_nil.imp fun σ H Q ⟨δ, m, Q', rs, rh, q, f⟩ => f [] m q [] H (Ts.refl _ _) .nil rh
theorem da_cons {e : Expr} {es : List Expr} {te : DTr} {t : DTA} (he : DE X e te) (hr : DA X es t) (hs : starEach (e :: es) X.env = (false, eval e X.env) :: starEach es X.env := by rfl) : DA X (e :: es) (dCons te t) :=
  (pa_cons he hr hs).imp fun σ H Q ⟨δ, m, Q', rs, rh, q, f⟩ =>
    ⟨δ, m, _, rs, rh, q, fun x m1 q1 v H1 t1 r1 rh1 => ⟨δ, m1, _, rs.mono t1, rh1, q1, fun xs m2 q2 vs H2 t2 r2 rh2 =>
      f (x :: xs) m2 q2 (v :: vs) H2 (t1.trans t2) (.cons (Rep.mono t2 _ _ r1) r2) rh2⟩⟩

/-! ### displays -/
def dTup (t : DTA) : DTr := fun δ m Q => t δ m fun xs m1 => xs.length ≤ sizeLine ∧ Q (.tup xs) m1
theorem de_tup {es : List Expr} {t : DTA} {x1} {pos : Pos} (h : DA X es t) : DE X (.Tuple es x1 pos) (dTup t) := (pe_tup h).imp fun σ H Q ⟨δ, m, Q', rs, rh, q, f⟩ =>
  ⟨δ, m, _, rs, rh, q, fun xs m1 ⟨z, q1⟩ vs H1 t1 r1 rh1 => ⟨by rw [← r1.length]; exact z, fun p hp =>
    f (.tup xs) m1 q1 (.ref p) _ (t1.trans (Ts.new hp)) (.tup upd_same (Reps.mono (Ts.new hp) _ _ r1)) (rh1.new hp)⟩⟩
def dLst (t : DTA) : DTr := fun δ m Q => t δ m fun xs m1 => xs.length ≤ sizeLine ∧ ∀ p, m1.mu p = none → Q (.ref p) (m1.set p (.lst xs))
theorem de_lst {es : List Expr} {t : DTA} {pos : Pos} (h : DA X es t) : DE X (.List es pos) (dLst t) := (pe_lst h).imp fun σ H Q ⟨δ, m, Q', rs, rh, q, f⟩ =>
  ⟨δ, m, _, rs, rh, q, fun xs m1 ⟨z, q1⟩ vs H1 t1 r1 rh1 => ⟨by rw [← r1.length]; exact z, fun p hp =>
    f (.ref p) _ (q1 p (rh1.fresh hp)) (.ref p) _ (t1.trans (Ts.new hp)) (.ref p) (rh1.newO hp ⟨vs, upd_same, Reps.mono (Ts.new hp) _ _ r1⟩)⟩⟩
end
end DL

namespace DL
open PySem PySem.Spec PyProof.Rows L2

/-! ### equality of data -/
mutual
def D.py : D → PyData
  | .non => .none
  | .bl b => .bool b
  | .int i => .int i
  | .str s => .str s
  | .ref _ => .none
  | .tup ds => .tuple (D.pys ds)
  | .ktup ds => .tuple (D.pys ds)
def D.pys : List D → List PyData
  | [] => []
  | d :: ds => d.py :: D.pys ds
end
mutual
def D.pure : D → Bool
  | .ref _ => false
  | .tup ds => D.pures ds
  | .ktup ds => D.pures ds
  | _ => true
def D.pures : List D → Bool
  | [] => true
  | d :: ds => d.pure && D.pures ds
end
section
variable {K : PySem.W.Frag} {H : Hp}
mutual
theorem Rep.dp : ∀ (d : D) (v : V), d.pure = true → Rep K H d v → Dp K H v d.py
  | .non, _, _, h => by cases h; exact .non
  | .bl b, _, _, h => by cases h; exact .bl b
  | .int i, _, _, h => by cases h; exact .int i
  | .str s, _, _, h => by cases h; exact .str s
  | .ref a, _, p, h => by simp [D.pure] at p
  | .tup ds, _, p, h => by
    cases h with
    | tup h1 h2 => exact .tup (.inl (.inl h1)) (Reps.dp ds _ p h2)
  | .ktup ds, _, p, h => by
    cases h with
    | ktup h1 h2 => exact .tup h1 (Reps.dp ds _ p h2)
theorem Reps.dp : ∀ (ds : List D) (vs : List V), D.pures ds = true → Reps K H ds vs → DpAll K H vs (D.pys ds)
  | [], _, _, h => by cases h; exact .nil
  | d :: ds, _, p, h => by
    cases h with
    | cons h1 h2 =>
      simp only [D.pures, Bool.and_eq_true] at p
      exact .cons (Rep.dp d _ p.1 h1) (Reps.dp ds _ p.2 h2)
end
end
/-- a value's data, through a list of the store -/
inductive PyOf (m : M) : D → PyData → Prop
  | d {d : D} (h : d.pure = true) : PyOf m d d.py
  | l {a : Addr} {ds : List D} (h : m.mu a = some (.lst ds)) (p : D.pures ds = true) : PyOf m (.ref a) (.list (D.pys ds))
theorem PyOf.dp {K : PySem.W.Frag} {H : Hp} {m : M} {d : D} {v : V} {p : PyData} (h : PyOf m d p) (r : Rep K H d v) (rh : RelH K H m) : Dp K H v p := by
  cases h with
  | d h => exact Rep.dp d v h r
  | l h p =>
    cases r
    obtain ⟨xs, e, rs⟩ := rh.obj _ _ h
    exact .lst (SqL.of e) (Reps.dp _ _ p rs)
def rdEqG (neg : Bool) : DR2 := fun x y m Q => ∃ p q, PyOf m x p ∧ PyOf m y q ∧ SeqAt.shaped p = true ∧ SeqAt.shaped q = true ∧ Q (.bl (if neg then !PyData.eqv p q else PyData.eqv p q)) m
/-- ==, !=: two ints, two texts; else data -/
def rdEq (neg : Bool) : DR2 := fun x y m Q => match x, y with
  | .int i, .int j => Q (.bl (if neg then !(i == j) else i == j)) m
  | .str s, .str t => Q (.bl (if neg then !(s == t) else s == t)) m
  | x, y => rdEqG neg x y m Q
theorem opl_eqG {K : PySem.W.Frag} : OpL K (rEqD K) (rdEqG false) := fun x y vx vy H m Q' Q rx ry rh ⟨p, q, h1, h2, s1, s2, q3⟩ f =>
  ⟨p, q, h1.dp rx rh, h2.dp ry rh, s1, s2, f _ m q3 _ H (Ts.refl _ _) (.bl _) rh⟩
theorem opl_neG {K : PySem.W.Frag} : OpL K (rNeD K) (rdEqG true) := fun x y vx vy H m Q' Q rx ry rh ⟨p, q, h1, h2, s1, s2, q3⟩ f =>
  ⟨p, q, h1.dp rx rh, h2.dp ry rh, s1, s2, f _ m q3 _ H (Ts.refl _ _) (.bl _) rh⟩
theorem opl_eq {K : PySem.W.Frag} : OpL K (fun x y H Q => L2.rEq x y H Q ∨ rEqD K x y H Q) (rdEq false) := fun x y vx vy H m Q' Q rx ry rh q f => by
  cases x <;> cases y <;> first | exact .inr (opl_eqG _ _ vx vy H m Q' Q rx ry rh q f) | skip
  · cases rx; cases ry
    refine .inl ⟨rfl, ?_⟩
    rw [dec_int]
    exact f _ m q _ H (Ts.refl _ _) (.bl _) rh
  · cases rx; cases ry
    refine .inl ⟨rfl, ?_⟩
    rw [dec_str]
    exact f _ m q _ H (Ts.refl _ _) (.bl _) rh
theorem opl_ne {K : PySem.W.Frag} : OpL K (fun x y H Q => rNe x y H Q ∨ rNeD K x y H Q) (rdEq true) := fun x y vx vy H m Q' Q rx ry rh q f => by
  cases x <;> cases y <;> first | exact .inr (opl_neG _ _ vx vy H m Q' Q rx ry rh q f) | skip
  · cases rx; cases ry
    refine .inl ⟨rfl, ?_⟩
    rw [dec_int]
    exact f _ m q _ H (Ts.refl _ _) (.bl _) rh
  · cases rx; cases ry
    refine .inl ⟨rfl, ?_⟩
    rw [dec_str]
    exact f _ m q _ H (Ts.refl _ _) (.bl _) rh

section
variable {X : Cx} {a b e : Expr} {ta tb te : DTr} {pos : Pos}

/-! ### operators -/
def rdAdd : DR2 := fun x y m Q => match x, y with
  | .int i, .int j => Q (.int (i + j)) m
  | .str s, .str t => s.length + t.length ≤ sizeLine ∧ Q (.str (s ++ t)) m
  | .tup xs, .tup ys => xs ≠ [] ∧ xs.length + ys.length ≤ sizeLine ∧ Q (.tup (xs ++ ys)) m
  | .ref l, .ref k => ∃ xs ys, m.mu l = some (.lst xs) ∧ m.mu k = some (.lst ys) ∧ xs.length + ys.length ≤ sizeLine ∧ ∀ p, m.mu p = none → Q (.ref p) (m.set p (.lst (xs ++ ys)))
  | _, _ => False
theorem de_add (ha : DE X a ta) (hb : DE X b tb) : DE X (.BinOp a .Add b pos) (dOp rdAdd ta tb) := by
  refine (pe_op (((op_add.or op_add_str).or op_cat).or op_catT) ha hb).imp (up_op ?_)
  intro x y vx vy H m Q' Q rx ry rh h f
  cases x <;> cases y <;> first | exact h.elim | skip
  · cases rx; cases ry
    exact .inl (.inl (.inl ⟨_, _, rfl, rfl, f _ m h _ H (Ts.refl _ _) (.int _) rh⟩))
  · cases rx; cases ry
    exact .inl (.inl (.inr ⟨_, _, rfl, rfl, h.1, f _ m h.2 _ H (Ts.refl _ _) (.str _) rh⟩))
  · cases rx; cases ry
    obtain ⟨xs, ys, h1, h2, h3, q⟩ := h
    obtain ⟨us, e1, r1⟩ := rh.obj _ _ h1
    obtain ⟨ws, e2, r2⟩ := rh.obj _ _ h2
    refine .inl (.inr ⟨_, _, us, ws, rfl, rfl, e1, e2, by rw [← r1.length, ← r2.length]; exact h3, fun p hp => ?_⟩)
    exact f _ _ (q p (rh.fresh hp)) _ _ (Ts.new hp) (.ref p) (rh.newO hp ⟨_, upd_same, Reps.mono (Ts.new hp) _ _ (r1.append r2)⟩)
  · rename_i xs ys
    cases rx with
    | tup h1 r1 =>
      rename_i p us
      cases ry with
      | tup h2 r2 =>
        rename_i p' ws
        obtain ⟨n1, n2, q⟩ := h
        refine .inr ⟨p, p', us, ws, rfl, rfl, .inl (.inl h1), .inl (.inl h2), fun z => ?_, by rw [← r1.length, ← r2.length]; exact n2, fun z => ?_, fun z l hl => ?_⟩
        · subst z; have := r1.length; apply n1; exact List.eq_nil_of_length_eq_zero (by simpa using this)
        · subst z
          have : ys = [] := List.eq_nil_of_length_eq_zero (by simpa using r2.length)
          subst this
          rw [List.append_nil] at q
          exact f _ m q _ H (Ts.refl _ _) (.tup h1 r1) rh
        · exact f _ m q _ _ (Ts.new hl) (.tup upd_same (Reps.mono (Ts.new hl) _ _ (r1.append r2))) (rh.new hl)
def rdI (C : Int → Int → Prop) (g : Int → Int → Int) : DR2 := fun x y m Q => match x, y with
  | .int i, .int j => C i j ∧ Q (.int (g i j)) m
  | _, _ => False
theorem opl_I {K : PySem.W.Frag} {C : Int → Int → Prop} {g : Int → Int → Int} : OpL K (rI C fun i j => .int (g i j)) (rdI C g) := by
  intro x y vx vy H m Q' Q rx ry rh h f
  cases x <;> cases y <;> first | exact h.elim | skip
  cases rx; cases ry
  exact ⟨_, _, rfl, rfl, h.1, f _ m h.2 _ H (Ts.refl _ _) (.int _) rh⟩
theorem opl_I0 {K : PySem.W.Frag} {g : Int → Int → Int} : OpL K (rI0 fun i j => .int (g i j)) (rdI (fun _ _ => True) g) := by
  intro x y vx vy H m Q' Q rx ry rh h f
  cases x <;> cases y <;> first | exact h.elim | skip
  cases rx; cases ry
  exact ⟨_, _, rfl, rfl, f _ m h.2 _ H (Ts.refl _ _) (.int _) rh⟩
theorem de_sub (ha : DE X a ta) (hb : DE X b tb) : DE X (.BinOp a .Sub b pos) (dOp (rdI (fun _ _ => True) (· - ·)) ta tb) := (pe_op op_sub ha hb).imp (up_op opl_I0)
theorem de_mul (ha : DE X a ta) (hb : DE X b tb) : DE X (.BinOp a .Mult b pos) (dOp (rdI CMul (· * ·)) ta tb) := (pe_op op_mul ha hb).imp (up_op opl_I)
theorem de_xor (ha : DE X a ta) (hb : DE X b tb) : DE X (.BinOp a .BitXor b pos) (dOp (rdI (fun _ _ => True) Builtin.bitXor) ta tb) := (pe_op op_xor ha hb).imp (up_op opl_I0)
theorem de_mod (ha : DE X a ta) (hb : DE X b tb) : DE X (.BinOp a .Mod b pos) (dOp (rdI (fun _ j => 0 < j) (· % ·)) ta tb) := (pe_op op_mod ha hb).imp (up_op opl_I)
theorem de_pow (ha : DE X a ta) (hb : DE X b tb) : DE X (.BinOp a .Pow b pos) (dOp (rdI CPow (fun i j => i ^ j.toNat)) ta tb) := (pe_op op_pow ha hb).imp (up_op opl_I)
theorem de_neg (ha : DE X a ta) : DE X (.UnaryOp .USub a pos) (dUn (fun x m Q => match x with | .int i => Q (.int (-i)) m | _ => False) ta) := by
  refine (pe_un un_neg ha).imp (up_un ?_)
  intro x vx H m Q' Q rx rh h f
  cases x <;> first | exact h.elim | skip
  cases rx
  exact ⟨_, rfl, f _ m h _ H (Ts.refl _ _) (.int _) rh⟩

/-! ### comparisons, as values and as tests -/
def rdB (p : Int → Int → Bool) : DR2 := fun x y m Q => match x, y with
  | .int i, .int j => Q (.bl (p i j)) m
  | _, _ => False
theorem opl_B {K : PySem.W.Frag} {p : Int → Int → Bool} : OpL K (rI0 fun i j => .bl (p i j)) (rdB p) := by
  intro x y vx vy H m Q' Q rx ry rh h f
  cases x <;> cases y <;> first | exact h.elim | skip
  cases rx; cases ry
  exact ⟨_, _, rfl, rfl, f _ m h _ H (Ts.refl _ _) (.bl _) rh⟩
/-- a comparison operator's rule -/
structure DC (X : Cx) (op : CmpOp) (R : DR2) : Prop where
  ex : ∃ r, OpR X (compareOp op) r ∧ OpL X.K r R
theorem dc_lt : DC X .Lt (rdB fun i j => decide (i < j)) := ⟨_, op_lt, opl_B⟩
theorem dc_le : DC X .LtE (rdB fun i j => decide (i ≤ j)) := ⟨_, op_le, opl_B⟩
theorem dc_gt : DC X .Gt (rdB fun i j => decide (j < i)) := ⟨_, op_gt, opl_B⟩
theorem dc_ge : DC X .GtE (rdB fun i j => decide (j ≤ i)) := ⟨_, op_ge, opl_B⟩
theorem dc_eq {k : Nat} (hr : Room k X.A) : DC X .Eq (rdEq false) := ⟨_, op_eq.or (op_eqD hr.units), opl_eq⟩
theorem dc_ne {k : Nat} (hr : Room k X.A) : DC X .NotEq (rdEq true) := ⟨_, op_ne.or (op_neD hr.units), opl_ne⟩
def rdIsN (neg : Bool) : DR2 := fun x y m Q => match y with
  | .non => (match x with | .non => Q (.bl !neg) m | _ => Q (.bl neg) m)
  | _ => False
theorem dc_isN : DC X .Is (rdIsN false) := ⟨_, op_isN, fun x y vx vy H m Q' Q rx ry rh h f => by
  cases y <;> first | exact h.elim | skip
  cases ry
  refine ⟨rfl, ?_⟩
  cases x <;> cases rx <;> exact f _ m h _ H (Ts.refl _ _) (.bl _) rh⟩
theorem dc_notN : DC X .IsNot (rdIsN true) := ⟨_, op_notN, fun x y vx vy H m Q' Q rx ry rh h f => by
  cases y <;> first | exact h.elim | skip
  cases ry
  refine ⟨rfl, ?_⟩
  cases x <;> cases rx <;> exact f _ m h _ H (Ts.refl _ _) (.bl _) rh⟩
/-- membership in a tuple or list of flat things -/
def flatD : D → Bool
  | .non => true | .bl _ => true | .int _ => true | .str _ => true | _ => false
def eqFl : D → D → Bool
  | .non, .non => true
  | .bl a, .bl b => a == b
  | .bl a, .int b => (if a then 1 else 0) == b
  | .int a, .bl b => a == (if b then 1 else 0)
  | .int a, .int b => a == b
  | .str a, .str b => a == b
  | _, _ => false
def SeqD (m : M) (y : D) (ds : List D) : Prop := y = .tup ds ∨ y = .ktup ds ∨ ∃ a, y = .ref a ∧ m.mu a = some (.lst ds)
theorem SeqD.of {K : PySem.W.Frag} {H : Hp} {m : M} {y : D} {ds : List D} {v : V} (h : SeqD m y ds) (r : Rep K H y v) (rh : RelH K H m) : ∃ p xs, v = .ref p ∧ (SqL K H p xs ∨ SqT K H p xs) ∧ Reps K H ds xs := by
  rcases h with rfl | rfl | ⟨a, rfl, h⟩
  · cases r with
    | tup h1 h2 => exact ⟨_, _, rfl, .inr (.inl (.inl h1)), h2⟩
  · cases r with
    | ktup h1 h2 => exact ⟨_, _, rfl, .inr h1, h2⟩
  · cases r
    obtain ⟨xs, e, rs⟩ := rh.obj _ _ h
    exact ⟨_, _, rfl, .inl (SqL.of e), rs⟩
def rdIn (neg : Bool) : DR2 := fun x y m Q => ∃ ds, SeqD m y ds ∧ flatD x = true ∧ ds.all flatD = true ∧ Q (.bl (if neg then !(ds.any fun d => eqFl d x) else ds.any fun d => eqFl d x)) m
theorem flat_v {K : PySem.W.Frag} {H : Hp} {d : D} {v : V} (h : flatD d = true) (r : Rep K H d v) : flatV v = true := by
  cases r <;> first | rfl | (simp [flatD] at h)
theorem eq_v {K : PySem.W.Frag} {H : Hp} {d e : D} {v u : V} (h : flatD d = true) (h' : flatD e = true) (r : Rep K H d v) (r' : Rep K H e u) : eqV v u = eqFl d e := by
  cases r <;> cases r' <;> first | rfl | (simp [flatD] at h) | (simp [flatD] at h')
theorem flat_all {K : PySem.W.Frag} {H : Hp} : ∀ {ds : List D} {vs : List V}, ds.all flatD = true → Reps K H ds vs → vs.all flatV = true
  | [], _, _, r => by cases r; rfl
  | d :: ds, _, h, r => by
    cases r with
    | cons r1 r2 =>
      simp only [List.all_cons, Bool.and_eq_true] at h ⊢
      exact ⟨flat_v h.1 r1, flat_all h.2 r2⟩
theorem in_all {K : PySem.W.Frag} {H : Hp} {x : D} {v : V} (hx : flatD x = true) (rx : Rep K H x v) : ∀ {ds : List D} {vs : List V}, ds.all flatD = true → Reps K H ds vs → inV v vs = ds.any fun d => eqFl d x
  | [], _, _, r => by cases r; rfl
  | d :: ds, _, h, r => by
    cases r with
    | cons r1 r2 =>
      simp only [List.all_cons, Bool.and_eq_true] at h
      have ih := in_all hx rx h.2 r2
      unfold inV at ih ⊢
      rw [List.any_cons, List.any_cons, ih, eq_v h.1 hx r1 rx]
theorem opl_in {K : PySem.W.Frag} (neg : Bool) : OpL K (rIn K neg) (rdIn neg) := fun x y vx vy H m Q' Q rx ry rh ⟨ds, hs, fx, fs, q⟩ f => by
  obtain ⟨p, xs, rfl, h, rs⟩ := hs.of ry rh
  refine ⟨p, xs, rfl, h, flat_v fx rx, flat_all fs rs, ?_⟩
  rw [in_all fx rx fs rs]
  exact f _ m q _ H (Ts.refl _ _) (.bl _) rh
theorem dc_in : DC X .In (rdIn false) := ⟨_, op_in_seq, opl_in false⟩
theorem dc_notIn : DC X .NotIn (rdIn true) := ⟨_, op_notIn_seq, opl_in true⟩
/-- one sign in a text -/
def rdInS : DR2 := fun x y m Q => ∃ (c : Nat) (z : Str), x = .str ⟨#[c]⟩ ∧ y = .str z ∧ Q (.bl (decide (c ∈ z.cps.toList))) m
theorem dc_inS : DC X .In rdInS := ⟨_, op_in_sign, fun x y vx vy H m Q' Q rx ry rh ⟨c, z, e1, e2, q⟩ f => by
  subst e1 e2; cases rx; cases ry
  exact ⟨c, z, rfl, rfl, f _ m q _ H (Ts.refl _ _) (.bl _) rh⟩⟩

theorem de_cmp {op : CmpOp} {R : DR2} (ho : DC X op R) (ha : DE X a ta) (hb : DE X b tb) (hm : behindInMarks op b = false := by first | exact nobehind _ (by decide) (by decide) | rfl) : DE X (.Compare a [op] [b] pos) (dOp R ta tb) := by
  obtain ⟨r, h1, h2⟩ := ho.ex
  exact (pe_cmpR h1 ha hb hm).imp (up_op h2)
def dB (t : DTr) : DTT := fun δ m Q => t δ m fun x m1 => ∃ c, x = .bl c ∧ Q c m1
theorem up_B {K : PySem.W.Frag} {t : DTr} : ∀ σ H Q, upB K (dB t) σ H Q → up K t σ H (fun x H' => ∃ k, x = .bl k ∧ Q k H') := fun σ H Q ⟨δ, m, Q', rs, rh, q, f⟩ =>
  ⟨δ, m, _, rs, rh, q, fun d m1 ⟨c, e, q1⟩ v H' t1 r1 rh1 => by subst e; cases r1; exact ⟨c, rfl, f c m1 q1 H' t1 rh1⟩⟩
theorem dt_cmp {op : CmpOp} {R : DR2} (ho : DC X op R) (ha : DE X a ta) (hb : DE X b tb) (hm : behindInMarks op b = false := by first | exact nobehind _ (by decide) (by decide) | rfl) : DTst X (.Compare a [op] [b] pos) (dB (dOp R ta tb)) := by
  obtain ⟨r, h1, h2⟩ := ho.ex
  exact (pt_cmpR h1 ha hb hm).imp fun σ H Q q => up_op h2 σ H _ (up_B σ H Q q)
theorem dt_val (h : DE X e te) (he : ∀ whole, isTrue e X.env whole = (do let v ← whole; standAt e.pos; holding [v] (truthy v)) := by intro _; rfl) : DTst X e (dB te) := (pt_val h he).imp up_B
def dChain (R R' : DR2) (ta tb tc : DTr) : DTr := fun δ m Q => ta δ m fun x m1 => tb δ m1 fun y m2 => R x y m2 fun z m3 => ∃ k, z = .bl k ∧ if k = true then tc δ m3 fun w m4 => R' y w m4 Q else Q (.bl false) m3
theorem up_chain {K : PySem.W.Frag} {r r' : R2} {R R' : DR2} {tc : DTr} (h2 : OpL K r R) (h2' : OpL K r' R') : ∀ σ H Q, up K (dChain R R' ta tb tc) σ H Q → tChain r r' (up K ta) (up K tb) (up K tc) σ H Q := fun σ H Q ⟨δ, m, Q', rs, rh, q, f⟩ => by
  refine ⟨δ, m, _, rs, rh, q, fun x m1 q1 v H1 t1 r1 rh1 => ⟨δ, m1, _, rs.mono t1, rh1, q1, fun y m2 q2 u H2 t2 r2 rh2 => ?_⟩⟩
  refine h2 x y v u H2 m2 _ _ (Rep.mono t2 _ _ r1) r2 rh2 q2 fun z m3 ⟨k, ez, qk⟩ vz H3 t3 r3 rh3 => ?_
  subst ez; cases r3
  refine ⟨k, rfl, ?_⟩
  cases k with
  | true =>
    rw [if_pos rfl] at qk ⊢
    refine ⟨δ, m3, _, rs.mono ((t1.trans t2).trans t3), rh3, qk, fun w m4 q4 vw H4 t4 r4 rh4 => ?_⟩
    exact h2' y w u vw H4 m4 Q' Q (Rep.mono (t3.trans t4) _ _ r2) r4 rh4 q4 (f.mono (((t1.trans t2).trans t3).trans t4))
  | false =>
    rw [if_neg Bool.false_ne_true] at qk ⊢
    exact f _ m3 qk _ H3 ((t1.trans t2).trans t3) (.bl _) rh3
theorem de_chain {op op' : CmpOp} {R R' : DR2} {c : Expr} {tc : DTr} (ho : DC X op R) (ho' : DC X op' R') (ha : DE X a ta) (hb : DE X b tb) (hc : DE X c tc)
    (hm : lastMarks [op, op'] [b, c] = false := by with_unfolding_all rfl) : DE X (.Compare a [op, op'] [b, c] pos) (dChain R R' ta tb tc) := by
  obtain ⟨r, h1, h2⟩ := ho.ex
  obtain ⟨r', h1', h2'⟩ := ho'.ex
  exact (pe_chain h1 h1' ha hb hc hm).imp (up_chain h2 h2')
theorem dt_chain {op op' : CmpOp} {R R' : DR2} {c : Expr} {tc : DTr} (ho : DC X op R) (ho' : DC X op' R') (ha : DE X a ta) (hb : DE X b tb) (hc : DE X c tc)
    (hm : lastMarks [op, op'] [b, c] = false := by with_unfolding_all rfl) : DTst X (.Compare a [op, op'] [b, c] pos) (dB (dChain R R' ta tb tc)) := by
  obtain ⟨r, h1, h2⟩ := ho.ex
  obtain ⟨r', h1', h2'⟩ := ho'.ex
  exact (pt_chain h1 h1' ha hb hc hm).imp fun σ H Q q => up_chain h2 h2' σ H _ (up_B σ H Q q)

/-! ### and, or, not; if-expressions -/
variable {tA tB : DTT} {rest : List Expr}
def dNot (t : DTT) : DTT := fun δ m Q => t δ m fun c m1 => Q (!c) m1
theorem dt_not (ha : DTst X a tA) : DTst X (.UnaryOp .Not a pos) (dNot tA) := (pt_not ha).imp fun σ H Q ⟨δ, m, Q', rs, rh, q, f⟩ =>
  ⟨δ, m, _, rs, rh, q, fun c m1 q1 H1 t1 rh1 => f _ m1 q1 H1 t1 rh1⟩
def dAnd (t u : DTT) : DTT := fun δ m Q => t δ m fun c m1 => if c = true then u δ m1 Q else Q false m1
def dOr (t u : DTT) : DTT := fun δ m Q => t δ m fun c m1 => if c = true then Q true m1 else u δ m1 Q
theorem dw_and1 (ha : DTst X a tA) : DTW X (.BoolOp .And [a] pos) tA := pw_and1 ha
theorem dw_or1 (ha : DTst X a tA) : DTW X (.BoolOp .Or [a] pos) tA := pw_or1 ha
theorem dw_and (ha : DTst X a tA) (hb : DTW X (.BoolOp .And (b :: rest) pos) tB) : DTW X (.BoolOp .And (a :: b :: rest) pos) (dAnd tA tB) := (pw_and ha hb).imp fun σ H Q ⟨δ, m, Q', rs, rh, q, f⟩ =>
  ⟨δ, m, _, rs, rh, q, fun c m1 q1 H1 t1 rh1 => by
    cases c with
    | true => exact ⟨δ, m1, Q', rs.mono t1, rh1, q1, fun c m2 q2 H2 t2 rh2 => f c m2 q2 H2 (t1.trans t2) rh2⟩
    | false => exact f _ m1 q1 H1 t1 rh1⟩
theorem dw_or (ha : DTst X a tA) (hb : DTW X (.BoolOp .Or (b :: rest) pos) tB) : DTW X (.BoolOp .Or (a :: b :: rest) pos) (dOr tA tB) := (pw_or ha hb).imp fun σ H Q ⟨δ, m, Q', rs, rh, q, f⟩ =>
  ⟨δ, m, _, rs, rh, q, fun c m1 q1 H1 t1 rh1 => by
    cases c with
    | false => exact ⟨δ, m1, Q', rs.mono t1, rh1, q1, fun c m2 q2 H2 t2 rh2 => f c m2 q2 H2 (t1.trans t2) rh2⟩
    | true => exact f _ m1 q1 H1 t1 rh1⟩
theorem dt_w {t : DTT} (h : DTW X e t) : DTst X e t := h.pt
def dAndV (ta tb : DTr) : DTr := fun δ m Q => ta δ m fun x m1 => ∃ c, x = .bl c ∧ if c = true then tb δ m1 Q else Q (.bl false) m1
def dOrV (ta tb : DTr) : DTr := fun δ m Q => ta δ m fun x m1 => ∃ c, x = .bl c ∧ if c = true then Q (.bl true) m1 else tb δ m1 Q
theorem de_one {op} (h : DE X a ta) : DE X (.BoolOp op [a] pos) ta := pe_one h
theorem de_and (ha : DE X a ta) (hb : DE X (.BoolOp .And (b :: rest) pos) tb) : DE X (.BoolOp .And (a :: b :: rest) pos) (dAndV ta tb) := (pe_and ha hb).imp fun σ H Q ⟨δ, m, Q', rs, rh, q, f⟩ =>
  ⟨δ, m, _, rs, rh, q, fun x m1 ⟨c, e, q1⟩ v H1 t1 r1 rh1 => by
    subst e; cases r1
    refine ⟨c, rfl, ?_⟩
    cases c with
    | true => exact ⟨δ, m1, Q', rs.mono t1, rh1, q1, f.mono t1⟩
    | false => exact f _ m1 q1 _ H1 t1 (.bl _) rh1⟩
theorem de_or (ha : DE X a ta) (hb : DE X (.BoolOp .Or (b :: rest) pos) tb) : DE X (.BoolOp .Or (a :: b :: rest) pos) (dOrV ta tb) := (pe_or ha hb).imp fun σ H Q ⟨δ, m, Q', rs, rh, q, f⟩ =>
  ⟨δ, m, _, rs, rh, q, fun x m1 ⟨c, e, q1⟩ v H1 t1 r1 rh1 => by
    subst e; cases r1
    refine ⟨c, rfl, ?_⟩
    cases c with
    | false => exact ⟨δ, m1, Q', rs.mono t1, rh1, q1, f.mono t1⟩
    | true => exact f _ m1 q1 _ H1 t1 (.bl _) rh1⟩
theorem de_not (ha : DE X a ta) : DE X (.UnaryOp .Not a pos) (fun δ m Q => ta δ m fun x m1 => ∃ c, x = .bl c ∧ Q (.bl !c) m1) := (pe_not ha).imp fun σ H Q ⟨δ, m, Q', rs, rh, q, f⟩ =>
  ⟨δ, m, _, rs, rh, q, fun x m1 ⟨c, e, q1⟩ v H1 t1 r1 rh1 => by
    subst e; cases r1
    exact ⟨c, rfl, f _ m1 q1 _ H1 t1 (.bl _) rh1⟩⟩
def dIf (t : DTT) (ta tb : DTr) : DTr := fun δ m Q => t δ m fun c m1 => if c = true then ta δ m1 Q else tb δ m1 Q
theorem de_ifE {c : Expr} (hc : DTst X c tA) (ha : DE X a ta) (hb : DE X b tb) : DE X (.IfExp c a b pos) (dIf tA ta tb) := (pe_ifExp hc ha hb).imp fun σ H Q ⟨δ, m, Q', rs, rh, q, f⟩ =>
  ⟨δ, m, _, rs, rh, q, fun c m1 q1 H1 t1 rh1 => by
    cases c with
    | true => exact ⟨δ, m1, Q', rs.mono t1, rh1, q1, f.mono t1⟩
    | false => exact ⟨δ, m1, Q', rs.mono t1, rh1, q1, f.mono t1⟩⟩
end
end DL

namespace DL
open PySem PySem.Spec PyProof.Rows L2
section
variable {X : Cx} {a b e o : Expr} {ta tb te to : DTr} {es : List Expr} {t : DTA} {pos apos : Pos}

/-! ### subscripts and slices -/
def rdIx : DR2 := fun x y m Q => match x, y with
  | .tup ds, .int i => ∃ d, atI ds i = some d ∧ Q d m
  | .ktup ds, .int i => ∃ d, atI ds i = some d ∧ Q d m
  | .ref a, .int i => ∃ ds d, m.mu a = some (.lst ds) ∧ atI ds i = some d ∧ Q d m
  | .str z, .int i => ∃ c, z.length ≤ sizeLine ∧ atI z.cps.toList i = some c ∧ Q (.str ⟨#[c]⟩) m
  | _, _ => False
theorem atI_rep {K : PySem.W.Frag} {H : Hp} {ds : List D} {vs : List V} {i : Int} {d : D} (r : Reps K H ds vs) (h : atI ds i = some d) : ∃ v, atI vs i = some v ∧ Rep K H d v := by
  unfold atI at h ⊢
  rw [← r.length]
  cases e : ixN ds.length i with
  | none => rw [e] at h; cases h
  | some j =>
    rw [e] at h
    exact r.get h
theorem opl_ix {K : PySem.W.Frag} : OpL K (rIx K) rdIx := by
  intro x y vx vy H m Q' Q rx ry rh h f
  cases x <;> cases y <;> first | exact h.elim | skip
  · cases rx; cases ry
    obtain ⟨c, h1, h2, q⟩ := h
    exact .inr (.inr ⟨_, _, c, rfl, rfl, h1, h2, f _ m q _ H (Ts.refl _ _) (.str _) rh⟩)
  · cases rx; cases ry
    obtain ⟨ds, d, h1, h2, q⟩ := h
    obtain ⟨xs, e, rs⟩ := rh.obj _ _ h1
    obtain ⟨v, e2, rv⟩ := atI_rep rs h2
    exact .inl ⟨_, xs, _, v, rfl, rfl, SqL.of e, e2, f _ m q _ H (Ts.refl _ _) rv rh⟩
  · cases ry
    cases rx with
    | tup h1 rs =>
      obtain ⟨d, h2, q⟩ := h
      obtain ⟨v, e2, rv⟩ := atI_rep rs h2
      exact .inr (.inl ⟨_, _, _, v, rfl, rfl, .inl (.inl h1), e2, f _ m q _ H (Ts.refl _ _) rv rh⟩)
  · cases ry
    cases rx with
    | ktup h1 rs =>
      obtain ⟨d, h2, q⟩ := h
      obtain ⟨v, e2, rv⟩ := atI_rep rs h2
      exact .inr (.inl ⟨_, _, _, v, rfl, rfl, h1, e2, f _ m q _ H (Ts.refl _ _) rv rh⟩)
theorem de_ix (ha : DE X a ta) (hb : DE X b tb) (hs : PlainIx b := by exact fun _ _ => rfl) : DE X (.Subscript a b pos) (dOp rdIx ta tb) := (pe_ix ix_seq ha hb hs).imp (up_op opl_ix)

abbrev DTO := Sl → M → (Option Int → M → Prop) → Prop
def FitsO (K : PySem.W.Frag) (H : Hp) (Q' : Option Int → M → Prop) (Q : Option Int → Hp → Prop) : Prop := ∀ b m, Q' b m → ∀ H', Ts K H H' → RelH K H' m → Q b H'
def upO (K : PySem.W.Frag) (t : DTO) : TO := fun σ H Q => ∃ δ m Q', RelS K H δ σ ∧ RelH K H m ∧ t δ m Q' ∧ FitsO K H Q' Q
def DPo (X : Cx) (e : Option Expr) (t : DTO) : Prop := PO X e (upO X.K t)
theorem _root_.L2.PO.imp {X : Cx} {e : Option Expr} {t t' : TO} (h : PO X e t) (i : ∀ σ H Q, t' σ H Q → t σ H Q) : PO X e t' := ⟨fun pins s σ H Q I q => h.run pins s σ H Q I (i σ H Q q)⟩
def dNoPart : DTO := fun _ m Q => Q none m
def dPart (t : DTr) : DTO := fun δ m Q => t δ m fun x m1 => ∃ i, x = .int i ∧ Q (some i) m1
theorem dpo_none : DPo X none dNoPart := po_none.imp fun σ H Q ⟨δ, m, Q', rs, rh, q, f⟩ => f none m q H (Ts.refl _ _) rh
theorem dpo_some (h : DE X e te) : DPo X (some e) (dPart te) := (po_some h).imp fun σ H Q ⟨δ, m, Q', rs, rh, q, f⟩ =>
  ⟨δ, m, _, rs, rh, q, fun x m1 ⟨i, e, q1⟩ v H1 t1 r1 rh1 => by subst e; cases r1; exact ⟨i, rfl, f _ m1 q1 H1 t1 rh1⟩⟩
def cutL {α : Type} (xs : List α) (lo hi : Option Int) : List α := (xs.drop (HT.sIx xs.length 0 lo)).take (HT.sIx xs.length xs.length hi - HT.sIx xs.length 0 lo)
theorem cut_rep {K : PySem.W.Frag} {H : Hp} {ds : List D} {vs : List V} (lo hi : Option Int) (r : Reps K H ds vs) : Reps K H (cutL ds lo hi) (cutV vs lo hi) := by
  unfold cutL cutV
  rw [← r.length]
  exact (r.drop _).take _
def rdSl (x : D) (lo hi : Option Int) (m : M) (Q : DK) : Prop := match x with
  | .tup ds => ¬ (HT.sIx ds.length 0 lo = 0 ∧ HT.sIx ds.length ds.length hi = ds.length) ∧ Q (.tup (cutL ds lo hi)) m
  | .ref a => ∃ ds, m.mu a = some (.lst ds) ∧ ∀ p, m.mu p = none → Q (.ref p) (m.set p (.lst (cutL ds lo hi)))
  | .str z => z.length ≤ sizeLine ∧ Q (.str (cutS z lo hi)) m
  | _ => False
def dSl (te : DTr) (tl th : DTO) : DTr := fun δ m Q => te δ m fun x m1 => tl δ m1 fun l m2 => th δ m2 fun h m3 => rdSl x l h m3 Q
theorem de_slice {lo hi : Option Expr} {tl th : DTO} {p2 : Pos} (he : DE X e te) (hl : DPo X lo tl) (hu : DPo X hi th) : DE X (.Subscript e (.Slice lo hi none p2) pos) (dSl te tl th) := by
  refine (pe_slice ((sl_list.or sl_tup).or sl_str) he hl hu).imp fun σ H Q ⟨δ, m, Q', rs, rh, q, f⟩ => ?_
  refine ⟨δ, m, _, rs, rh, q, fun x m1 q1 v H1 t1 r1 rh1 => ⟨δ, m1, _, rs.mono t1, rh1, q1, fun l m2 q2 H2 t2 rh2 => ⟨δ, m2, _, rs.mono (t1.trans t2), rh2, q2, fun h m3 q3 H3 t3 rh3 => ?_⟩⟩⟩
  have r3 := Rep.mono (t2.trans t3) _ _ r1
  have f3 := f.mono ((t1.trans t2).trans t3)
  cases x <;> first | exact q3.elim | skip
  · cases r3
    exact .inr ⟨_, rfl, q3.1, f3 _ m3 q3.2 _ H3 (Ts.refl _ _) (.str _) rh3⟩
  · cases r3
    obtain ⟨ds, e, q⟩ := q3
    obtain ⟨xs, e2, rr⟩ := rh3.obj _ _ e
    exact .inl (.inl ⟨_, xs, rfl, SqL.of e2, fun p hp => f3 _ _ (q p (rh3.fresh hp)) _ _ (Ts.new hp) (.ref p) (rh3.newO hp ⟨_, upd_same, Reps.mono (Ts.new hp) _ _ (cut_rep l h rr)⟩)⟩)
  · cases r3 with
    | tup e rr =>
      obtain ⟨n, q⟩ := q3
      exact .inl (.inr ⟨_, _, rfl, .inl (.inl e), by rw [← rr.length]; exact n, fun p hp => f3 _ m3 q _ _ (Ts.new hp) (.tup upd_same (Reps.mono (Ts.new hp) _ _ (cut_rep l h rr))) (rh3.new hp)⟩)

/-! ### built-in functions -/
def lenD (m : M) (x : D) (n : Nat) : Prop := match x with
  | .str z => z.length ≤ sizeLine ∧ n = z.length
  | .tup ds => n = ds.length
  | .ktup ds => n = ds.length
  | .ref a => ∃ ds, m.mu a = some (.lst ds) ∧ n = ds.length
  | _ => False
def rdLen : DRA := fun xs m Q => ∃ x n, xs = [x] ∧ lenD m x n ∧ Q (.int n) m
theorem Reps.one {K : PySem.W.Frag} {H : Hp} {d : D} {vs : List V} (r : Reps K H [d] vs) : ∃ v, vs = [v] ∧ Rep K H d v := by
  cases r with
  | cons r1 r2 => cases r2; exact ⟨_, rfl, r1⟩
theorem Reps.two {K : PySem.W.Frag} {H : Hp} {d e : D} {vs : List V} (r : Reps K H [d, e] vs) : ∃ v u, vs = [v, u] ∧ Rep K H d v ∧ Rep K H e u := by
  cases r with
  | cons r1 r2 => obtain ⟨u, rfl, r3⟩ := r2.one; exact ⟨_, _, rfl, r1, r3⟩
theorem len_v {K : PySem.W.Frag} {H : Hp} {m : M} {x : D} {v : V} {n : Nat} (h : lenD m x n) (r : Rep K H x v) (rh : RelH K H m) : LenV K v H n := by
  cases r with
  | str z => exact h
  | tup e rr => exact .inr ⟨_, .inl (.inl e), by rw [← rr.length]; exact h⟩
  | ktup e rr => exact .inr ⟨_, e, by rw [← rr.length]; exact h⟩
  | ref a =>
    obtain ⟨ds, e, hn⟩ := h
    obtain ⟨xs, e2, rr⟩ := rh.obj _ _ e
    exact .inl ⟨xs, SqL.of e2, by rw [← rr.length]; exact hn⟩
  | _ => exact h.elim
theorem argl_len {K : PySem.W.Frag} : ArgL K (fun xs H Q => ∃ x n, xs = [x] ∧ LenV K x H n ∧ Q (.int n) H) rdLen := fun xs vs H m Q' Q r rh ⟨x, n, e, hl, q⟩ f => by
  subst e
  obtain ⟨v, rfl, rv⟩ := r.one
  exact ⟨v, n, rfl, len_v hl rv rh, f _ m q _ H (Ts.refl _ _) (.int _) rh⟩
theorem de_blt {id : String} {x : Str} {p : Pos} {r : List V → Hp → VK → Prop} {R : DRA} (hc : CallR X (.builtin id) r) (hl : ArgL X.K r R) (hg : Gl X x) (hm : X.mg x = none) (hv : bootBuiltins x = some (.builtin id)) (ha : DA X (e :: es) t) (hn : x ≠ "__name__" := by decide) (hdb : (x == ("__debug__" : Str)) = false := by decide)
    (he : starEach (e :: es) X.env = (false, eval e X.env) :: starEach es X.env := by rfl) (hpl : (backTo pos (starEach es X.env)).any (·.1) = false := by rfl) : DE X (.Call (.Name x p) (e :: es) [] pos) (dArgs R t) :=
  (pe_callB hc hg hm hv ha hn hdb he hpl).imp (up_args hl)
theorem de_bty {T : String} {x : Str} {p : Pos} {r : List V → Hp → VK → Prop} {R : DRA} (hc : CallR X (.type T) r) (hl : ArgL X.K r R) (hg : Gl X x) (hm : X.mg x = none) (hv : bootBuiltins x = some (.type T)) (ha : DA X (e :: es) t) (hn : x ≠ "__name__" := by decide) (hdb : (x == ("__debug__" : Str)) = false := by decide)
    (he : starEach (e :: es) X.env = (false, eval e X.env) :: starEach es X.env := by rfl) (hpl : (backTo pos (starEach es X.env)).any (·.1) = false := by rfl) : DE X (.Call (.Name x p) (e :: es) [] pos) (dArgs R t) :=
  (pe_callTy hc hg hm hv ha hn hdb he hpl).imp (up_args hl)
theorem de_len {p : Pos} (hg : Gl X "len") (hm : X.mg "len" = none) (ha : DA X (e :: es) t)
    (he : starEach (e :: es) X.env = (false, eval e X.env) :: starEach es X.env := by rfl) (hpl : (backTo pos (starEach es X.env)).any (·.1) = false := by rfl) : DE X (.Call (.Name "len" p) (e :: es) [] pos) (dArgs rdLen t) :=
  de_blt call_len argl_len hg hm PySem.boot_len ha (by decide) (by decide) he hpl
def rdStr : DRA := fun xs m Q => ∃ i : Int, xs = [.int i] ∧ i.natAbs.log2 < 1920 ∧ Q (.str (toString i)) m
theorem argl_str {K : PySem.W.Frag} : ArgL K (fun xs H Q => ∃ i : Int, xs = [.int i] ∧ i.natAbs.log2 < 1920 ∧ Q (.str (toString i)) H) rdStr := fun xs vs H m Q' Q r rh ⟨i, e, hl, q⟩ f => by
  subst e
  obtain ⟨v, rfl, rv⟩ := r.one
  cases rv
  exact ⟨i, rfl, hl, f _ m q _ H (Ts.refl _ _) (.str _) rh⟩
/-- list(xs), tuple(xs) of a list or a tuple -/
def rdList : DRA := fun xs m Q => ∃ x ds, xs = [x] ∧ SeqD m x ds ∧ ∀ p, m.mu p = none → Q (.ref p) (m.set p (.lst ds))
theorem argl_list {K : PySem.W.Frag} : ArgL K (fun xs H Q => ∃ p ys, xs = [.ref p] ∧ (SqL K H p ys ∨ SqT K H p ys) ∧ ∀ l, H l = none → Q (.ref l) (upd H l (.lst ys))) rdList := fun xs vs H m Q' Q r rh ⟨x, ds, e, hs, q⟩ f => by
  subst e
  obtain ⟨v, rfl, rv⟩ := r.one
  obtain ⟨p, ys, rfl, h, rr⟩ := hs.of rv rh
  exact ⟨p, ys, rfl, h, fun l hl => f _ _ (q l (rh.fresh hl)) _ _ (Ts.new hl) (.ref l) (rh.newO hl ⟨ys, upd_same, Reps.mono (Ts.new hl) _ _ rr⟩)⟩
def rdTuple : DRA := fun xs m Q => ∃ x ds, xs = [x] ∧ ((∃ a, x = .ref a ∧ m.mu a = some (.lst ds)) ∨ x = .tup ds) ∧ Q (.tup ds) m
theorem argl_tuple {K : PySem.W.Frag} : ArgL K (fun xs H Q => ∃ p ys, xs = [.ref p] ∧ ((SqL K H p ys ∧ ∀ l, H l = none → Q (.ref l) (upd H l (.tup ys))) ∨ (SqT K H p ys ∧ Q (.ref p) H))) rdTuple := fun xs vs H m Q' Q r rh ⟨x, ds, e, hs, q⟩ f => by
  subst e
  obtain ⟨v, rfl, rv⟩ := r.one
  rcases hs with ⟨a, rfl, h⟩ | rfl
  · cases rv
    obtain ⟨ys, e, rr⟩ := rh.obj _ _ h
    exact ⟨_, ys, rfl, .inl ⟨SqL.of e, fun l hl => f _ m q _ _ (Ts.new hl) (.tup upd_same (Reps.mono (Ts.new hl) _ _ rr)) (rh.new hl)⟩⟩
  · cases rv with
    | tup e rr => exact ⟨_, _, rfl, .inr ⟨.inl (.inl e), f _ m q _ H (Ts.refl _ _) (.tup e rr) rh⟩⟩
/-- isinstance(x, T) -/
def tyD (m : M) (x : D) (T : String) : Prop := match x with
  | .non => T = "NoneType" | .bl _ => T = "bool" | .int _ => T = "int" | .str _ => T = "str" | .tup _ => T = "tuple"
  | .ktup _ => False
  | .ref a => (∃ ds, m.mu a = some (.lst ds) ∧ T = "list") ∨ (∃ ds, m.mu a = some (.dic ds) ∧ T = "dict") ∨ (∃ ds, m.mu a = some (.dit ds) ∧ T = "dict")
theorem ty_v {K : PySem.W.Frag} {H : Hp} {m : M} {x : D} {v : V} {T : String} (h : tyD m x T) (r : Rep K H x v) (rh : RelH K H m) : TyX K H v (.type T) := by
  cases r with
  | non => cases h; exact .base .non
  | bl b => cases h; exact .base (.bl b)
  | int i => cases h; exact .base (.int i)
  | str s => cases h; exact .base (.str s)
  | tup e rr => cases h; exact .base (.tup e)
  | ktup e rr => exact h.elim
  | ref a =>
    rcases h with ⟨ds, e, rfl⟩ | ⟨ds, e, rfl⟩ | ⟨ds, e, rfl⟩
    · obtain ⟨xs, e2, _⟩ := rh.obj _ _ e; exact .base (.lst e2)
    · obtain ⟨xs, e2, _⟩ := rh.obj _ _ e; exact .base (.dK e2)
    · obtain ⟨xs, e2, _⟩ := rh.obj _ _ e; exact .base (.dT e2)
def dIsi (T : String) (te : DTr) : DTr := fun δ m Q => te δ m fun x m1 => ∃ U b, tyD m1 x U ∧ kitB U T = some b ∧ Q (.bl b) m1
theorem de_isi {T : String} {p p2 : Pos} {y : Str} (hg : Gl X "isinstance") (hm : X.mg "isinstance" = none) (hb : bootBuiltins "isinstance" = some (.builtin "isinstance")) (he : DE X e te) (hT : PE X (.Name y p2) (tC (.ty T)))
    (hs : starEach [e, .Name y p2] X.env = (false, eval e X.env) :: starEach [.Name y p2] X.env := by rfl) (hpl : (backTo pos (starEach [.Name y p2] X.env)).any (·.1) = false := by rfl) : DE X (.Call (.Name "isinstance" p) [e, .Name y p2] [] pos) (dIsi T te) :=
  (pe_callB call_isi hg hm hb (pa_cons he (pa_cons hT pa_nil (by rfl)) hs) (by decide) (by decide) hs hpl).imp fun σ H Q ⟨δ, m, Q', rs, rh, q, f⟩ =>
    ⟨δ, m, _, rs, rh, q, fun x m1 ⟨U, b, hU, hk, q1⟩ v H1 t1 r1 rh1 => ⟨v, .ty T, .type U, .type T, b, rfl, .ty T, ty_v hU r1 rh1, kit_ty hk, f _ m1 q1 _ H1 t1 (.bl _) rh1⟩⟩

/-! ### methods of lists -/
abbrev DRM := D → List D → M → DK → Prop
def MtL (K : PySem.W.Frag) (r : V → List V → Hp → VK → Prop) (R : DRM) : Prop := ∀ (x : D) (ys : List D) (vx : V) (vs : List V) (H : Hp) (m : M) (Q' : DK) (Q : VK), Rep K H x vx → Reps K H ys vs → RelH K H m → R x ys m Q' → Fits K H Q' Q → r vx vs H Q
def isL (m : M) (x : D) : Prop := ∃ a ds, x = .ref a ∧ m.mu a = some (.lst ds)
def dMeth (R : DRM) (to : DTr) (t : DTA) : DTr := fun δ m Q => to δ m fun x m1 => isL m1 x ∧ t δ m1 fun ys m2 => R x ys m2 Q
def dMeth0 (R : DRM) (to : DTr) : DTr := fun δ m Q => to δ m fun x m1 => isL m1 x ∧ R x [] m1 Q
theorem isL_v {K : PySem.W.Frag} {H : Hp} {m : M} {x : D} {v : V} (h : isL m x) (r : Rep K H x v) (rh : RelH K H m) : tyV K "list" v H := by
  obtain ⟨a, ds, rfl, e⟩ := h
  cases r
  obtain ⟨xs, e2, _⟩ := rh.obj _ _ e
  exact .inl ⟨rfl, xs, SqL.of e2⟩
theorem up_bm {K : PySem.W.Frag} {r : V → List V → Hp → VK → Prop} {R : DRM} (h : MtL K r R) : ∀ σ H Q, up K (dMeth R to t) σ H Q → tBM K "list" r (up K to) (upA K t) σ H Q := fun σ H Q ⟨δ, m, Q', rs, rh, q, f⟩ =>
  ⟨δ, m, _, rs, rh, q, fun x m1 ⟨hl, q1⟩ v H1 t1 r1 rh1 => ⟨isL_v hl r1 rh1, δ, m1, _, rs.mono t1, rh1, q1, fun ys m2 q2 vs H2 t2 r2 rh2 => h x ys v vs H2 m2 Q' Q (Rep.mono t2 _ _ r1) r2 rh2 q2 (f.mono (t1.trans t2))⟩⟩
theorem up_bm0 {K : PySem.W.Frag} {r : V → List V → Hp → VK → Prop} {R : DRM} (h : MtL K r R) : ∀ σ H Q, up K (dMeth0 R to) σ H Q → tBM0 K "list" r (up K to) σ H Q := fun σ H Q ⟨δ, m, Q', rs, rh, q, f⟩ =>
  ⟨δ, m, _, rs, rh, q, fun x m1 ⟨hl, q1⟩ v H1 t1 r1 rh1 => ⟨isL_v hl r1 rh1, h x [] v [] H1 m1 Q' Q r1 .nil rh1 q1 (f.mono t1)⟩⟩
def rdAppend : DRM := fun x ys m Q => ∃ a ds y, x = .ref a ∧ ys = [y] ∧ m.mu a = some (.lst ds) ∧ ds.length < sizeLine ∧ Q .non (m.set a (.lst (ds ++ [y])))
theorem mtl_append {K : PySem.W.Frag} : MtL K rAppend rdAppend := fun x ys vx vs H m Q' Q rx rs rh ⟨a, ds, y, ex, ey, h, hz, q⟩ f => by
  subst ex ey
  cases rx
  obtain ⟨v, rfl, rv⟩ := rs.one
  obtain ⟨xs, e, rr⟩ := rh.obj _ _ h
  have t := rh.putTS (o := .lst (xs ++ [v])) h
  exact ⟨a, xs, v, rfl, rfl, e, by rw [← rr.length]; exact hz, f _ _ q _ _ t .non (rh.put h ⟨_, upd_same, Reps.mono t _ _ (rr.append (.cons rv .nil))⟩)⟩
def rdExtend : DRM := fun x ys m Q => ∃ a b ds es, x = .ref a ∧ ys = [.ref b] ∧ m.mu a = some (.lst ds) ∧ m.mu b = some (.lst es) ∧ ds.length + es.length ≤ sizeLine ∧ Q .non (m.set a (.lst (ds ++ es)))
theorem mtl_extend {K : PySem.W.Frag} : MtL K rExtend rdExtend := fun x ys vx vs H m Q' Q rx rs rh ⟨a, b, ds, es, ex, ey, h, hb, hz, q⟩ f => by
  subst ex ey
  cases rx
  obtain ⟨v, rfl, rv⟩ := rs.one
  cases rv
  obtain ⟨xs, e, rr⟩ := rh.obj _ _ h
  obtain ⟨zs, e2, rr2⟩ := rh.obj _ _ hb
  have t := rh.putTS (o := .lst (xs ++ zs)) h
  exact ⟨a, b, xs, zs, rfl, rfl, e, e2, by rw [← rr.length, ← rr2.length]; exact hz, f _ _ q _ _ t .non (rh.put h ⟨_, upd_same, Reps.mono t _ _ (rr.append rr2)⟩)⟩
def rdPopAt : DRM := fun x ys m Q => ∃ a ds i k y, x = .ref a ∧ ys = [.int i] ∧ m.mu a = some (.lst ds) ∧ -(2 ^ 63) ≤ i ∧ i < 2 ^ 63 ∧ seqIndex? i ds.length = some k ∧ ds[k]? = some y ∧ Q y (m.set a (.lst (ds.eraseIdx k)))
theorem mtl_popAt {K : PySem.W.Frag} : MtL K rPopAt rdPopAt := fun x ys vx vs H m Q' Q rx rs rh ⟨a, ds, i, k, y, ex, ey, h, h1, h2, hk, hy, q⟩ f => by
  subst ex ey
  cases rx
  obtain ⟨v, rfl, rv⟩ := rs.one
  cases rv
  obtain ⟨xs, e, rr⟩ := rh.obj _ _ h
  obtain ⟨u, hu, ru⟩ := rr.get hy
  have t := rh.putTS (o := .lst (xs.eraseIdx k)) h
  exact ⟨a, xs, i, k, u, rfl, rfl, e, h1, h2, by rw [← rr.length]; exact hk, hu, f _ _ q _ _ t (Rep.mono t _ _ ru) (rh.put h ⟨_, upd_same, Reps.mono t _ _ (rr.erase k)⟩)⟩
theorem de_meth {id : String} {name : Str} {r : V → List V → Hp → VK → Prop} {R : DRM} (slot : Slot "list" name id) (hty : typeOf (.builtin id) = pure (.type "method_descriptor")) (hm : MtR X id r) (hl : MtL X.K r R) (ho : DE X o to) (ha : DA X (e :: es) t)
    (hbase : attributeBase o name X.env (eval o X.env) = eval o X.env := by rfl)
    (hfew : ((backTo pos (starEach (e :: es) X.env)).all (fun x => !x.1) && (backToKw pos (keywordEach [] X.env)).all (fun x => x.1.isSome)
      && decide ((e :: es).length + ([] : List Keyword).length + (if ([] : List Keyword).isEmpty then 0 else 1) < 30)) = true := by rfl)
    (hline : (apos.endLine == pos.line) = true := by rfl) (hs : starEach (e :: es) X.env = (false, eval e X.env) :: starEach es X.env := by rfl) (hplain : (backTo pos (starEach es X.env)).any (·.1) = false := by rfl) :
    DE X (.Call (.Attribute o name apos) (e :: es) [] pos) (dMeth R to t) := (pe_bm PySem.F.plainAttrs_list slot hty hm ho ha hbase hfew hline hs hplain).imp (up_bm hl)
theorem de_append (ho : DE X o to) (he : DE X e te)
    (hbase : attributeBase o "append" X.env (eval o X.env) = eval o X.env := by rfl)
    (hfew : ((backTo pos (starEach [e] X.env)).all (fun x => !x.1) && (backToKw pos (keywordEach [] X.env)).all (fun x => x.1.isSome)
      && decide ([e].length + ([] : List Keyword).length + (if ([] : List Keyword).isEmpty then 0 else 1) < 30)) = true := by rfl)
    (hline : (apos.endLine == pos.line) = true := by rfl) (hs : starEach [e] X.env = (false, eval e X.env) :: starEach [] X.env := by rfl) (hplain : (backTo pos (starEach [] X.env)).any (·.1) = false := by rfl) :
    DE X (.Call (.Attribute o "append" apos) [e] [] pos) (dMeth rdAppend to (dCons te dNil)) := de_meth PySem.F.slot_list_append PySem.F.type_list_append mt_append mtl_append ho (da_cons he da_nil hs) hbase hfew hline hs hplain
theorem de_extend (ho : DE X o to) (he : DE X e te)
    (hbase : attributeBase o "extend" X.env (eval o X.env) = eval o X.env := by rfl)
    (hfew : ((backTo pos (starEach [e] X.env)).all (fun x => !x.1) && (backToKw pos (keywordEach [] X.env)).all (fun x => x.1.isSome)
      && decide ([e].length + ([] : List Keyword).length + (if ([] : List Keyword).isEmpty then 0 else 1) < 30)) = true := by rfl)
    (hline : (apos.endLine == pos.line) = true := by rfl) (hs : starEach [e] X.env = (false, eval e X.env) :: starEach [] X.env := by rfl) (hplain : (backTo pos (starEach [] X.env)).any (·.1) = false := by rfl) :
    DE X (.Call (.Attribute o "extend" apos) [e] [] pos) (dMeth rdExtend to (dCons te dNil)) := de_meth PySem.F.slot_list_extend PySem.F.type_list_extend mt_extend mtl_extend ho (da_cons he da_nil hs) hbase hfew hline hs hplain
theorem de_popAt (ho : DE X o to) (he : DE X e te)
    (hbase : attributeBase o "pop" X.env (eval o X.env) = eval o X.env := by rfl)
    (hfew : ((backTo pos (starEach [e] X.env)).all (fun x => !x.1) && (backToKw pos (keywordEach [] X.env)).all (fun x => x.1.isSome)
      && decide ([e].length + ([] : List Keyword).length + (if ([] : List Keyword).isEmpty then 0 else 1) < 30)) = true := by rfl)
    (hline : (apos.endLine == pos.line) = true := by rfl) (hs : starEach [e] X.env = (false, eval e X.env) :: starEach [] X.env := by rfl) (hplain : (backTo pos (starEach [] X.env)).any (·.1) = false := by rfl) :
    DE X (.Call (.Attribute o "pop" apos) [e] [] pos) (dMeth rdPopAt to (dCons te dNil)) := de_meth PySem.F.slot_list_pop PySem.F.type_list_pop mt_popAt mtl_popAt ho (da_cons he da_nil hs) hbase hfew hline hs hplain

/-! ### methods of texts -/
def dM1 (R : DRM) (to te : DTr) : DTr := fun δ m Q => to δ m fun x m1 => (∃ z, x = .str z) ∧ te δ m1 fun y m2 => R x [y] m2 Q
theorem up_m1 {K : PySem.W.Frag} {r : V → List V → Hp → VK → Prop} {R : DRM} (h : MtL K r R) : ∀ σ H Q, up K (dM1 R to te) σ H Q → tM1 r (up K to) (up K te) σ H Q := fun σ H Q ⟨δ, m, Q', rs, rh, q, f⟩ =>
  ⟨δ, m, _, rs, rh, q, fun x m1 ⟨⟨z, ez⟩, q1⟩ v H1 t1 r1 rh1 => ⟨by subst ez; cases r1; exact ⟨z, rfl⟩, δ, m1, _, rs.mono t1, rh1, q1, fun y m2 q2 u H2 t2 r2 rh2 => h x [y] v [u] H2 m2 Q' Q (Rep.mono t2 _ _ r1) (.cons r2 .nil) rh2 q2 (f.mono (t1.trans t2))⟩⟩
def rdJoin : DRM := fun x ys m Q => ∃ (z : Str) (y : D) (ss : List Str), x = .str z ∧ ys = [y] ∧ SeqD m y (ss.map D.str) ∧ (ss.map (·.length)).sum + ss.length * z.length ≤ 16777216 ∧ Q (.str (Txt.join z ss)) m
theorem mtl_join {K : PySem.W.Frag} : MtL K (fun x xs H Q => ∃ a p, ∃ ys : List Str, x = .str a ∧ xs = [.ref p] ∧ (SqL K H p (ys.map V.str) ∨ SqT K H p (ys.map V.str)) ∧
      (ys.map (·.length)).sum + ys.length * a.length ≤ 16777216 ∧ Q (.str (Txt.join a ys)) H) rdJoin := fun x ys vx vs H m Q' Q rx rs rh ⟨z, y, ss, ex, ey, hs, hz, q⟩ f => by
  subst ex ey
  cases rx
  obtain ⟨v, rfl, rv⟩ := rs.one
  obtain ⟨p, xs, rfl, h, rr⟩ := hs.of rv rh
  have := rr.strs
  subst this
  exact ⟨z, p, ss, rfl, rfl, h, hz, f _ m q _ H (Ts.refl _ _) (.str _) rh⟩
theorem de_join (ho : DE X o to) (he : DE X e te) (hs : starEach [e] X.env = [(false, eval e X.env)] := by rfl) (hbase : attributeBase o "join" X.env (eval o X.env) = eval o X.env := by rfl) (hline : (apos.endLine == pos.line) = true := by rfl) :
    DE X (.Call (.Attribute o "join" apos) [e] [] pos) (dM1 rdJoin to te) := (pe_join ho he hs hbase hline).imp (up_m1 mtl_join)

/-! ### f-strings -/
def dFmt (te : DTr) : DTr := fun δ m Q => te δ m fun x m1 => match x with
  | .str y => y.length ≤ sizeLine ∧ Q (.str y) m1
  | .int i => i.natAbs.log2 < 1920 ∧ Q (.str (toString i)) m1
  | _ => False
theorem de_fmt (he : DE X e te) : DE X (.FormattedValue e (-1) none pos) (dFmt te) := (pe_fmt he).imp fun σ H Q ⟨δ, m, Q', rs, rh, q, f⟩ =>
  ⟨δ, m, _, rs, rh, q, fun x m1 q1 v H1 t1 r1 rh1 => by
    cases r1 <;> first | exact q1.elim | skip
    · rename_i i
      exact .inr ⟨i, rfl, q1.1, f _ m1 q1.2 _ H1 t1 (.str _) rh1⟩
    · rename_i y
      exact .inl ⟨y, rfl, q1.1, f _ m1 q1.2 _ H1 t1 (.str _) rh1⟩⟩
def dJs : List DTr → Str → Sl → M → (Str → M → Prop) → Prop
  | [], acc, _, m, Q => Q acc m
  | t :: ts, acc, δ, m, Q => t δ m fun x m1 => ∃ y : Str, x = .str y ∧ (acc ++ y).length ≤ sizeLine ∧ dJs ts (acc ++ y) δ m1 Q
inductive DJ (X : Cx) : List Expr → List DTr → Prop where
  | nil : DJ X [] []
  | cons {e : Expr} {t : DTr} {es : List Expr} {ts : List DTr} (h : DE X e t) (r : DJ X es ts) : DJ X (e :: es) (t :: ts)
theorem DJ.pj {es : List Expr} {ts : List DTr} (h : DJ X es ts) : PJ X es (ts.map (up X.K)) := by
  induction h with
  | nil => exact .nil
  | cons h _ ih => exact .cons h ih
theorem up_js {K : PySem.W.Frag} {Q : VK} : ∀ (ts : List DTr) (acc : Str) (σ : L2.St) (H : Hp) (δ : Sl) (m : M) (Q' : DK), RelS K H δ σ → RelH K H m → dJs ts acc δ m (fun out m1 => Q' (.str out) m1) → Fits K H Q' Q → tJs (ts.map (up K)) acc σ H (fun out H1 => Q (.str out) H1)
  | [], acc, σ, H, δ, m, Q', rs, rh, q, f => f _ m q _ H (Ts.refl _ _) (.str _) rh
  | t :: ts, acc, σ, H, δ, m, Q', rs, rh, q, f => ⟨δ, m, _, rs, rh, q, fun x m1 ⟨y, ex, hy, q1⟩ v H1 t1 r1 rh1 => by
      subst ex; cases r1
      exact ⟨y, rfl, hy, up_js ts (acc ++ y) σ H1 δ m1 Q' (rs.mono t1) rh1 q1 (f.mono t1)⟩⟩
theorem de_joined {v1 v2 : Expr} {rest : List Expr} {ts : List DTr} (h : DJ X (v1 :: v2 :: rest) ts) : DE X (.JoinedStr (v1 :: v2 :: rest) pos) (fun δ m Q => dJs ts Str.empty δ m fun out m1 => Q (.str out) m1) :=
  (pe_joined h.pj).imp fun σ H Q ⟨δ, m, Q', rs, rh, q, f⟩ => up_js ts Str.empty σ H δ m Q' rs rh q f

/-! ### defs -/
abbrev DSp := List D → M → DK → Prop
def spUp (K : PySem.W.Frag) (sp : DSp) : Sp := fun vs H Q _ => ∃ ds m Q', Reps K H ds vs ∧ RelH K H m ∧ sp ds m Q' ∧ Fits K H Q' Q
structure DCal (P : Program) (w : World) (K : PySem.W.Frag) (mg : Str → Option Value) (base : Heap) (k : Nat) (x : Str) (sp : DSp) : Prop where
  ex : ∃ (f : Addr) (fd : FuncData) (ps : List Str), FnOk P w K mg base CX0 k f fd ps (spUp K sp) ∧ mg x = some (.ref f) ∧ PySem.W.keepIn K (.ref f) = true ∧ Binds K fd ps []
def dCall (sp : DSp) (t : DTA) : DTr := fun δ m Q => t δ m fun ds m1 => sp ds m1 Q
theorem up_call {K : PySem.W.Frag} {sp : DSp} {E : XK} : ∀ σ H Q, up K (dCall sp t) σ H Q → tCall (spUp K sp) [] E (upA K t) σ H Q := fun σ H Q ⟨δ, m, Q', rs, rh, q, f⟩ =>
  ⟨δ, m, _, rs, rh, q, fun ds m1 q1 vs H1 t1 r1 rh1 => by
    show spUp K sp (vs ++ []) H1 Q E
    rw [List.append_nil]
    exact ⟨ds, m1, Q', r1, rh1, q1, f.mono t1⟩⟩
theorem de_call {k j : Nat} {x : Str} {p : Pos} {sp : DSp} (c : DCal X.prog X.w X.K X.mg X.base k x sp) (hr : Room j X.A) (hk : k ≤ j) (hg : Gl X x) (ha : DA X (e :: es) t)
    (hdb : (x == ("__debug__" : Str)) = false := by decide) (he : starEach (e :: es) X.env = (false, eval e X.env) :: starEach es X.env := by rfl) (hpl : (backTo pos (starEach es X.env)).any (·.1) = false := by rfl) :
    DE X (.Call (.Name x p) (e :: es) [] pos) (dCall sp t) := by
  obtain ⟨f, fd, ps, F, hm, kp, b⟩ := c.ex
  exact (pe_call F (hr.mono hk) hg hm kp b .nil pass0 ha hdb he hpl).imp up_call
end
end DL

namespace DL
open PySem PySem.Spec PyProof.Rows L2 GA GxR

/-! ### statements -/
structure DEnds where
  nx : Sl → M → Prop
  rt : DK
  bk : Sl → M → Prop := fun _ _ => False
  ct : Sl → M → Prop := fun _ _ => False
abbrev DTS := DEnds → Sl → M → Prop
def FitN (K : PySem.W.Frag) (H : Hp) (q : Sl → M → Prop) (Q : L2.St → Hp → Prop) : Prop := ∀ δ m, q δ m → ∀ σ H', Ts K H H' → RelS K H' δ σ → RelH K H' m → Q σ H'
theorem FitN.mono {K : PySem.W.Frag} {H H1 : Hp} {q : Sl → M → Prop} {Q : L2.St → Hp → Prop} (t : Ts K H H1) (f : FitN K H q Q) : FitN K H1 q Q := fun δ m h σ H' t' rs rh => f δ m h σ H' (t.trans t') rs rh
structure FitsE (K : PySem.W.Frag) (H : Hp) (E' : DEnds) (E : Ends) : Prop where
  nx : FitN K H E'.nx E.nx
  rt : Fits K H E'.rt E.rt
  bk : FitN K H E'.bk E.bk
  ct : FitN K H E'.ct E.ct
theorem FitsE.mono {K : PySem.W.Frag} {H H1 : Hp} {E' : DEnds} {E : Ends} (t : Ts K H H1) (f : FitsE K H E' E) : FitsE K H1 E' E := ⟨f.nx.mono t, f.rt.mono t, f.bk.mono t, f.ct.mono t⟩
def upS (K : PySem.W.Frag) (t : DTS) : L2.TS := fun E σ H => ∃ δ m E', RelS K H δ σ ∧ RelH K H m ∧ t E' δ m ∧ FitsE K H E' E
def DS (X : Cx) (st : Stmt) (t : DTS) : Prop := PS X st (upS X.K t)
def DSs (X : Cx) (st : List Stmt) (t : DTS) : Prop := PSs X st (upS X.K t)

/-! ### targets: names, and tuples of names -/
inductive Tg where
  | name (i : Nat) | tup (is : List Nat)
def setAll (δ : Sl) : List Nat → List D → Sl
  | i :: is, d :: ds => setAll (δ.set i (some d)) is ds
  | _, _ => δ
def gD : Tg → D → Sl → (Sl → Prop) → Prop
  | .name i, d, δ, Q => Q (δ.set i (some d))
  | .tup is, d, δ, Q => ∃ ds, (d = .tup ds ∨ d = .ktup ds) ∧ ds.length = is.length ∧ Q (setAll δ is ds)
def gNs : List Nat → TGs
  | [] => gNil
  | i :: is => gCons (gName i) (gNs is)
def gV (K : PySem.W.Frag) : Tg → TG
  | .name i => gName i
  | .tup is => gTup K is.length (gNs is)
theorem gNs_ok {K : PySem.W.Frag} {H : Hp} : ∀ (is : List Nat) (ds : List D) (vs : List V) (δ : Sl) (σ : L2.St) (Q : L2.St → Hp → Prop), ds.length = is.length → Reps K H ds vs → RelS K H δ σ → (∀ σ', RelS K H (setAll δ is ds) σ' → (∀ ws, (∀ i ∈ is, i ∈ ws) → wipe σ' ws = wipe σ ws) → Q σ' H) → gNs is vs σ H Q
  | [], ds, vs, δ, σ, Q, hl, r, rs, h => by
    have : ds = [] := List.eq_nil_of_length_eq_zero (by simpa using hl)
    subst this
    cases r
    exact ⟨rfl, h σ rs fun _ _ => rfl⟩
  | i :: is, [], vs, δ, σ, Q, hl, r, rs, h => by simp at hl
  | i :: is, d :: ds, vs, δ, σ, Q, hl, r, rs, h => by
    cases r with
    | cons r1 r2 =>
      rename_i v vs
      refine ⟨v, vs, rfl, ?_⟩
      refine gNs_ok is ds vs (δ.set i (some d)) (σ.set i (some v)) Q (by simpa using hl) r2 (RelS.set r1 i rs) fun σ' h1 h2 => h σ' h1 fun ws hw => ?_
      rw [h2 ws fun j hj => hw j (List.mem_cons_of_mem _ hj)]
      exact wipe_set (hw i List.mem_cons_self) _ _
where
  wipe_set {i : Nat} : ∀ {ws : List Nat}, i ∈ ws → ∀ (σ : L2.St) (x : Option V), wipe (σ.set i x) ws = wipe σ ws
  | w :: ws, h, σ, x => by
    unfold wipe
    by_cases e : i ∈ ws
    · rw [wipe_set e]
    · have : i = w := by
        rcases List.mem_cons.mp h with h | h
        · exact h
        · exact (e h).elim
      subst this
      rw [wipe_out e, List.set_set]
  wipe_out {i : Nat} : ∀ {ws : List Nat}, i ∉ ws → ∀ {σ : L2.St} {x : Option V}, wipe (σ.set i x) ws = (wipe σ ws).set i x
  | [], _, σ, x => rfl
  | w :: ws, h, σ, x => by
    unfold wipe
    rw [wipe_out fun e => h (List.mem_cons_of_mem _ e), List.set_comm]
    exact fun e => h (e ▸ List.mem_cons_self)
theorem gV_ok {K : PySem.W.Frag} {H : Hp} {t : Tg} {d : D} {v : V} {δ : Sl} {σ : L2.St} {q : Sl → Prop} {Q : L2.St → Hp → Prop} (r : Rep K H d v) (rs : RelS K H δ σ) (h : gD t d δ q)
    (hq : ∀ δ' σ', q δ' → RelS K H δ' σ' → (∀ ws, (∀ i ∈ (match t with | .name i => [i] | .tup is => is), i ∈ ws) → wipe σ' ws = wipe σ ws) → Q σ' H) : gV K t v σ H Q := by
  cases t with
  | name i => exact hq _ _ h (RelS.set r i rs) fun ws hw => gNs_ok.wipe_set (hw i List.mem_cons_self) _ _
  | tup is =>
    obtain ⟨ds, e, hl, h⟩ := h
    obtain ⟨a, vs, rfl, hs, rr⟩ : ∃ a vs, v = .ref a ∧ SqT K H a vs ∧ Reps K H ds vs := by
      rcases e with rfl | rfl
      · cases r with | tup h1 h2 => exact ⟨_, _, rfl, .inl (.inl h1), h2⟩
      · cases r with | ktup h1 h2 => exact ⟨_, _, rfl, h1, h2⟩
    exact ⟨a, vs, rfl, hs, by rw [← rr.length]; exact hl, gNs_ok is ds vs δ σ Q hl rr rs fun σ' h1 h2 => hq _ σ' h h1 h2⟩
def DG (X : Cx) (target : Expr) (t : Tg) : Prop := PG X target (gV X.K t)

section
variable {X : Cx} {e : Expr} {te : DTr} {pos : Pos} {st : Stmt} {rest : List Stmt} {t u : DTS}
theorem dg_name {i : Nat} {x : Str} (hN : X.N.Nodup) (hi : X.N[i]? = some x) (hx : Loc X.env.scope x) (hf : X.fn x = true ∨ X.env.scope.names.lookup x = some .local := by first | exact .inl rfl | exact .inr rfl | assumption) : DG X (.Name x pos) (.name i) := pg_name hN hi hx hf
def DGs (X : Cx) (es : List Expr) (is : List Nat) : Prop := PGs X es (gNs is)
theorem dgs_nil : DGs X [] [] := pgs_nil
theorem dgs_cons {i : Nat} {is : List Nat} {e : Expr} {es : List Expr} (h : PG X e (gName i)) (r : DGs X es is) (hs : (assignEach (e :: es) X.env).map (·.2) = assign e X.env :: (assignEach es X.env).map (·.2) := by rfl) : DGs X (e :: es) (i :: is) := pgs_cons h r hs
theorem dg_tup {es : List Expr} {is : List Nat} {k : Nat} (hc : X.calm = true) (h : DGs X es is) (hn : (assignEach es X.env).length = is.length := by rfl) (hst : (assignEach es X.env).findIdx? (·.1) = none := by rfl) : DG X (.Tuple es k pos) (.tup is) := pg_tup hc h hn hst

def dNext : DTS := fun E δ m => E.nx δ m
theorem dss_nil : DSs X [] dNext := pss_nil.imp fun E σ H ⟨δ, m, E', rs, rh, q, f⟩ => f.nx δ m q σ H (Ts.refl _ _) rs rh
def dSeq (t u : DTS) : DTS := fun E δ m => t { E with nx := fun δ' m' => u E δ' m' } δ m
theorem dss_cons (h1 : DS X st t) (h2 : DSs X rest u) : DSs X (st :: rest) (dSeq t u) := (pss_cons h1 h2).imp fun E σ H ⟨δ, m, E', rs, rh, q, f⟩ =>
  ⟨δ, m, _, rs, rh, q, ⟨fun δ' m' q' σ' H' t' rs' rh' => ⟨δ', m', E', rs', rh', q', f.mono t'⟩, f.rt, f.bk, f.ct⟩⟩
theorem dss_one (h1 : DS X st t) : DSs X [st] t := pss_one h1
def dSet (te : DTr) (i : Nat) : DTS := fun E δ m => te δ m fun x m1 => E.nx (δ.set i (some x)) m1
theorem ds_set {i : Nat} {x : Str} {pos' : Pos} (hN : X.N.Nodup) (hi : X.N[i]? = some x) (hx : Loc X.env.scope x) (he : DE X e te) (hs : swapsWith e (some (.Name x pos')) pos.line X.env = pure false := by rfl) (hf : X.fn x = true ∨ X.env.scope.names.lookup x = some .local := by first | exact .inl rfl | exact .inr rfl | assumption) :
    DS X (.Assign [.Name x pos'] e pos) (dSet te i) := (ps_set hN hi hx he hs hf).imp fun E σ H ⟨δ, m, E', rs, rh, q, f⟩ =>
  ⟨δ, m, _, rs, rh, q, fun d m1 q1 v H1 t1 r1 rh1 => f.nx _ m1 q1 _ H1 t1 (RelS.set r1 i (rs.mono t1)) rh1⟩
def dAsg (te : DTr) (g : Tg) : DTS := fun E δ m => te δ m fun x m1 => gD g x δ fun δ' => E.nx δ' m1
theorem ds_asg {tg : Expr} {g : Tg} (he : DE X e te) (hg : DG X tg g) (hs : swapsWithSole [tg] e pos.line X.env = pure false := by rfl) (hw : swappedStores [tg] e X.env = pure none := by rfl)
    (h1 : (assignEach [tg] X.env).map (·.2) = [assign tg X.env] := by rfl) : DS X (.Assign [tg] e pos) (dAsg te g) := (ps_asg he hg hs hw h1).imp fun E σ H ⟨δ, m, E', rs, rh, q, f⟩ =>
  ⟨δ, m, _, rs, rh, q, fun d m1 q1 v H1 t1 r1 rh1 => gV_ok r1 (rs.mono t1) q1 fun δ' σ' q2 rs2 _ => f.nx δ' m1 q2 σ' H1 t1 rs2 rh1⟩
def dPar (i j : Nat) (ta : DTA) : DTS := fun E δ m => ta δ m fun ds m1 => ∃ x y, ds = [x, y] ∧ E.nx ((δ.set i (some x)).set j (some y)) m1
theorem ds_par {i j : Nat} {x y : Str} {a b : Expr} {ta : DTA} {px py pt : Pos} {kt k2 pt2} (hc : X.calm = true) (hN : X.N.Nodup) (hi : X.N[i]? = some x) (hj : X.N[j]? = some y) (hij : i ≠ j)
    (hx : X.env.scope.names.lookup x = some .local) (hy : X.env.scope.names.lookup y = some .local) (ha : DA X [a, b] ta)
    (hw : swappedStores [.Tuple [.Name x px, .Name y py] kt pt] (.Tuple [a, b] k2 pt2) X.env = pure (some [x, y]))
    (hs : swapsWithSole [.Tuple [.Name x px, .Name y py] kt pt] (.Tuple [a, b] k2 pt2) pos.line X.env = pure false := by rfl) :
    DS X (.Assign [.Tuple [.Name x px, .Name y py] kt pt] (.Tuple [a, b] k2 pt2) pos) (dPar i j ta) := (ps_par hc hN hi hj hij hx hy ha hw hs).imp fun E σ H ⟨δ, m, E', rs, rh, q, f⟩ =>
  ⟨δ, m, _, rs, rh, q, fun ds m1 ⟨x, y, e, q1⟩ vs H1 t1 r1 rh1 => by
    subst e
    obtain ⟨v, u, rfl, r2, r3⟩ := r1.two
    exact ⟨v, u, rfl, f.nx _ m1 q1 _ H1 t1 (RelS.set r3 j (RelS.set r2 i (rs.mono t1))) rh1⟩⟩
def dExpr (te : DTr) : DTS := fun E δ m => te δ m fun _ m1 => E.nx δ m1
theorem ds_expr (he : DE X e te) (hs : swapsWith e none pos.line X.env = pure false := by rfl) : DS X (.Expr e pos) (dExpr te) := (ps_expr he hs).imp fun E σ H ⟨δ, m, E', rs, rh, q, f⟩ =>
  ⟨δ, m, _, rs, rh, q, fun d m1 q1 v H1 t1 r1 rh1 => f.nx _ m1 q1 σ H1 t1 (rs.mono t1) rh1⟩
def dRet (te : DTr) : DTS := fun E δ m => te δ m E.rt
theorem ds_ret (he : DE X e te) : DS X (.Return (some e) pos) (dRet te) := (ps_ret he).imp fun E σ H ⟨δ, m, E', rs, rh, q, f⟩ => ⟨δ, m, _, rs, rh, q, f.rt⟩
def dIfS (c : DTT) (t u : DTS) : DTS := fun E δ m => c δ m fun b m1 => if b = true then t E δ m1 else u E δ m1
theorem ds_if {c : Expr} {a b : List Stmt} {tc : DTT} (hc : DTst X c tc) (ha : DSs X a t) (hb : DSs X b u) : DS X (.If c a b pos) (dIfS tc t u) := (ps_if hc ha hb).imp fun E σ H ⟨δ, m, E', rs, rh, q, f⟩ =>
  ⟨δ, m, _, rs, rh, q, fun b m1 q1 H1 t1 rh1 => by
    cases b with
    | true => exact ⟨δ, m1, E', rs.mono t1, rh1, q1, f.mono t1⟩
    | false => exact ⟨δ, m1, E', rs.mono t1, rh1, q1, f.mono t1⟩⟩
theorem ds_never : DS X st (fun _ _ _ => False) := ps_never.imp fun E σ H ⟨δ, m, E', rs, rh, q, f⟩ => q.elim

/-! ### what is walked -/
abbrev DTI := Sl → M → (List D → (M → Prop) → M → Prop) → Prop
structure Wk (K : PySem.W.Frag) (H0 : Hp) (J : It) (xs : List D) (ok : M → Prop) : Prop where
  go : ∀ i H m, Ts K H0 H → RelH K H m → ok m → i < xs.length → J.go i H
  yld : ∀ i H m v H', Ts K H0 H → RelH K H m → ok m → i < xs.length → J.yld i H v H' → Ts K H H' ∧ RelH K H' m ∧ ∃ d, xs[i]? = some d ∧ Rep K H' d v
  stop : ∀ i H m, Ts K H0 H → RelH K H m → ok m → xs.length ≤ i → J.stop i H
def upI (K : PySem.W.Frag) (t : DTI) : TI := fun σ H R => ∃ δ m Q', RelS K H δ σ ∧ RelH K H m ∧ t δ m Q' ∧ ∀ xs ok m1, Q' xs ok m1 → ∀ J H1, Ts K H H1 → RelH K H1 m1 → Wk K H1 J xs ok → R J H1
def DPI (X : Cx) (tg iter : Expr) (t : DTI) : Prop := PI X tg iter (upI X.K t)
theorem _root_.L2.PI.imp {X : Cx} {tg iter : Expr} {t t' : TI} (h : PI X tg iter t) (i : ∀ σ H Q, t' σ H Q → t σ H Q) : PI X tg iter t' := ⟨fun pins s σ H Q I q => h.run pins s σ H Q I (i σ H Q q)⟩
/-- a list of the store, which stands through the walk -/
def iL (te : DTr) : DTI := fun δ m R => te δ m fun x m1 => ∃ a ds, x = .ref a ∧ m1.mu a = some (.lst ds) ∧ R ds (fun m => m.mu a = some (.lst ds)) m1
theorem wk_list {K : PySem.W.Frag} {H0 : Hp} {a : Addr} {ds : List D} : Wk K H0 (Itl K a) ds (fun m => m.mu a = some (.lst ds)) := by
  refine ⟨fun i H m t r o hi => ?_, fun i H m v H' t r o hi y => ?_, fun i H m t r o hi => ?_⟩
  · obtain ⟨ys, e, rr⟩ := r.obj _ _ o
    exact ⟨ys, ys[i]'(by rw [← rr.length]; exact hi), SqL.of e, by simp⟩
  · obtain ⟨ys, e, rr⟩ := r.obj _ _ o
    obtain ⟨rfl, y⟩ := y
    obtain ⟨d, hd, rd⟩ := rr.getV (y ys (SqL.of e))
    exact ⟨Ts.refl _ _, r, d, hd, rd⟩
  · obtain ⟨ys, e, rr⟩ := r.obj _ _ o
    exact ⟨ys, SqL.of e, by rw [← rr.length]; exact hi⟩
theorem dpi_list {tg : Expr} (he : DE X e te) : DPI X tg e (iL te) := (pi_list he).imp fun σ H R ⟨δ, m, Q', rs, rh, q, f⟩ =>
  ⟨δ, m, _, rs, rh, q, fun x m1 ⟨a, ds, ex, h, q1⟩ v H1 t1 r1 rh1 => by
    subst ex; cases r1
    obtain ⟨xs, e1, _⟩ := rh1.obj _ _ h
    exact ⟨a, rfl, ⟨xs, SqL.of e1⟩, f ds _ m1 q1 _ H1 t1 rh1 wk_list⟩⟩
/-- a tuple -/
def iT (te : DTr) : DTI := fun δ m R => te δ m fun x m1 => ∃ ds, (x = .tup ds ∨ x = .ktup ds) ∧ R ds (fun _ => True) m1
theorem sq_of {K : PySem.W.Frag} {H : Hp} {x : D} {ds : List D} {v : V} (e : x = .tup ds ∨ x = .ktup ds) (r : Rep K H x v) : ∃ a vs, v = .ref a ∧ SqT K H a vs ∧ Reps K H ds vs := by
  rcases e with rfl | rfl
  · cases r with | tup h1 h2 => exact ⟨_, _, rfl, .inl (.inl h1), h2⟩
  · cases r with | ktup h1 h2 => exact ⟨_, _, rfl, h1, h2⟩
theorem wk_tup {K : PySem.W.Frag} {H0 : Hp} {a : Addr} {ds : List D} {vs : List V} (h : SqT K H0 a vs) (r0 : Reps K H0 ds vs) : Wk K H0 (Itt K a) ds (fun _ => True) := by
  refine ⟨fun i H m t r o hi => ?_, fun i H m v H' t r o hi y => ?_, fun i H m t r o hi => ?_⟩
  · exact ⟨vs, vs[i]'(by rw [← r0.length]; exact hi), t.1 _ _ h, by simp⟩
  · obtain ⟨rfl, y⟩ := y
    obtain ⟨d, hd, rd⟩ := (Reps.mono t _ _ r0).getV (y vs (t.1 _ _ h))
    exact ⟨Ts.refl _ _, r, d, hd, rd⟩
  · exact ⟨vs, t.1 _ _ h, by rw [← r0.length]; exact hi⟩
theorem dpi_tup {tg : Expr} (he : DE X e te) : DPI X tg e (iT te) := (pi_tup he).imp fun σ H R ⟨δ, m, Q', rs, rh, q, f⟩ =>
  ⟨δ, m, _, rs, rh, q, fun x m1 ⟨ds, ex, q1⟩ v H1 t1 r1 rh1 => by
    obtain ⟨a, vs, rfl, hs, rr⟩ := sq_of ex r1
    exact ⟨a, rfl, ⟨vs, hs⟩, f ds _ m1 q1 _ H1 t1 rh1 (wk_tup hs rr)⟩⟩
/-- a range -/
def rangeD (n : Nat) : List D := (List.range n).map fun (i : Nat) => D.int (i : Int)
def iR1 (te : DTr) : DTI := fun δ m R => te δ m fun x m1 => ∃ j : Int, x = .int j ∧ -(2 ^ 62) ≤ j ∧ j < 2 ^ 62 ∧ R (rangeD j.toNat) (fun _ => True) m1
theorem rangeD_len (n : Nat) : (rangeD n).length = n := by simp [rangeD]
theorem rangeD_get {n i : Nat} (h : i < n) : (rangeD n)[i]? = some (.int (i : Int)) := by simp [rangeD, h]
theorem dpi_range {tg : Expr} {p : Pos} (hg : Gl X "range") (hm : X.mg "range" = none) (he : DE X e te) (hs : starEach [e] X.env = [(false, eval e X.env)] := by rfl) : DPI X tg (.Call (.Name "range" p) [e] [] pos) (iR1 te) :=
  (pi_range1 hg hm (pa_cons he pa_nil (by rw [hs]; rfl)) hs).imp fun σ H R ⟨δ, m, Q', rs, rh, q, f⟩ =>
  ⟨δ, m, _, rs, rh, q, fun x m1 ⟨j, ex, h1, h2, q1⟩ v H1 t1 r1 rh1 => by
    subst ex; cases r1
    refine ⟨j, rfl, h1, h2, f _ _ m1 q1 _ H1 t1 rh1 ⟨fun i H m t r o hi => ?_, fun i H m v H' t r o hi y => ?_, fun i H m t r o hi => ?_⟩⟩
    · rw [rangeD_len] at hi; exact hi
    · obtain ⟨rfl, rfl⟩ := y
      rw [rangeD_len] at hi
      refine ⟨Ts.refl _ _, r, _, rangeD_get hi, ?_⟩
      have : (0 : Int) + (i : Int) = (i : Int) := by omega
      rw [this]
      exact .int _
    · rw [rangeD_len] at hi; exact hi⟩

/-! ### for -/
def dFor (ws : DTI) (g : Tg) (tb : DTS) : DTS := fun E δ m => ws δ m fun xs ok m1 => ∃ P : Nat → Sl → M → Prop, P 0 δ m1 ∧ (∀ i δ m, P i δ m → ok m) ∧
  (∀ i d δ m, xs[i]? = some d → P i δ m → gD g d δ fun δ2 => tb { E with nx := P (i + 1), ct := P (i + 1), bk := E.nx } δ2 m) ∧ (∀ δ m, P xs.length δ m → E.nx δ m)
theorem ds_for {iter tg : Expr} {body : List Stmt} {ws : DTI} {g : Tg} {tb : DTS} (hp : PassesOwn (model X.prog X.w) X.A X.env X.xe) (hc : X.calm = true) (hi : DPI X tg iter ws) (hg : DG X tg g) (hb : DSs X body tb)
    (hs : ∀ x, foldedSetIterable iter X.env x = pure x := by intro _; rfl) : DS X (.For tg iter body [] pos) (dFor ws g tb) := (ps_for hp hc hi hg hb hs).imp fun E σ H ⟨δ, m, E', rs, rh, q, f⟩ => by
  refine ⟨δ, m, _, rs, rh, q, fun xs ok m1 ⟨P, h0, hok, hs, hd⟩ J H1 t1 rh1 wk => ?_⟩
  refine ⟨fun i n σ' H' => n = xs.length - i ∧ i ≤ xs.length ∧ ∃ δ' m', Ts X.K H1 H' ∧ RelS X.K H' δ' σ' ∧ RelH X.K H' m' ∧ P i δ' m', ⟨xs.length, by simp, Nat.zero_le _, δ, m1, Ts.refl _ _, rs.mono t1, rh1, h0⟩, ?_⟩
  rintro i n σ2 H2 ⟨rfl, hi, δ2, m2, t2, rs2, rh2, p⟩
  have o := hok _ _ _ p
  by_cases hlt : i < xs.length
  · refine .inr ⟨wk.go i H2 m2 t2 rh2 o hlt, fun σ' H' => ∃ δ' m', Ts X.K H1 H' ∧ RelS X.K H' δ' σ' ∧ RelH X.K H' m' ∧ P (i + 1) δ' m', fun σ' H' ⟨δ', m', z⟩ => ⟨xs.length - (i + 1), by omega, rfl, hlt, δ', m', z⟩, fun v H3 y => ?_⟩
    obtain ⟨t3, rh3, d, hd', rd⟩ := wk.yld i H2 m2 v H3 t2 rh2 o hlt y
    refine gV_ok rd (rs2.mono t3) (hs i d δ2 m2 hd' p) fun δ4 σ4 q4 rs4 _ => ?_
    have tt := t2.trans t3
    exact ⟨δ4, m2, _, rs4, rh3, q4, ⟨fun δ' m' p' σ' H' t' rs' rh' => ⟨δ', m', tt.trans t', rs', rh', p'⟩, (f.rt.mono t1).mono tt, (f.nx.mono t1).mono tt, fun δ' m' p' σ' H' t' rs' rh' => ⟨δ', m', tt.trans t', rs', rh', p'⟩⟩⟩
  · have e : i = xs.length := by omega
    subst e
    exact .inl ⟨wk.stop _ H2 m2 t2 rh2 o (Nat.le_refl _), f.nx δ2 m2 (hd δ2 m2 p) σ2 H2 (t1.trans t2) rs2 rh2⟩

/-! ### list comprehensions -/
def DPts (X : Cx) (ifs : List Expr) (t : DTT) : Prop := PTs X ifs (upB X.K t)
def dYes : DTT := fun _ m Q => Q true m
theorem dpts_nil : DPts X [] dYes := ⟨fun pins s σ H Q I ⟨δ, m, Q', rs, rh, q, f⟩ => pts_nil.run pins s σ H Q I (f true m q H (Ts.refl _ _) rh)⟩
theorem dpts_one {c : Expr} {tc : DTT} (h : DTst X c tc) : DPts X [c] tc := pts_one h
def wipeD (δ : Sl) : List Nat → Sl
  | [] => δ
  | v :: vs => (wipeD δ vs).set v none
theorem RelS.wipe {K : PySem.W.Frag} {H : Hp} {δ : Sl} {σ : L2.St} (rs : RelS K H δ σ) : ∀ ws : List Nat, RelS K H (wipeD δ ws) (L2.wipe σ ws)
  | [] => rs
  | w :: ws => (RelS.wipe rs ws).forget w none
def Tg.ix : Tg → List Nat
  | .name i => [i]
  | .tup is => is
def dLC (ws : DTI) (g : Tg) (tt : DTT) (te : DTr) (ow : List Nat) : DTr := fun δ m Q => ws δ m fun xs ok m1 => ∀ p, m1.mu p = none → ∃ P : Nat → M → Prop, P 0 (m1.set p (.lst [])) ∧ (∀ i m, P i m → ok m) ∧
  (∀ i d m, xs[i]? = some d → P i m → gD g d (wipeD δ ow) fun δ2 => tt δ2 m fun b m3 => if b = true then te δ2 m3 fun y m4 => ∃ acc, m4.mu p = some (.lst acc) ∧ acc.length < sizeLine ∧ P (i + 1) (m4.set p (.lst (acc ++ [y]))) else P (i + 1) m3) ∧
  (∀ m, P xs.length m → Q (.ref p) m)
theorem up_lc {K : PySem.W.Frag} {ws : DTI} {g : Tg} {tt : DTT} {te : DTr} {ow : List Nat} (hgo : ∀ i ∈ g.ix, i ∈ ow) : ∀ σ H Q, up K (dLC ws g tt te ow) σ H Q → tLc (upI K ws) (gV K g) (upB K tt) (up K te) ow σ H Q := fun σ H Q ⟨δ, m, Q', rs, rh, q, f⟩ => by
  refine ⟨δ, m, _, rs, rh, q, fun xs ok m1 hP J H1 t1 rh1 wk => fun p hp => ?_⟩
  obtain ⟨P, h0, hok, hs, hd⟩ := hP p (rh1.fresh hp)
  have tp := Ts.new (K := K) (o := .lst []) hp
  refine ⟨fun i n H' => n = xs.length - i ∧ i ≤ xs.length ∧ ∃ m', Ts K H1 H' ∧ RelH K H' m' ∧ P i m', ⟨xs.length, by simp, Nat.zero_le _, _, tp, rh1.newO (x := .lst []) hp ⟨[], upd_same, .nil⟩, h0⟩, ?_⟩
  rintro i n H2 ⟨rfl, hi, m2, t2, rh2, hp2⟩
  have o := hok _ _ hp2
  by_cases hlt : i < xs.length
  · refine .inr ⟨wk.go i H2 m2 t2 rh2 o hlt, fun H' => ∃ m', Ts K H1 H' ∧ RelH K H' m' ∧ P (i + 1) m', fun H' ⟨m', z⟩ => ⟨xs.length - (i + 1), by omega, rfl, hlt, m', z⟩, fun v H3 y => ?_⟩
    obtain ⟨t3, rh3, d, hd', rd⟩ := wk.yld i H2 m2 v H3 t2 rh2 o hlt y
    have t13 := t2.trans t3
    refine gV_ok rd (((rs.mono t1).mono t13).wipe ow) (hs i d m2 hd' hp2) fun δ4 σ4 q4 rs4 hw => ⟨?_, ?_⟩
    · have e := hw ow (fun j hj => hgo j (by cases g <;> exact hj))
      rw [e, wipe_wipe]
    · refine ⟨δ4, m2, _, rs4, rh3, q4, fun b m5 q5 H5 t5 rh5 => ?_⟩
      cases b with
      | true =>
        rw [if_pos rfl] at q5 ⊢
        refine ⟨δ4, m5, _, rs4.mono t5, rh5, q5, fun y m6 ⟨acc, ha, hl, hn⟩ u H6 t6 r6 rh6 => ?_⟩
        obtain ⟨us, e6, rr6⟩ := rh6.obj _ _ ha
        have t7 := rh6.putTS (o := .lst (us ++ [u])) ha
        exact ⟨us, e6, by rw [← rr6.length]; exact hl, _, (((t13.trans t5).trans t6).trans t7), rh6.put (x := .lst (acc ++ [y])) ha ⟨_, upd_same, Reps.mono t7 _ _ (rr6.append (.cons r6 .nil))⟩, hn⟩
      | false =>
        rw [if_neg Bool.false_ne_true] at q5 ⊢
        exact ⟨m5, t13.trans t5, rh5, q5⟩
  · have e : i = xs.length := by omega
    subst e
    exact .inl ⟨wk.stop _ H2 m2 t2 rh2 o (Nat.le_refl _), f _ m2 (hd m2 hp2) _ H2 (t1.trans t2) (.ref p) rh2⟩
where
  wipe_wipe {σ : L2.St} : ∀ {ws : List Nat}, L2.wipe (L2.wipe σ ws) ws = L2.wipe σ ws := fun {ws} => wipe_sub fun i hi => hi
  wipe_sub {σ : L2.St} {us : List Nat} : ∀ {ws : List Nat}, (∀ i ∈ ws, i ∈ us) → L2.wipe (L2.wipe σ us) ws = L2.wipe σ us
    | [], _ => rfl
    | w :: ws, h => by
      show (L2.wipe (L2.wipe σ us) ws).set w none = _
      rw [wipe_sub fun i hi => h i (List.mem_cons_of_mem _ hi)]
      exact set_id (h w List.mem_cons_self)
  set_id {σ : L2.St} {w : Nat} : ∀ {us : List Nat}, w ∈ us → (L2.wipe σ us).set w none = L2.wipe σ us
    | u :: us, h => by
      show ((L2.wipe σ us).set u none).set w none = (L2.wipe σ us).set u none
      by_cases e : w = u
      · subst e; rw [List.set_set]
      · rcases List.mem_cons.mp h with z | z
        · exact (e z).elim
        · rw [List.set_comm _ _ (fun q => e q.symm), set_id z]
theorem de_lc {elt tg iter : Expr} {ifs : List Expr} {scope : Scope} {own : List (Str × Nat)} {ws : DTI} {g : Tg} {tt : DTT} {te : DTr} (hc : X.calm = true) (hN : X.N.Nodup) (hi : DPI X tg iter ws) (ok : BlkOk X.N X.env.scope scope own)
    (hg : ∀ (s : Shared) (H : Hp) (C : Addr) (cl : List (Str × Addr)) (fp : List Addr), DG (X.blk s H scope (compEnvC scope cl C X.env) fp) tg g) (ht : ∀ (s : Shared) (H : Hp) (C : Addr) (cl : List (Str × Addr)) (fp : List Addr), DPts (X.blk s H scope (compEnvC scope cl C X.env) fp) ifs tt)
    (he : ∀ (s : Shared) (H : Hp) (C : Addr) (cl : List (Str × Addr)) (fp : List Addr), DE (X.blk s H scope (compEnvC scope cl C X.env) fp) elt te) (hgo : ∀ i ∈ g.ix, i ∈ own.map (·.2) := by decide) (hs : ∀ x, foldedSetIterable iter X.env x = pure x := by intro _; rfl) :
    DE X (.ListComp elt [⟨tg, iter, ifs, 0⟩] scope pos) (dLC ws g tt te (own.map (·.2))) := (pe_lc (g := gV X.K g) (tt := upB X.K tt) (te := up X.K te) hc hN hi ok hg ht he hs).imp (up_lc hgo)
theorem ds_setLc {i : Nat} {y : Str} {py : Pos} {elt tg iter : Expr} {ifs : List Expr} {scope : Scope} {own : List (Str × Nat)} {spos : Pos} {ws : DTI} {g : Tg} {tt : DTT} {te : DTr} (hc : X.calm = true) (hN : X.N.Nodup) (hy : X.N[i]? = some y) (hyl : X.env.scope.names.lookup y = some .local)
    (hsw : swapsWith (.ListComp elt [⟨tg, iter, ifs, 0⟩] scope pos) (some (.Name y py)) spos.line X.env = pure true) (hi : DPI X tg iter ws) (ok : BlkOk X.N X.env.scope scope own)
    (hg : ∀ (s : Shared) (H : Hp) (C : Addr) (cl : List (Str × Addr)) (fp : List Addr), DG (X.blk s H scope (compEnvC scope cl C X.env) fp) tg g) (ht : ∀ (s : Shared) (H : Hp) (C : Addr) (cl : List (Str × Addr)) (fp : List Addr), DPts (X.blk s H scope (compEnvC scope cl C X.env) fp) ifs tt)
    (he : ∀ (s : Shared) (H : Hp) (C : Addr) (cl : List (Str × Addr)) (fp : List Addr), DE (X.blk s H scope (compEnvC scope cl C X.env) fp) elt te) (hgo : ∀ i ∈ g.ix, i ∈ own.map (·.2) := by decide) (hs : ∀ x, foldedSetIterable iter X.env x = pure x := by intro _; rfl) :
    DS X (.Assign [.Name y py] (.ListComp elt [⟨tg, iter, ifs, 0⟩] scope pos) spos) (dSet (dLC ws g tt te (own.map (·.2))) i) := (ps_setLc (g := gV X.K g) (tt := upB X.K tt) (te := up X.K te) hc hN hy hyl hsw hi ok hg ht he hs).imp fun E σ H ⟨δ, m, E', rs, rh, q, f⟩ => by
  refine up_lc hgo σ H _ ⟨δ, m, _, rs, rh, q, fun d m1 q1 v H1 t1 r1 rh1 => ?_⟩
  exact f.nx _ m1 q1 _ H1 t1 (RelS.set r1 i (rs.mono t1)) rh1

/-! ### all(..) of a generator expression -/
/-- the tables of the code objects that stand in gh -/
def dAll (P : Addr) (ow : List Nat) (ws : DTI) (g : Tg) (te : DTr) : DTr := fun δ m Q => ws δ m fun xs ok m1 => m1.gh.own P ∧ (∀ H, m1.gh.inv H → TabG H P) ∧ (∀ H H2, m1.gh.inv H → Tabbed P H H2 → m1.gh.inv H2) ∧
  ∃ W : Nat → M → Prop, W 0 m1 ∧ (∀ i m, W i m → ok m) ∧ (∀ i d m, xs[i]? = some d → W i m → gD g d (wipeD δ ow) fun δ2 => te δ2 m fun r m3 => ∃ b, r = .bl b ∧ if b = true then W (i + 1) m3 else Q (.bl false) m3) ∧ (∀ m, W xs.length m → Q (.bl true) m)
theorem tabbed_rel {K : PySem.W.Frag} {H H2 : Hp} {m : M} {P : Addr} (r : RelH K H m) (ho : m.gh.own P) (hT : TabG H P) (hi : m.gh.inv H2) (h : Tabbed P H H2) : Ts K H H2 ∧ RelH K H2 m := by
  obtain ⟨ps, hP, _⟩ := hT
  have t : Ts K H H2 := by
    refine ⟨fun a xs s => ?_, fun a xs e => ?_⟩
    · rcases s with (s | ⟨ob, s⟩) | s
      · exact .inl (.inl (by rw [h.2 a (fun z => by subst z; rw [hP] at s; cases s)]; exact s))
      · exact .inl (.inr ⟨ob, by rw [h.2 a (fun z => by subst z; rw [hP] at s; cases s)]; exact s⟩)
      · exact .inr s
    · rw [h.2 a (fun z => by subst z; rw [hP] at e; cases e)]; exact e
  refine ⟨t, hi, r.sep, fun a o e => (r.obj a o e).mono t (h.2 a fun z => ?_)⟩
  subst z
  rw [r.sep _ ho] at e; cases e
theorem RelS.of {K : PySem.W.Frag} {H : Hp} : ∀ {δ : Sl} {σ : L2.St}, δ.length = σ.length → (∀ (i : Nat) (d : D), δ[i]? = some (some d) → ∃ v, σ[i]? = some (some v) ∧ Rep K H d v) → RelS K H δ σ
  | [], [], _, _ => .nil
  | [], _ :: _, h, _ => by simp at h
  | _ :: _, [], h, _ => by simp at h
  | o :: δ, p :: σ, hl, h => .cons (fun d e => by
      obtain ⟨v, e1, r⟩ := h 0 d (by simp [e])
      exact ⟨v, by simpa using e1, r⟩) (RelS.of (by simpa using hl) fun i d e => by
      obtain ⟨v, e1, r⟩ := h (i + 1) d (by simpa using e)
      exact ⟨v, by simpa using e1, r⟩)
theorem wipeD_some {δ : Sl} {i : Nat} {d : D} : ∀ {vs : List Nat}, (wipeD δ vs)[i]? = some (some d) → δ[i]? = some (some d) ∧ i ∉ vs
  | [], h => ⟨h, by simp⟩
  | v :: vs, h => by
    unfold wipeD at h
    by_cases hi : v = i
    · subst hi
      by_cases hv : v < (wipeD δ vs).length
      · rw [List.getElem?_set_self hv] at h; cases h
      · rw [List.getElem?_eq_none (by simpa using hv)] at h; cases h
    · rw [List.getElem?_set_ne hi] at h
      obtain ⟨h1, h2⟩ := wipeD_some h
      exact ⟨h1, by simp only [List.mem_cons, not_or]; exact ⟨fun e => hi e.symm, h2⟩⟩
theorem wipe_at {σ : L2.St} {i : Nat} : ∀ {vs : List Nat}, i ∉ vs → (L2.wipe σ vs)[i]? = σ[i]?
  | [], _ => rfl
  | v :: vs, h => by
    unfold L2.wipe
    rw [List.getElem?_set_ne (fun e => h (by rw [e]; exact List.mem_cons_self)), wipe_at fun e => h (List.mem_cons_of_mem _ e)]
theorem RelS.sameW {K : PySem.W.Frag} {H : Hp} {δ : Sl} {σ σ' : L2.St} {ow : List Nat} (r : RelS K H (wipeD δ ow) σ) (e : L2.wipe σ' ow = L2.wipe σ ow) : RelS K H (wipeD δ ow) σ' := by
  refine RelS.of ?_ fun i d h => ?_
  · rw [r.length, ← wipe_length σ ow, ← e, wipe_length]
  · obtain ⟨_, hi⟩ := wipeD_some h
    obtain ⟨v, e1, rv⟩ := r.get h
    exact ⟨v, by rw [← wipe_at hi, e, wipe_at hi]; exact e1, rv⟩
theorem de_all {c P : Addr} {elt tg iter : Expr} {p gpos : Pos} {scope : Scope} {own : List (Str × Nat)} {ws : DTI} {g : Tg} {te : DTr} {k : Nat}
    (hr : Room (k + 1) X.A) (hg : Gl X "all") (hm : X.mg "all" = none) (hb : bootBuiltins "all" = some (.builtin "all")) (TB : TabB X.base X.mg c P) (hcode : X.env.code = .ref c)
    (ok : GenOk X.N X.env.scope scope own) (hN : X.N.Nodup) (hi : DPI X tg iter ws)
    (hgt : ∀ A cenv s H fp, cenv.scope = scope → DG (cxG X X.N A cenv s H fp) tg g)
    (hel : ∀ A cenv s H fp, cenv.scope = scope → Room k A → DE (cxG X X.N A cenv s H fp) elt te)
    (hs : ∀ v, genFold iter X.env v = pure v) (hgo : ∀ i ∈ g.ix, i ∈ own.map (·.2) := by decide)
    (he : starEach [gexp elt tg iter scope gpos] X.env = (false, eval (gexp elt tg iter scope gpos) X.env) :: starEach [] X.env := by rfl) :
    DE X (.Call (.Name "all" p) [gexp elt tg iter scope gpos] [] pos) (dAll P (own.map (·.2)) ws g te) := (pe_allG (g := gV X.K g) (te := up X.K te) hr hg hm hb TB hcode ok hN hi hgt hel hs he).imp fun σ H Q ⟨δ, m, Q', rs, rh, q, f⟩ => by
  refine ⟨δ, m, _, rs, rh, q, fun xs ok m1 ⟨hP, hT, hI, W, h0, hok, hst, hd⟩ J H1 t1 rh1 wk => ⟨hT H1 rh1.inv, fun H2 hT2 => ?_⟩⟩
  obtain ⟨t2, rh2⟩ := tabbed_rel rh1 hP (hT H1 rh1.inv) (hI H1 H2 rh1.inv hT2) hT2
  refine ⟨fun i n σ' H' => n = xs.length - i ∧ i ≤ xs.length ∧ ∃ m' , Ts X.K H1 H' ∧ RelS X.K H' (wipeD δ (own.map (·.2))) σ' ∧ RelH X.K H' m' ∧ W i m', xs.length, ⟨by simp, Nat.zero_le _, m1, t2, ((rs.mono t1).mono t2).wipe _, rh2, h0⟩, ⟨?_⟩⟩
  · rintro i n σ3 H3 ⟨rfl, hi, m3, t3, rs3, rh3, w3⟩
    have o := hok _ _ w3
    by_cases hlt : i < xs.length
    · refine .inr ⟨wk.go i H3 m3 t3 rh3 o hlt, by omega, fun v H4 y => ?_⟩
      obtain ⟨t4, rh4, d, hd', rd⟩ := wk.yld i H3 m3 v H4 t3 rh3 o hlt y
      have rsw : RelS X.K H4 (wipeD δ (own.map (·.2))) σ3 := rs3.mono t4
      refine gV_ok rd rsw (hst i d m3 hd' w3) fun δ5 σ5 q5 rs5 hw => ?_
      refine ⟨δ5, m3, _, rs5, rh4, q5, fun r m6 ⟨b, eb, q6⟩ u H6 t6 r6 rh6 => ?_⟩
      subst eb; cases r6
      refine ⟨b, rfl, ?_⟩
      have t36 := (t3.trans t4).trans t6
      cases b with
      | true =>
        rw [if_pos rfl] at q6 ⊢
        refine ⟨xs.length - (i + 1), by omega, rfl, hlt, m6, t36, RelS.mono t6 (rsw.sameW (hw _ fun j hj => hgo j (by cases g <;> exact hj))), rh6, q6⟩
      | false =>
        rw [if_neg Bool.false_ne_true] at q6 ⊢
        exact f _ m6 q6 _ H6 (t1.trans t36) (.bl _) rh6
    · have e : i = xs.length := by omega
      subst e
      exact .inl ⟨wk.stop _ H3 m3 t3 rh3 o (Nat.le_refl _), f _ m3 (hd m3 w3) _ H3 (t1.trans t3) (.bl _) rh3⟩
end
end DL

namespace DL
open PySem PySem.Spec PyProof.Rows L2 GA GxR

/-! ### list.remove of data -/
mutual
theorem py_plain : ∀ d : D, d.py.plain = true
  | .non | .bl _ | .int _ | .str _ | .ref _ => rfl
  | .tup ds => pys_plain ds
  | .ktup ds => pys_plain ds
theorem pys_plain : ∀ ds : List D, PyData.plainAll (D.pys ds) = true
  | [] => rfl
  | d :: ds => by
    show (d.py.plain && PyData.plainAll (D.pys ds)) = true
    rw [py_plain d, pys_plain ds]; rfl
end
def rRemD (K : PySem.W.Frag) : V → List V → Hp → VK → Prop := fun x vs H Q => ∃ (l : Addr) (xs : List V) (y : V) (d : PyData) (ds : List PyData) (j : Nat), x = .ref l ∧ vs = [y] ∧ H l = some (.lst xs) ∧ DpAll K H xs ds ∧ Dp K H y d ∧
  PyData.plainAll ds = true ∧ d.plain = true ∧ d.depth ≤ 60 ∧ SeqAt.dataPlace ds d = some j ∧ Q .non (upd H l (.lst (xs.eraseIdx j)))
theorem Vals.erase : ∀ {xs : List V} {us : List Value} (n : Nat), Vals xs us → Vals (xs.eraseIdx n) (us.eraseIdx n)
  | _, _, _, .nil => .nil
  | _, _, 0, .cons r t => t
  | _, _, n + 1, .cons r t => .cons r (Vals.erase n t)
theorem mt_removeD {X : Cx} {k : Nat} (hr : Room k X.A) : MtM X "list.remove" (rRemD X.K) := by
  intro pins s σ H x vs v us Q I rx rv h
  obtain ⟨l, xs, y, d, ds, j, rfl, rfl, hH, hall, hd, p1, p2, hdep, hp, q⟩ := h
  cases rx
  obtain ⟨u, rfl, ru⟩ := rv.one
  obtain ⟨z, its, n, r, hl, e⟩ := I.lstM hH
  obtain ⟨as, ra⟩ := Dp.readsAll I ds xs its hall r
  obtain ⟨bs, rb⟩ := Dp.reads I d y u hd ru
  refine SeqAt.remove_list_data (j := j) (vs := its.toArray) ⟨_, e, rfl, _, rfl⟩ (by simpa using ra) rb p1 p2 ?_ hp (by rw [List.size_toArray, ← hl]; exact z) ?_
  · have := hr.units
    have h2 : min (PyData.depthAll ds) d.depth ≤ d.depth := Nat.min_le_right _ _
    omega
  · refine ⟨.non, _, I.lset (its' := its.eraseIdx j) (t' := s.toks) hH e ?_ (Vals.erase j r) ?_, rfl, q⟩
    · have : (its.toArray.eraseIdxIfInBounds j).toList = its.eraseIdx j := by
        by_cases hj : j < its.toArray.size
        · rw [Array.eraseIdxIfInBounds, dif_pos hj, Array.toList_eraseIdx]
        · rw [Array.eraseIdxIfInBounds, dif_neg hj]
          have h2 : its.length ≤ j := by simpa using hj
          rw [List.eraseIdx_of_length_le h2]
      exact Array.ext' (by rw [this])
    · exact Nat.le_trans (by rw [List.length_eraseIdx]; split <;> omega) z
def rdRemove : DRM := fun x ys m Q => ∃ a ds y j, x = .ref a ∧ ys = [y] ∧ m.mu a = some (.lst ds) ∧ D.pures ds = true ∧ y.pure = true ∧ y.py.depth ≤ 60 ∧ SeqAt.dataPlace (D.pys ds) y.py = some j ∧ Q .non (m.set a (.lst (ds.eraseIdx j)))
theorem mtl_remove {K : PySem.W.Frag} : MtL K (rRemD K) rdRemove := fun x ys vx vs H m Q' Q rx rs rh ⟨a, ds, y, j, ex, ey, h, p1, p2, hdep, hp, q⟩ f => by
  subst ex ey
  cases rx
  obtain ⟨v, rfl, rv⟩ := rs.one
  obtain ⟨xs, e, rr⟩ := rh.obj _ _ h
  have t := rh.putTS (o := .lst (xs.eraseIdx j)) h
  exact ⟨a, xs, v, y.py, D.pys ds, j, rfl, rfl, e, Reps.dp _ _ p1 rr, Rep.dp _ _ p2 rv, pys_plain _, py_plain _, hdep, hp, f _ _ q _ _ t .non (rh.put (x := .lst (ds.eraseIdx j)) h ⟨_, upd_same, Reps.mono t _ _ (rr.erase j)⟩)⟩
section
variable {X : Cx} {a b e o i value : Expr} {ta tb te to td ty tv : DTr} {es : List Expr} {t : DTA} {pos apos pos' : Pos}
theorem de_remove {k : Nat} (hr : Room k X.A) (ho : DE X o to) (he : DE X e te)
    (hbase : attributeBase o "remove" X.env (eval o X.env) = eval o X.env := by rfl)
    (hfew : ((backTo pos (starEach [e] X.env)).all (fun x => !x.1) && (backToKw pos (keywordEach [] X.env)).all (fun x => x.1.isSome)
      && decide ([e].length + ([] : List Keyword).length + (if ([] : List Keyword).isEmpty then 0 else 1) < 30)) = true := by rfl)
    (hline : (apos.endLine == pos.line) = true := by rfl) (hs : starEach [e] X.env = (false, eval e X.env) :: starEach [] X.env := by rfl) (hplain : (backTo pos (starEach [] X.env)).any (·.1) = false := by rfl) :
    DE X (.Call (.Attribute o "remove" apos) [e] [] pos) (dMeth rdRemove to (dCons te dNil)) := de_meth PySem.F.slot_list_remove PySem.F.type_list_remove (mt_removeD hr) mtl_remove ho (da_cons he da_nil hs) hbase hfew hline hs hplain

/-! ### dicts -/
def kD : Key → D
  | .inl k => .int k
  | .inr s => .str s
theorem kD_rep {K : PySem.W.Frag} {H : Hp} {k : Key} {v : V} (r : Rep K H (kD k) v) : v = kV k := by
  cases k <;> (cases r; rfl)
theorem kDs_rep {K : PySem.W.Frag} {H : Hp} : ∀ {ks : List Key} {vs : List V}, Reps K H (ks.map kD) vs → vs = ks.map kV
  | [], _, r => by cases r; rfl
  | k :: ks, _, r => by
    cases r with
    | cons r1 r2 => rw [kD_rep r1, kDs_rep r2]; rfl
theorem rep_kD {K : PySem.W.Frag} {H : Hp} : ∀ k : Key, Rep K H (kD k) (kV k)
  | .inl k => .int k
  | .inr s => .str s
theorem reps_kD {K : PySem.W.Frag} {H : Hp} : ∀ ks : List Key, Reps K H (ks.map kD) (ks.map kV)
  | [] => .nil
  | k :: ks => .cons (rep_kD k) (reps_kD ks)
def valD {κ : Type} [DecidableEq κ] (kvs : List (κ × D)) (k : κ) : Option D := (kvs.find? fun kv => decide (kv.1 = k)).map (·.2)
def putD {κ : Type} [DecidableEq κ] (kvs : List (κ × D)) (k : κ) (v : D) : List (κ × D) :=
  if (kvs.any fun kv => decide (kv.1 = k)) = true then kvs.map (fun kv => if kv.1 = k then (kv.1, v) else kv) else kvs ++ [(k, v)]
theorem KVd.val {K : PySem.W.Frag} {H : Hp} {κ : Type} [DecidableEq κ] {k : κ} : ∀ {kvs : List (κ × D)} {ys : List (κ × V)}, KVd K H kvs ys → (∀ d, valD kvs k = some d → ∃ v, valV ys k = some v ∧ Rep K H d v) ∧ (valD kvs k = none → valV ys k = none)
  | _, _, .nil => ⟨fun d h => (by cases h), fun _ => rfl⟩
  | _, _, .cons (a := p) (b := q) (l₁ := l1) (l₂ := l2) r t => by
    obtain ⟨ih1, ih2⟩ := KVd.val (k := k) t
    unfold valD valV at *
    rw [List.find?_cons, List.find?_cons]
    by_cases e : p.1 = k
    · have e' : q.1 = k := by rw [← r.1]; exact e
      simp only [e, e', decide_true]
      exact ⟨fun d h => ⟨q.2, rfl, by simp at h; rw [← h]; exact r.2⟩, fun h => by simp at h⟩
    · have e' : ¬ q.1 = k := by rw [← r.1]; exact e
      simp only [decide_eq_false e, decide_eq_false e']
      exact ⟨ih1, ih2⟩
theorem KVd.length {K : PySem.W.Frag} {H : Hp} {κ : Type} {kvs : List (κ × D)} {ys : List (κ × V)} (h : KVd K H kvs ys) : kvs.length = ys.length := Paired.length h
theorem KVd.any {K : PySem.W.Frag} {H : Hp} {κ : Type} [DecidableEq κ] {k : κ} : ∀ {kvs : List (κ × D)} {ys : List (κ × V)}, KVd K H kvs ys → (kvs.any fun kv => decide (kv.1 = k)) = (ys.any fun kv => decide (kv.1 = k))
  | _, _, .nil => rfl
  | _, _, .cons r t => by rw [List.any_cons, List.any_cons, KVd.any t, r.1]
theorem KVd.map {K : PySem.W.Frag} {H : Hp} {κ : Type} [DecidableEq κ] {k : κ} {d : D} {v : V} (rv : Rep K H d v) : ∀ {kvs : List (κ × D)} {ys : List (κ × V)}, KVd K H kvs ys → KVd K H (kvs.map fun kv => if kv.1 = k then (kv.1, d) else kv) (ys.map fun kv => if kv.1 = k then (kv.1, v) else kv)
  | _, _, .nil => .nil
  | _, _, .cons (a := p) (b := q) r t => by
    refine .cons ?_ (KVd.map rv t)
    by_cases e : p.1 = k
    · have e' : q.1 = k := by rw [← r.1]; exact e
      simp only [if_pos e, if_pos e']
      exact ⟨r.1, rv⟩
    · have e' : ¬ q.1 = k := by rw [← r.1]; exact e
      simp only [if_neg e, if_neg e']
      exact r
theorem KVd.append {K : PySem.W.Frag} {H : Hp} {κ : Type} : ∀ {kvs ks : List (κ × D)} {ys zs : List (κ × V)}, KVd K H kvs ys → KVd K H ks zs → KVd K H (kvs ++ ks) (ys ++ zs)
  | _, _, _, _, .nil, h => h
  | _, _, _, _, .cons r t, h => .cons r (KVd.append t h)
theorem KVd.put {K : PySem.W.Frag} {H : Hp} {κ : Type} [DecidableEq κ] {k : κ} {d : D} {v : V} {kvs : List (κ × D)} {ys : List (κ × V)} (h : KVd K H kvs ys) (rv : Rep K H d v) : KVd K H (putD kvs k d) (putK ys k v) := by
  unfold putD putK
  rw [h.any (k := k)]
  split
  · exact h.map rv
  · exact h.append (.cons ⟨rfl, rv⟩ .nil)
/-- what stands at the key y of the dict at a -/
def GetD (m : M) (a : Addr) (y : D) (r : Option D) : Prop := (∃ kvs k, m.mu a = some (.dic kvs) ∧ y = kD k ∧ r = valD kvs k) ∨ ∃ kvs ks, m.mu a = some (.dit kvs) ∧ y = .tup (ks.map kD) ∧ r = valD kvs ks
theorem GetD.v {K : PySem.W.Frag} {H : Hp} {m : M} {a : Addr} {y : D} {v : V} {r : Option D} (h : GetD m a y r) (ry : Rep K H y v) (rh : RelH K H m) : ∃ o, DGet H a v o ∧ (∀ d, r = some d → ∃ u, o = some u ∧ Rep K H d u) ∧ (r = none → o = none) := by
  rcases h with ⟨kvs, k, e, rfl, er⟩ | ⟨kvs, ks, e, rfl, er⟩
  · obtain ⟨ys, e2, kv⟩ := rh.obj _ _ e
    have := kD_rep ry
    subst this er
    obtain ⟨h1, h2⟩ := kv.val (k := k)
    exact ⟨valV ys k, DGet.k e2, fun d hd => by obtain ⟨u, hu, ru⟩ := h1 d hd; exact ⟨u, hu, ru⟩, h2⟩
  · obtain ⟨ys, e2, kv⟩ := rh.obj _ _ e
    cases ry with
    | tup eb rr =>
      have := kDs_rep rr
      subst this er
      obtain ⟨h1, h2⟩ := kv.val (k := ks)
      exact ⟨valV ys ks, DGet.t e2 eb, fun d hd => by obtain ⟨u, hu, ru⟩ := h1 d hd; exact ⟨u, hu, ru⟩, h2⟩
def dDGet (td ty : DTr) : DTr := fun δ m Q => td δ m fun x m1 => ty δ m1 fun y m2 => ∃ a d, x = .ref a ∧ GetD m2 a y (some d) ∧ Q d m2
theorem de_dget {k : Nat} (hr : Room k X.A) (ho : DE X o td) (hi : DE X i ty) (hs : NoSl i := by exact fun _ _ => rfl) : DE X (.Subscript o i pos) (dDGet td ty) := (pe_dget (hu_of hr) ho hi hs).imp fun σ H Q ⟨δ, m, Q', rs, rh, q, f⟩ =>
  ⟨δ, m, _, rs, rh, q, fun x m1 q1 v H1 t1 r1 rh1 => ⟨δ, m1, _, rs.mono t1, rh1, q1, fun y m2 ⟨a, d, ex, hg, q2⟩ u H2 t2 r2 rh2 => by
    subst ex; cases r1
    obtain ⟨o, h1, h2, _⟩ := hg.v r2 rh2
    obtain ⟨w, rfl, rw'⟩ := h2 d rfl
    exact ⟨a, w, rfl, h1, f d m2 q2 w H2 (t1.trans t2) rw' rh2⟩⟩⟩
def dDIn (neg : Bool) (ty td : DTr) : DTr := fun δ m Q => ty δ m fun y m1 => td δ m1 fun x m2 => ∃ a r, x = .ref a ∧ GetD m2 a y r ∧ Q (.bl (if neg then !r.isSome else r.isSome)) m2
theorem isSome_eq {K : PySem.W.Frag} {H : Hp} {r : Option D} {o : Option V} (h1 : ∀ d, r = some d → ∃ u, o = some u ∧ Rep K H d u) (h2 : r = none → o = none) : o.isSome = r.isSome := by
  cases r with
  | none => rw [h2 rfl]; rfl
  | some d => obtain ⟨u, rfl, _⟩ := h1 d rfl; rfl
theorem up_din {K : PySem.W.Frag} {ty td : DTr} : ∀ σ H Q, up K (dDIn false ty td) σ H Q → tDIn (up K ty) (up K td) σ H Q := fun σ H Q ⟨δ, m, Q', rs, rh, q, f⟩ =>
  ⟨δ, m, _, rs, rh, q, fun y m1 q1 v H1 t1 r1 rh1 => ⟨δ, m1, _, rs.mono t1, rh1, q1, fun x m2 ⟨a, r, ex, hg, q2⟩ u H2 t2 r2 rh2 => by
    subst ex; cases r2
    obtain ⟨o, h1, h2, h3⟩ := hg.v (Rep.mono t2 _ _ r1) rh2
    refine ⟨a, o, rfl, h1, ?_⟩
    rw [isSome_eq h2 h3]
    exact f _ m2 q2 _ H2 (t1.trans t2) (.bl _) rh2⟩⟩
theorem up_dnotin {K : PySem.W.Frag} {ty td : DTr} : ∀ σ H Q, up K (dDIn true ty td) σ H Q → tDNotIn (up K ty) (up K td) σ H Q := fun σ H Q ⟨δ, m, Q', rs, rh, q, f⟩ =>
  ⟨δ, m, _, rs, rh, q, fun y m1 q1 v H1 t1 r1 rh1 => ⟨δ, m1, _, rs.mono t1, rh1, q1, fun x m2 ⟨a, r, ex, hg, q2⟩ u H2 t2 r2 rh2 => by
    subst ex; cases r2
    obtain ⟨o, h1, h2, h3⟩ := hg.v (Rep.mono t2 _ _ r1) rh2
    refine ⟨a, o, rfl, h1, ?_⟩
    rw [isSome_eq h2 h3]
    exact f _ m2 q2 _ H2 (t1.trans t2) (.bl _) rh2⟩⟩
theorem de_din {k : Nat} (hr : Room k X.A) (hi : DE X i ty) (ho : DE X o td) (hb : behindInMarks .In o = false := by rfl) : DE X (.Compare i [.In] [o] pos) (dDIn false ty td) := (pe_cmp (pc_din (hu_of hr) hi ho) hb).imp up_din
theorem dt_din {k : Nat} (hr : Room k X.A) (hi : DE X i ty) (ho : DE X o td) (hb : behindInMarks .In o = false := by rfl) : DTst X (.Compare i [.In] [o] pos) (dB (dDIn false ty td)) := (pt_cmp (pc_din (hu_of hr) hi ho) hb).imp fun σ H Q q => up_din σ H _ (up_B σ H Q q)
theorem dt_dnotin {k : Nat} (hr : Room k X.A) (hi : DE X i ty) (ho : DE X o td) (hb : behindInMarks .NotIn o = false := by rfl) : DTst X (.Compare i [.NotIn] [o] pos) (dB (dDIn true ty td)) := (pt_cmp (pc_dnotin (hu_of hr) hi ho) hb).imp fun σ H Q q => up_dnotin σ H _ (up_B σ H Q q)
def dDPut (td ty tv : DTr) : DTS := fun E δ m => tv δ m fun v m1 => td δ m1 fun x m2 => ty δ m2 fun y m3 => ∃ a, x = .ref a ∧
  ((∃ kvs k, m3.mu a = some (.dic kvs) ∧ y = kD k ∧ kvs.length < sizeLine ∧ E.nx δ (m3.set a (.dic (putD kvs k v)))) ∨ ∃ kvs ks, m3.mu a = some (.dit kvs) ∧ y = .tup (ks.map kD) ∧ kvs.length < sizeLine ∧ E.nx δ (m3.set a (.dit (putD kvs ks v))))
theorem ds_dput {k : Nat} (hr : Room k X.A) (ho : DE X o td) (hi : DE X i ty) (hv : DE X value tv) (hs : swapsWith value (some (.Subscript o i pos')) pos.line X.env = pure false := by rfl) : DS X (.Assign [.Subscript o i pos'] value pos) (dDPut td ty tv) :=
  (ps_dput (hu_of hr) ho hi hv hs).imp fun E σ H ⟨δ, m, E', rs, rh, q, f⟩ =>
  ⟨δ, m, _, rs, rh, q, fun v m1 q1 vv H1 t1 r1 rh1 => ⟨δ, m1, _, rs.mono t1, rh1, q1, fun x m2 q2 vx H2 t2 r2 rh2 => ⟨δ, m2, _, (rs.mono t1).mono t2, rh2, q2, fun y m3 ⟨a, ex, q3⟩ vy H3 t3 r3 rh3 => by
    subst ex; cases r2
    have rv := Rep.mono (t2.trans t3) _ _ r1
    have t13 := (t1.trans t2).trans t3
    rcases q3 with ⟨kvs, k, e, rfl, hl, qn⟩ | ⟨kvs, ks, e, rfl, hl, qn⟩
    · obtain ⟨ys, e2, kv⟩ := rh3.obj _ _ e
      have := kD_rep r3
      subst this
      have t4 := rh3.putTS (o := .dK (putK ys k vv)) e
      exact ⟨a, _, rfl, DPut.k e2 (by rw [← kv.length]; exact hl), f.nx _ _ qn _ _ (t13.trans t4) (rs.mono (t13.trans t4)) (rh3.put (x := .dic (putD kvs k v)) e ⟨_, upd_same, (kv.put rv).mono t4⟩)⟩
    · obtain ⟨ys, e2, kv⟩ := rh3.obj _ _ e
      cases r3 with
      | tup eb rr =>
        have := kDs_rep rr
        subst this
        have t4 := rh3.putTS (o := .dT (putK ys ks vv)) e
        exact ⟨a, _, rfl, DPut.t e2 eb (by rw [← kv.length]; exact hl), f.nx _ _ qn _ _ (t13.trans t4) (rs.mono (t13.trans t4)) (rh3.put (x := .dit (putD kvs ks v)) e ⟨_, upd_same, (kv.put rv).mono t4⟩)⟩⟩⟩⟩
def dNewK : DTr := fun _ m Q => ∀ p, m.mu p = none → Q (.ref p) (m.set p (.dic []))
def dNewT : DTr := fun _ m Q => ∀ p, m.mu p = none → Q (.ref p) (m.set p (.dit []))
theorem de_newK : DE X (.Dict [] [] pos) dNewK := pe_dnewK.imp fun σ H Q ⟨δ, m, Q', rs, rh, q, f⟩ => fun p hp => f _ _ (q p (rh.fresh hp)) _ _ (Ts.new hp) (.ref p) (rh.newO (x := .dic []) hp ⟨[], upd_same, .nil⟩)
theorem de_newT : DE X (.Dict [] [] pos) dNewT := pe_dnewT.imp fun σ H Q ⟨δ, m, Q', rs, rh, q, f⟩ => fun p hp => f _ _ (q p (rh.fresh hp)) _ _ (Ts.new hp) (.ref p) (rh.newO (x := .dit []) hp ⟨[], upd_same, .nil⟩)
/-- a display of constants, by its own reading -/
def dNewC (kvs : List (Key × D)) : DTr := fun _ m Q => ∀ p, m.mu p = none → Q (.ref p) (m.set p (.dic kvs))

/-! ### a dict with tuple keys, walked -/
def dLock (n : Nat) (t : DTr) : DTr := fun δ m Q => ∃ a kvs, δ[n]? = some (some (.ref a)) ∧ m.mu a = some (.dit kvs) ∧ ∀ u, t δ (m.set a (.lck kvs u)) (fun d m' => m'.mu a = some (.lck kvs u) ∧ Q d (m'.set a (.dit kvs)))
theorem de_lock {n : Nat} {t : DTr} (h : DE X e t) : DE X e (dLock n t) := (pe_lock h).imp fun σ H Q ⟨δ, m, Q', rs, rh, ⟨a, kvs, ha, he, q⟩, f⟩ => by
  obtain ⟨ys, e2, kv⟩ := rh.obj _ _ he
  refine ⟨a, _, e2, trivial, fun od => ?_⟩
  have t1 : Ts X.K H (upd H a (.frz od (.dT ys))) := rh.putTS he
  refine ⟨δ, _, _, rs.mono t1, rh.put (x := .lck kvs (.frz od (.dT ys))) he ⟨upd_same, od, ys, rfl, kv.mono t1⟩, q _, fun d m' ⟨hl, q1⟩ v H' t2 r2 rh2 => ?_⟩
  obtain ⟨e3, od', ys', e4, kv'⟩ := rh2.obj _ _ hl
  cases e4
  have t3 := rh2.putTS (o := .dT ys) hl
  exact ⟨e3, f d _ q1 v _ ((t1.trans t2).trans t3) (Rep.mono t3 _ _ r2) (rh2.put (x := .dit kvs) hl ⟨ys, upd_same, kv'.mono t3⟩)⟩
def iK (n : Nat) : DTI := fun δ m R => ∃ a kvs u, δ[n]? = some (some (.ref a)) ∧ m.mu a = some (.lck kvs u) ∧ R (kvs.map fun p => D.tup (p.1.map kD)) (fun m => m.mu a = some (.lck kvs u)) m
theorem dpi_keys {n : Nat} {tg : Expr} (he : PE X e (tVar n)) : DPI X tg e (iK n) := (pi_keys he).imp fun σ H R ⟨δ, m, Q', rs, rh, ⟨a, kvs, u, ha, hm, q⟩, f⟩ => by
  obtain ⟨v, e1, r1⟩ := rs.get ha
  cases r1
  obtain ⟨e2, od, ys, eu, kv⟩ := rh.obj _ _ hm
  subst eu
  refine ⟨_, e1, a, od, rfl, .inr ⟨ys, e2, f _ _ m q _ H (Ts.refl _ _) rh ⟨fun i H2 m2 t r o hi => ?_, fun i H2 m2 v H' t r o hi y => ?_, fun i H2 m2 t r o hi => ?_⟩⟩⟩
  · obtain ⟨e3, _⟩ := r.obj _ _ o
    exact ⟨e3, by rw [← kv.length]; simpa using hi⟩
  · obtain ⟨rfl, k, w, b, h1, rfl, h3⟩ := y
    obtain ⟨e3, od', ys', e4, kv'⟩ := r.obj _ _ o
    cases e4
    refine ⟨Ts.refl _ _, r, .tup (k.map kD), ?_, .tup h3 (reps_kD k)⟩
    have hi' : i < kvs.length := by simpa using hi
    rw [List.getElem?_map, List.getElem?_eq_getElem hi']
    have : (kvs[i]).1 = k := pair_key kv' (List.getElem?_eq_getElem hi') h1
    simp [this]
  · obtain ⟨e3, _⟩ := r.obj _ _ o
    exact ⟨e3, by rw [← kv.length]; simpa using hi⟩
where
  pair_key {K : PySem.W.Frag} {H : Hp} {κ : Type} : ∀ {kvs : List (κ × D)} {ys : List (κ × V)} {i : Nat} {p : κ × D} {k : κ} {w : V}, KVd K H kvs ys → kvs[i]? = some p → ys[i]? = some (k, w) → p.1 = k
    | _, _, _, _, _, _, .nil, h, _ => by simp at h
    | _, _, 0, _, _, _, .cons r _, h, h' => by simp at h h'; rw [← h, r.1, h']
    | _, _, i + 1, _, _, _, .cons _ t, h, h' => pair_key (i := i) t (by simpa using h) (by simpa using h')
end
end DL

namespace DL
open PySem PySem.Spec PyProof.Rows L2 GA GxR
def startD (N : List Str) (ds : List D) : Sl := ds.map some ++ List.replicate (N.length - ds.length) none
theorem start_rel {K : PySem.W.Frag} {H : Hp} {N : List Str} {ds : List D} {vs : List V} (r : Reps K H ds vs) : RelS K H (startD N ds) (L2.start N vs) := by
  unfold startD L2.start
  rw [← r.length]
  refine RelS.of (by simp [r.length]) fun i d h => ?_
  by_cases hi : i < ds.length
  · rw [List.getElem?_append_left (by simpa using hi), List.getElem?_map] at h
    cases e : ds[i]? with
    | none => rw [e] at h; cases h
    | some d' =>
      rw [e] at h; cases h
      obtain ⟨v, hv, rv⟩ := r.get e
      exact ⟨v, by rw [List.getElem?_append_left (by simpa [← r.length] using hi), List.getElem?_map, hv]; rfl, rv⟩
  · rw [List.getElem?_append_right (by simpa using hi), List.getElem?_replicate] at h
    split at h <;> cases h
section
variable {P : Program} {w : World} {K : PySem.W.Frag} {mg : Str → Option Value} {base : Heap}
/-- a def by its body, over trees -/
theorem dcal {x : Str} {st : Stmt} {f : Addr} {fd : FuncData} {N ps : List Str} {k : Nat} {sp : DSp} (F : Fun K x x st f fd) (hm : mg x = some (.ref f)) (b : Binds K fd ps []) (S : FnScope N ps (defScope st)) (hl : ∀ ds m Q, sp ds m Q → ds.length = ps.length)
    (hbody : ∀ (cdv : Value) (A : Around) (outer : List Env) (s : Shared) (H : Hp) (E : XK), Room k (A.deeper (envOfC x (defScope st) s.heap.objs.size f cdv)) →
      ∃ t, DSs (cxOf CX0 P w K mg base N x (defScope st) f cdv A outer s H E).nox (defBody st) t ∧ ∀ ds m Q, sp ds m Q → t { nx := fun _ m' => Q .non m', rt := Q } (startD N ds) m) : DCal P w K mg base (k + 1) x sp := by
  refine ⟨f, fd, ps, F.ok S (fun vs H Q E ⟨ds, m, Q', r, rh, q, f⟩ => by rw [← r.length]; exact hl ds m Q' q) fun cdv A outer s H vs Q E hr hsp => ?_, hm, F.kp, b⟩
  obtain ⟨ds, m, Q', r, rh, q, f⟩ := hsp
  obtain ⟨t, ht, h⟩ := hbody cdv A outer s H E hr
  refine ⟨_, ht, startD N ds, m, _, start_rel r, rh, h ds m Q' q, ⟨fun δ' m' q' σ' H' t' rs' rh' => f .non m' q' .non H' t' .non rh', f, fun _ _ z => z.elim, fun _ _ z => z.elim⟩⟩
/-- .. whose code object is known -/
structure FunC (K : PySem.W.Frag) (x : Str) (st : Stmt) (f : Addr) (fd : FuncData) (c : Addr) : Prop where
  ex : ∃ (oc : Value) (od : Option Addr) (kV doc pm : Value) (an : Option Addr) (ct : Value) (osl : Array (Option Value)),
    fd = PySem.W.fnOf x x (defArgs st) (defBody st) (defScope st) .none kV doc pm an (.ref c) ct ∧ K.lookup f = some ⟨oc, od, .func fd, osl⟩ ∧ PySem.W.codeIn K (.ref c) x = true
  kp : PySem.W.keepIn K (.ref f) = true
theorem FunC.fun {x : Str} {st : Stmt} {f c : Addr} {fd : FuncData} (F : FunC K x st f fd c) : Fun K x x st f fd := by
  obtain ⟨oc, od, kV, doc, pm, an, ct, osl, e, l, cd⟩ := F.ex
  exact ⟨⟨oc, od, kV, doc, pm, an, .ref c, ct, osl, e, l, cd⟩, F.kp⟩
theorem dcalC {x : Str} {st : Stmt} {f c : Addr} {fd : FuncData} {N ps : List Str} {k : Nat} {sp : DSp} (F : FunC K x st f fd c) (hm : mg x = some (.ref f)) (b : Binds K fd ps []) (S : FnScope N ps (defScope st)) (hl : ∀ ds m Q, sp ds m Q → ds.length = ps.length)
    (hbody : ∀ (A : Around) (outer : List Env) (s : Shared) (H : Hp) (E : XK), Room k (A.deeper (envOfC x (defScope st) s.heap.objs.size f (.ref c))) →
      ∃ t, DSs (cxOf CX0 P w K mg base N x (defScope st) f (.ref c) A outer s H E).nox (defBody st) t ∧ ∀ ds m Q, sp ds m Q → t { nx := fun _ m' => Q .non m', rt := Q } (startD N ds) m) : DCal P w K mg base (k + 1) x sp := by
  have F' := F.fun
  obtain ⟨oc, od, kV, doc, pm, an, ct, osl, rfl, lk, hcd⟩ := F.ex
  refine ⟨f, _, ps, fn_of lk hcd S (fun vs H Q E ⟨ds, m, Q', r, rh, q, f⟩ => by rw [← r.length]; exact hl ds m Q' q) fun A outer s H vs Q E hr hsp => ?_, hm, F.kp, b⟩
  obtain ⟨ds, m, Q', r, rh, q, f⟩ := hsp
  obtain ⟨t, ht, h⟩ := hbody A outer s H E hr
  refine ⟨_, ht.nox, startD N ds, m, _, start_rel r, rh, h ds m Q' q, ⟨fun δ' m' q' σ' H' t' rs' rh' => f .non m' q' .non H' t' .non rh', f, fun _ _ z => z.elim, fun _ _ z => z.elim⟩⟩
end
end DL

namespace DL
open PySem PySem.Spec PyProof.Rows L2 GA GxR
section
variable {X : Cx} {e : Expr} {te : DTr} {es : List Expr} {t : DTA} {pos : Pos}
/-- a text, sign by sign -/
def iS (te : DTr) : DTI := fun δ m R => te δ m fun x m1 => ∃ z : Str, x = .str z ∧ R (z.cps.toList.map fun c => D.str ⟨#[c]⟩) (fun _ => True) m1
theorem dpi_str {tg : Expr} (he : DE X e te) : DPI X tg e (iS te) := (pi_str he).imp fun σ H R ⟨δ, m, Q', rs, rh, q, f⟩ =>
  ⟨δ, m, _, rs, rh, q, fun x m1 ⟨z, ex, q1⟩ v H1 t1 r1 rh1 => by
    subst ex; cases r1
    have hl : (z.cps.toList.map fun c => D.str ⟨#[c]⟩).length = z.cps.size := by simp
    refine ⟨z, rfl, f _ _ m1 q1 _ H1 t1 rh1 ⟨fun i H m t r o hi => ?_, fun i H m v H' t r o hi y => ?_, fun i H m t r o hi => ?_⟩⟩
    · show i < z.cps.size
      rw [← hl]; exact hi
    · obtain ⟨rfl, c, hc, rfl⟩ := y
      refine ⟨Ts.refl _ _, r, .str ⟨#[c]⟩, ?_, .str _⟩
      rw [List.getElem?_map, Array.getElem?_toList, hc]; rfl
    · show z.cps.size ≤ i
      rw [← hl]; exact hi⟩
/-- a local name that holds a def -/
structure DCalAt (P : Program) (w : World) (K : PySem.W.Frag) (mg : Str → Option Value) (base : Heap) (k : Nat) (f : Addr) (sp : DSp) : Prop where
  ex : ∃ (fd : FuncData) (ps : List Str), FnOk P w K mg base CX0 k f fd ps (spUp K sp) ∧ PySem.W.keepIn K (.ref f) = true ∧ Binds K fd ps []
def dCallL (i : Nat) (f : Addr) (sp : DSp) (t : DTA) : DTr := fun δ m Q => δ[i]? = some (some (.ref f)) ∧ t δ m fun ds m1 => sp ds m1 Q
theorem de_callL {k j i : Nat} {f : Addr} {x : Str} {p : Pos} {sp : DSp} (c : DCalAt X.prog X.w X.K X.mg X.base k f sp) (hr : Room j X.A) (hk : k ≤ j) (hN : X.N[i]? = some x := by rfl)
    (hv : Vis X.env.scope x := by first | exact Or.inl rfl | exact Or.inr (Or.inl rfl) | exact Or.inr (Or.inr rfl)) (ha : DA X (e :: es) t)
    (hdb : (x == ("__debug__" : Str)) = false := by decide) (hcd : (x == ("__classdict__" : Str)) = false := by decide)
    (he : starEach (e :: es) X.env = (false, eval e X.env) :: starEach es X.env := by rfl) (hpl : (backTo pos (starEach es X.env)).any (·.1) = false := by rfl) : DE X (.Call (.Name x p) (e :: es) [] pos) (dCallL i f sp t) := by
  obtain ⟨fd, ps, F, kp, b⟩ := c.ex
  refine (pe_callL F (hr.mono hk) hN hv kp b .nil pass0 ha hdb hcd he hpl).imp fun σ H Q ⟨δ, m, Q', rs, rh, ⟨h1, q⟩, f⟩ => ?_
  obtain ⟨v, e1, r1⟩ := rs.get h1
  cases r1
  exact ⟨e1, δ, m, _, rs, rh, q, fun ds m1 q1 vs H1 t1 r1 rh1 => by
    show spUp X.K sp (vs ++ []) H1 Q _
    rw [List.append_nil]
    exact ⟨ds, m1, Q', r1, rh1, q1, f.mono t1⟩⟩
theorem DCal.at {P : Program} {w : World} {K : PySem.W.Frag} {mg : Str → Option Value} {base : Heap} {k : Nat} {x : Str} {sp : DSp} {f : Addr} (c : DCal P w K mg base k x sp) (hm : mg x = some (.ref f)) : DCalAt P w K mg base k f sp := by
  obtain ⟨f', fd, ps, F, hm', kp, b⟩ := c.ex
  rw [hm] at hm'; cases hm'
  exact ⟨fd, ps, F, kp, b⟩
theorem DCal.imp {P : Program} {w : World} {K : PySem.W.Frag} {mg : Str → Option Value} {base : Heap} {k : Nat} {x : Str} {sp sp' : DSp} (c : DCal P w K mg base k x sp) (h : ∀ ds m Q, sp' ds m Q → sp ds m Q) : DCal P w K mg base k x sp' := by
  obtain ⟨f', fd, ps, F, hm', kp, b⟩ := c.ex
  exact ⟨f', fd, ps, F.imp fun vs H Q E ⟨ds, m, Q', r, rh, q, f⟩ => ⟨ds, m, Q', r, rh, h ds m Q' q, f⟩, hm', kp, b⟩
theorem genOk {N : List Str} {scX scope : Scope} {ow : List (Str × Nat)} (h1 : scope.kind = .function) (h2 : scope.isCoroutine = false) (h3 : scope.names.lookup (".0" : Str) = some NameKind.local)
    (h4 : (scope.names.all fun y => !decide (y.2 = .cell) && (!decide (y.2 = .free) || ((decide (scX.names.lookup y.1 = some .cell) || decide (scX.names.lookup y.1 = some .free)) && decide (scope.names.lookup y.1 = some .free))) && (!decide (y.2 = .local) || decide (y.1 ∈ ow.map (·.1)) || !decide (y.1 ∈ N))) = true)
    (h5 : (ow.all fun p => decide (N[p.2]? = some p.1)) = true) : GenOk N scX scope ow := by
  have q : ∀ y ∈ scope.names, _ := List.all_eq_true.mp h4
  simp only [Bool.and_eq_true, Bool.or_eq_true, Bool.not_eq_true', decide_eq_true_eq, decide_eq_false_iff_not] at q
  refine ⟨h1, h2, fun y hy => (q y hy).1.1, h3, fun y hy e => ?_, fun y hy => ?_, fun y hy e => ?_, fun p hp => ?_⟩
  · rcases (q y hy).1.2 with z | z
    · exact (z e).elim
    · exact z.1
  · rcases (q _ hy).1.2 with z | z
    · exact (z rfl).elim
    · exact z.2
  · rcases (q y hy).2 with (z | z) | z
    · exact (z e).elim
    · exact .inl z
    · exact .inr z
  · simpa using List.all_eq_true.mp h5 p hp
end
theorem de_globS {X : Cx} {x : Str} {s : Str} {t : Tok} {pos : Pos} (hg : Gl X x) (hm : X.mg x = some (.str s t)) (hd : (x == ("__debug__" : Str)) = false := by decide) : DE X (.Name x pos) (dC (.str s)) := de_glob hg hm (v := .str s) ⟨_, rfl⟩ (fun _ => .str s) hd
theorem de_globI {X : Cx} {x : Str} {i : Int} {t : Tok} {pos : Pos} (hg : Gl X x) (hm : X.mg x = some (.int i t)) (hd : (x == ("__debug__" : Str)) = false := by decide) : DE X (.Name x pos) (dC (.int i)) := de_glob hg hm (v := .int i) ⟨_, rfl⟩ (fun _ => .int i) hd
theorem de_globR {X : Cx} {x : Str} {a : Addr} {d : D} {pos : Pos} (hg : Gl X x) (hm : X.mg x = some (.ref a)) (r : ∀ H, Rep X.K H d (.ref a)) (hd : (x == ("__debug__" : Str)) = false := by decide) : DE X (.Name x pos) (dC d) := de_glob hg hm (v := .ref a) rfl r hd
/-- the table at P stands beside the store -/
structure Tab (m : M) (P : Addr) : Prop where
  own : m.gh.own P
  is : ∀ H, m.gh.inv H → TabG H P
  grow : ∀ H H2, m.gh.inv H → Tabbed P H H2 → m.gh.inv H2
theorem Tab.set {m : M} {P a : Addr} {o : DO} (h : Tab m P) : Tab (m.set a o) P := ⟨h.own, h.is, h.grow⟩
/-- facts of a walk that leaves the store as it is: each turn's test of the item -/
theorem dAll_pure {P : Addr} {ow : List Nat} {ws : DTI} {i : Nat} {te : DTr} {δ : Sl} {m : M} {Q : DK} {xs : List D} {p : D → Bool} (hT : Tab m P) (hw : ∀ R : List D → (M → Prop) → M → Prop, R xs (fun _ => True) m → ws δ m R)
    (he : ∀ d ∈ xs, ∀ R : DK, R (.bl (p d)) m → te ((wipeD δ ow).set i (some d)) m R) (hq : Q (.bl (xs.all p)) m) : dAll P ow ws (.name i) te δ m Q := by
  refine hw _ ⟨hT.own, hT.is, hT.grow, fun j m' => m' = m ∧ (∀ d ∈ xs.take j, p d = true), ⟨rfl, by simp⟩, fun _ _ _ => trivial, ?_, ?_⟩
  · rintro j d m' hd ⟨rfl, ht⟩
    have hmem : d ∈ xs := List.mem_of_getElem? hd
    refine he d hmem _ ⟨p d, rfl, ?_⟩
    cases e : p d with
    | true =>
      rw [if_pos rfl]
      refine ⟨rfl, fun x hx => ?_⟩
      have : xs.take (j + 1) = xs.take j ++ [d] := by
        rw [List.take_succ, hd]; rfl
      rw [this] at hx
      rcases List.mem_append.mp hx with z | z
      · exact ht x z
      · rw [List.mem_singleton.mp z]; exact e
    | false =>
      rw [if_neg Bool.false_ne_true]
      have : xs.all p = false := by
        rw [Bool.eq_false_iff]; intro z
        rw [List.all_eq_true.mp z d hmem] at e; cases e
      rw [this] at hq; exact hq
  · rintro m' ⟨rfl, ht⟩
    have : xs.all p = true := List.all_eq_true.mpr fun d hd => ht d (by rw [List.take_length]; exact hd)
    rw [this] at hq; exact hq
end DL

namespace DL
open PySem PySem.Spec PyProof.Rows L2 GA GxR
section
variable {X : Cx} {a b e o : Expr} {ta tb te to : DTr} {es : List Expr} {t : DTA} {pos apos : Pos}
theorem de_fdiv (ha : DE X a ta) (hb : DE X b tb) : DE X (.BinOp a .FloorDiv b pos) (dOp (rdI CDiv (· / ·)) ta tb) := (pe_op op_fdiv ha hb).imp (up_op opl_I)
def rdMax : DRA := fun xs m Q => ∃ i j : Int, xs = [.int i, .int j] ∧ Q (.int (if j > i then j else i)) m
theorem argl_max {K : PySem.W.Frag} : ArgL K (fun xs H Q => ∃ i j, xs = [.int i, .int j] ∧ Q (.int (if j > i then j else i)) H) rdMax := fun xs vs H m Q' Q r rh ⟨i, j, e, q⟩ f => by
  subst e
  obtain ⟨v, u, rfl, rv, ru⟩ := r.two
  cases rv; cases ru
  exact ⟨i, j, rfl, f _ m q _ H (Ts.refl _ _) (.int _) rh⟩
def rdInt : DRA := fun xs m Q => ∃ i : Int, xs = [.int i] ∧ Q (.int i) m
theorem argl_int {K : PySem.W.Frag} : ArgL K (fun xs H Q => (∃ i, xs = [.int i] ∧ Q (.int i) H) ∨ ∃ k, xs = [.bl k] ∧ Q (.int (if k then 1 else 0)) H) rdInt := fun xs vs H m Q' Q r rh ⟨i, e, q⟩ f => by
  subst e
  obtain ⟨v, rfl, rv⟩ := r.one
  cases rv
  exact .inl ⟨i, rfl, f _ m q _ H (Ts.refl _ _) (.int _) rh⟩
def rdPop : DRM := fun x ys m Q => ∃ a ds y, x = .ref a ∧ ys = [] ∧ m.mu a = some (.lst ds) ∧ ds[ds.length - 1]? = some y ∧ Q y (m.set a (.lst ds.dropLast))
theorem Reps.dropLast {K : PySem.W.Frag} {H : Hp} {ds : List D} {vs : List V} (r : Reps K H ds vs) : Reps K H ds.dropLast vs.dropLast := by
  rw [List.dropLast_eq_take, List.dropLast_eq_take, ← r.length]; exact r.take _
theorem mtl_pop {K : PySem.W.Frag} : MtL K rPop rdPop := fun x ys vx vs H m Q' Q rx rs rh ⟨a, ds, y, ex, ey, h, hy, q⟩ f => by
  subst ex ey
  cases rx; cases rs
  obtain ⟨xs, e, rr⟩ := rh.obj _ _ h
  obtain ⟨u, hu, ru⟩ := rr.get hy
  have t := rh.putTS (o := .lst xs.dropLast) h
  exact ⟨a, xs, u, rfl, rfl, e, by rw [← rr.length]; exact hu, f _ _ q _ _ t (Rep.mono t _ _ ru) (rh.put (x := .lst ds.dropLast) h ⟨_, upd_same, Reps.mono t _ _ rr.dropLast⟩)⟩
theorem de_pop (ho : DE X o to) (hbase : attributeBase o "pop" X.env (eval o X.env) = eval o X.env := by rfl) (hline : (apos.endLine == pos.line) = true := by rfl) :
    DE X (.Call (.Attribute o "pop" apos) [] [] pos) (dMeth0 rdPop to) := (pe_bm0 PySem.F.plainAttrs_list PySem.F.slot_list_pop PySem.F.type_list_pop mt_pop ho hbase hline).imp (up_bm0 mtl_pop)
def dRevL (te : DTr) : DTr := fun δ m Q => te δ m fun x m1 => ∃ a ds, x = .ref a ∧ m1.mu a = some (.lst ds) ∧ ∀ p, m1.mu p = none → Q (.ref p) (m1.set p (.lst ds.reverse))
theorem Reps.reverse {K : PySem.W.Frag} {H : Hp} : ∀ {ds : List D} {vs : List V}, Reps K H ds vs → Reps K H ds.reverse vs.reverse
  | [], _, r => by cases r; exact .nil
  | d :: ds, _, r => by
    cases r with
    | cons r1 r2 => rw [List.reverse_cons, List.reverse_cons]; exact (Reps.reverse r2).append (.cons r1 .nil)
theorem de_revL {k : Nat} {p1 p2 p3 : Pos} (he : DE X e te) : DE X (.Subscript e (.Slice none none (some (.UnaryOp .USub (.Constant (.int 1) k p1) p2)) p3) pos) (dRevL te) := (pe_revL he).imp fun σ H Q ⟨δ, m, Q', rs, rh, q, f⟩ =>
  ⟨δ, m, _, rs, rh, q, fun x m1 ⟨a, ds, ex, h, q1⟩ v H1 t1 r1 rh1 => by
    subst ex; cases r1
    obtain ⟨xs, e1, rr⟩ := rh1.obj _ _ h
    exact ⟨a, xs, rfl, SqL.of e1, fun p hp => f _ _ (q1 p (rh1.fresh hp)) _ _ (t1.trans (Ts.new hp)) (.ref p) (rh1.newO hp ⟨_, upd_same, Reps.mono (Ts.new hp) _ _ rr.reverse⟩)⟩⟩
/-- a, b, c = x, y, z -/
def dPar3 (i j l : Nat) (ta : DTA) : DTS := fun E δ m => ta δ m fun ds m1 => ∃ x y z, ds = [x, y, z] ∧ E.nx (((δ.set i (some x)).set j (some y)).set l (some z)) m1
theorem Reps.three {K : PySem.W.Frag} {H : Hp} {d e g : D} {vs : List V} (r : Reps K H [d, e, g] vs) : ∃ v u w, vs = [v, u, w] ∧ Rep K H d v ∧ Rep K H e u ∧ Rep K H g w := by
  cases r with
  | cons r1 r2 => obtain ⟨u, w, rfl, r3, r4⟩ := r2.two; exact ⟨_, _, _, rfl, r1, r3, r4⟩
theorem ds_par3 {i j l : Nat} {x y z : Str} {a b c : Expr} {ta : DTA} {px py pz pt : Pos} {kt k2 pt2} (hc : X.calm = true) (hN : X.N.Nodup) (hi : X.N[i]? = some x) (hj : X.N[j]? = some y) (hl : X.N[l]? = some z) (hij : i ≠ j) (hil : i ≠ l) (hjl : j ≠ l)
    (hx : X.env.scope.names.lookup x = some .local) (hy : X.env.scope.names.lookup y = some .local) (hz : X.env.scope.names.lookup z = some .local) (ha : DA X [a, b, c] ta)
    (hw : swappedStores [.Tuple [.Name x px, .Name y py, .Name z pz] kt pt] (.Tuple [a, b, c] k2 pt2) X.env = pure (some [x, y, z]))
    (hs : swapsWithSole [.Tuple [.Name x px, .Name y py, .Name z pz] kt pt] (.Tuple [a, b, c] k2 pt2) pos.line X.env = pure false := by rfl) :
    DS X (.Assign [.Tuple [.Name x px, .Name y py, .Name z pz] kt pt] (.Tuple [a, b, c] k2 pt2) pos) (dPar3 i j l ta) := (ps_par3 hc hN hi hj hl hij hil hjl hx hy hz ha hw hs).imp fun E σ H ⟨δ, m, E', rs, rh, q, f⟩ =>
  ⟨δ, m, _, rs, rh, q, fun ds m1 ⟨x, y, z, e, q1⟩ vs H1 t1 r1 rh1 => by
    subst e
    obtain ⟨v, u, w, rfl, r2, r3, r4⟩ := r1.three
    exact ⟨v, u, w, rfl, f.nx _ m1 q1 _ H1 t1 (RelS.set r4 l (RelS.set r3 j (RelS.set r2 i (rs.mono t1)))) rh1⟩⟩
/-! ### shapes of data -/
theorem lay_pys : ∀ {ds : List D}, (∀ d ∈ ds, d.py.canLay0 = true) → PyData.canLayAll0 (D.pys ds) = true
  | [], _ => rfl
  | d :: ds, h => by
    show (d.py.canLay0 && PyData.canLayAll0 (D.pys ds)) = true
    rw [h d List.mem_cons_self, lay_pys fun x hx => h x (List.mem_cons_of_mem _ hx)]; rfl
mutual
def D.dep : D → Nat
  | .tup ds => D.deps ds + 1
  | .ktup ds => D.deps ds + 1
  | _ => 0
def D.deps : List D → Nat
  | [] => 0
  | d :: ds => max d.dep (D.deps ds)
end
mutual
theorem dep_py : ∀ d : D, d.py.depth = d.dep
  | .non | .bl _ | .int _ | .str _ | .ref _ => rfl
  | .tup ds => by show PyData.depthAll (D.pys ds) + 1 = D.deps ds + 1; rw [dep_pys ds]
  | .ktup ds => by show PyData.depthAll (D.pys ds) + 1 = D.deps ds + 1; rw [dep_pys ds]
theorem dep_pys : ∀ ds : List D, PyData.depthAll (D.pys ds) = D.deps ds
  | [] => rfl
  | d :: ds => by show max d.py.depth (PyData.depthAll (D.pys ds)) = max d.dep (D.deps ds); rw [dep_py d, dep_pys ds]
end
theorem deps_le {n : Nat} : ∀ {ds : List D}, (∀ d ∈ ds, d.dep ≤ n) → D.deps ds ≤ n
  | [], _ => Nat.zero_le _
  | d :: ds, h => by
    show max d.dep (D.deps ds) ≤ n
    have h1 := h d List.mem_cons_self
    have h2 := deps_le fun x hx => h x (List.mem_cons_of_mem _ hx)
    omega
theorem pures_of : ∀ {ds : List D}, (∀ d ∈ ds, d.pure = true) → D.pures ds = true
  | [], _ => rfl
  | d :: ds, h => by
    show (d.pure && D.pures ds) = true
    rw [h d List.mem_cons_self, pures_of fun x hx => h x (List.mem_cons_of_mem _ hx)]; rfl
/-- data that can be compared -/
structure Fine (d : D) : Prop where
  pure : d.pure = true
  dep : d.dep ≤ 60
  lay : d.py.canLay0 = true
theorem Fine.int (i : Int) : Fine (.int i) := ⟨rfl, Nat.zero_le _, rfl⟩
theorem Fine.str {s : Str} (h : PyData.strOk s = true) : Fine (.str s) := ⟨rfl, Nat.zero_le _, h⟩
theorem shaped_d {d : D} (h : Fine d) : SeqAt.shaped d.py = true := by
  unfold SeqAt.shaped
  have := h.dep
  rw [h.lay, dep_py d, decide_eq_true (by omega)]; rfl
theorem shaped_l {ds : List D} (h : ∀ d ∈ ds, Fine d) : SeqAt.shaped (.list (D.pys ds)) = true := by
  unfold SeqAt.shaped
  have h1 : (PyData.list (D.pys ds)).canLay0 = true := lay_pys fun d hd => (h d hd).lay
  have h2 : (PyData.list (D.pys ds)).depth = D.deps ds + 1 := by show PyData.depthAll (D.pys ds) + 1 = _; rw [dep_pys]
  have h3 := deps_le fun d hd => (h d hd).dep
  rw [h1, h2, decide_eq_true (by omega)]; rfl
theorem eqv_nil (ds : List D) : PyData.eqv (.list (D.pys ds)) (.list []) = ds.isEmpty := by
  cases ds <;> rfl
/-- xs != [], with a new empty list -/
theorem ne_nil {m : M} {Q : DK} {a p : Addr} {ds : List D} (ha : m.mu a = some (.lst ds)) (hp : m.mu p = some (.lst [])) (h1 : ∀ d ∈ ds, Fine d) (q : Q (.bl (!ds.isEmpty)) m) : rdEq true (.ref a) (.ref p) m Q := by
  refine ⟨_, _, .l ha (pures_of fun d hd => (h1 d hd).pure), .l hp (pures_of fun d h => (by cases h)), shaped_l h1, shaped_l (ds := []) (fun d h => (by cases h)), ?_⟩
  show Q (.bl (if true = true then !PyData.eqv (.list (D.pys ds)) (.list []) else _)) m
  rw [if_pos rfl, eqv_nil]; exact q
/-! ### displays of dicts, with keys that are written texts -/
inductive DD (X : Cx) (pos : Pos) : List (Option Expr) → List Expr → List (Str × DTr) → Prop where
  | nil : DD X pos [] [] []
  | cons {s : Str} {j : Nat} {p : Pos} {v : Expr} {tv : DTr} {ks : List (Option Expr)} {vs : List Expr} {ts : List (Str × DTr)} (h : DE X v tv) (r : DD X pos ks vs ts) : DD X pos (some (.Constant (.str s) j p) :: ks) (v :: vs) ((s, tv) :: ts)
theorem DD.len {ks : List (Option Expr)} {vs : List Expr} {ts : List (Str × DTr)} (h : DD X pos ks vs ts) : ts.length = ks.length := by
  induction h with
  | nil => rfl
  | cons h _ ih => simp [ih]
theorem DD.pps {ks : List (Option Expr)} {vs : List Expr} {ts : List (Str × DTr)} (h : DD X pos ks vs ts) : PPs X pos ks vs (ts.map fun p => (tC (.str p.1), up X.K p.2)) := by
  induction h with
  | nil => exact pps_nil
  | cons h _ ih => exact pps_cons pe_str h ih
def dPairs : List (Str × DTr) → Sl → M → (List D → M → Prop) → Prop
  | [], _, m, Q => Q [] m
  | (_, t) :: r, δ, m, Q => t δ m fun y m1 => dPairs r δ m1 fun ps m2 => Q (y :: ps) m2
def dDisp (ts : List (Str × DTr)) : DTr := fun δ m Q => ∀ p, m.mu p = none → dPairs ts δ (m.set p (.dic [])) fun ys m2 => m2.mu p = some (.dic []) ∧ Q (.ref p) (m2.set p (.dic (((ts.map fun x => (Sum.inr x.1 : Key)).zip ys).foldl (fun acc kv => putD acc kv.1 kv.2) [])))
theorem up_pairs {K : PySem.W.Frag} : ∀ (ts : List (Str × DTr)) (δ : Sl) (σ : L2.St) (H : Hp) (m : M) (Q' : List D → M → Prop) (Q : List (V × V) → Hp → Prop), RelS K H δ σ → RelH K H m → dPairs ts δ m Q' →
    (∀ ys m', ys.length = ts.length → Q' ys m' → ∀ us H', Ts K H H' → Reps K H' ys us → RelH K H' m' → Q ((ts.map fun p => V.str p.1).zip us) H') → tPairs (ts.map fun p => (tC (.str p.1), up K p.2)) σ H Q
  | [], δ, σ, H, m, Q', Q, rs, rh, q, f => f [] m rfl q [] H (Ts.refl _ _) .nil rh
  | (s, t) :: ts, δ, σ, H, m, Q', Q, rs, rh, q, f => by
    refine ⟨δ, m, _, rs, rh, q, fun y m1 q1 v H1 t1 r1 rh1 => ?_⟩
    refine up_pairs ts δ σ H1 m1 _ _ (rs.mono t1) rh1 q1 fun ys m' hl q2 us H' t2 r2 rh2 => ?_
    exact f (y :: ys) m' (by rw [List.length_cons, hl]; rfl) q2 (v :: us) H' (t1.trans t2) (.cons (Rep.mono t2 _ _ r1) r2) rh2
theorem KVd.fold {K : PySem.W.Frag} {H : Hp} : ∀ {ks : List Str} {ys : List D} {us : List V} {acc : List (Key × D)} {acv : List (Key × V)}, Reps K H ys us → KVd K H acc acv →
    KVd K H (((ks.map fun x => (Sum.inr x : Key)).zip ys).foldl (fun acc kv => putD acc kv.1 kv.2) acc) (((ks.map fun x => (Sum.inr x : Key)).zip us).foldl (fun acc kv => putK acc kv.1 kv.2) acv)
  | [], _, _, _, _, _, h => h
  | _ :: _, [], _, _, _, r, h => by cases r; exact h
  | k :: ks, y :: ys, _, _, _, r, h => by
    cases r with
    | cons r1 r2 => exact KVd.fold (ks := ks) r2 (h.put r1)
theorem de_disp {ks : List (Option Expr)} {vs : List Expr} {ts : List (Str × DTr)} (h : DD X pos ks vs ts) (hall : ks.all (·.isSome) = true := by rfl) (hl : ks.length = vs.length := by rfl) (h0 : ks ≠ [] := by exact fun z => nomatch z) (h15 : ks.length ≤ 15 := by decide) :
    DE X (.Dict ks vs pos) (dDisp ts) := (pe_disp h.pps hall hl h0 h15).imp fun σ H Q ⟨δ, m, Q', rs, rh, q, f⟩ => fun p hp => by
  have ht : ts.length ≤ 15 := by rw [h.len]; exact h15
  have t0 := Ts.new (K := X.K) (o := .dK []) hp
  refine up_pairs ts δ σ _ _ _ _ (rs.mono t0) (rh.newO (x := .dic []) hp ⟨[], upd_same, .nil⟩) (q p (rh.fresh hp)) fun ys m' hy ⟨e, q1⟩ us H' t1 r1 rh1 => ?_
  obtain ⟨zs, e1, kv0⟩ := rh1.obj _ _ e
  cases kv0
  have t2 := rh1.putTS (o := .dK (mergeK [] ((ts.map fun x => (Sum.inr x.1 : Key)).zip us))) e
  refine ⟨e1, (ts.map fun x => (Sum.inr x.1 : Key)).zip us, ?_, ?_, f _ _ q1 _ _ ((t0.trans t1).trans t2) (.ref p) (rh1.put e ⟨_, upd_same, ?_⟩)⟩
  · exact zipEq ts us
  · rw [List.length_zip, List.length_map]; omega
  · have := KVd.fold (ks := ts.map (·.1)) r1 (KVd_nil (K := X.K) (H := H'))
    rw [List.map_map] at this
    exact this.mono t2
where
  KVd_nil {K : PySem.W.Frag} {H : Hp} : KVd K H ([] : List (Key × D)) ([] : List (Key × V)) := .nil
  zipEq : ∀ (ts : List (Str × DTr)) (us : List V), (ts.map fun p => V.str p.1).zip us = ((ts.map fun x => (Sum.inr x.1 : Key)).zip us).map fun kv => (kV kv.1, kv.2)
    | [], _ => rfl
    | _ :: _, [] => rfl
    | t :: ts, u :: us => by
      rw [List.map_cons, List.map_cons, List.zip_cons_cons, List.zip_cons_cons, List.map_cons, zipEq ts us]; rfl
end
end DL

namespace PySem
open Sem (wp)
open AutoSeq1 (wpAny_loadPart')
/-! ### enumerate of a tuple -/
theorem DrawsTuple {prog : Program} {w : World} {A : Around} (hh : A.handled = none) (it t : Addr) (hne : t ≠ it) (items : Array Value) :
    Draws prog w A it [it, t] items.size (fun i v => items[i]? = some v) (fun i h => h.IsTupleIter it t i ∧ h.IsTuple t items) where
  live := fun _ _ st => let ⟨o, ho, _⟩ := st.1; ⟨o, ho⟩
  frame := fun _ _ _ st hk => ⟨st.1.at fun o e => hk it (by simp) o e, by
    obtain ⟨o, ho, r⟩ := st.2; exact ⟨o, hk t (by simp) o ho, r⟩⟩
  item := fun i s Q E hi st hQ => by
    refine wpAny_nextOf_tuple_item st.1 st.2 (x := items[i]) (by simp [hi]) fun h' hit' hs' => ?_
    refine hQ _ h' s.toks (by simp [hi]) ⟨hit', ?_⟩ hs'
    obtain ⟨o, ho, r⟩ := st.2; exact ⟨o, hs'.extBut t o hne ho, r⟩
  done := fun s Q E st hE => wpAny_nextOf_tuple_end hh st.1 st.2 (by simp) hE
theorem meets_enumerate_newT (l : Addr) (items : Array Value) (n : Nat) (dct : Option Addr) (sl : Array (Option Value)) :
    Meets (Builtin.«enumerate.__new__» ⟨[.type "enumerate", .ref l], []⟩) (fun _ R s => s.heap.get? l = some { cls := .type "tuple", dict := dct, data := .seq items n, slots := sl } ∧
      R (.ok (.ret (.ref (s.heap.push { cls := .type "tuple_iterator", data := .fields #[.ref l, .int 0 0] }).objs.size)))
        { s with heap := (s.heap.push { cls := .type "tuple_iterator", data := .fields #[.ref l, .int 0 0] }).push { cls := .type "enumerate", data := .fields #[.none, .bool false, .ref s.heap.objs.size, rawInt 0, .none, .none] } }) :=
  .of_wp fun prog w A R s h => by
    obtain ⟨hp, g, d, tk, os⟩ := s; obtain ⟨hl, h⟩ := h
    have hsub := sub_enumerate
    have hL : Heap.IsTuple (Shared.heap ⟨hp, g, d, tk, os⟩) l items := ⟨_, hl, rfl, n, rfl⟩
    wp_walk using wpAny_loadPart' hl
    refine wpAny_stack_any fun st => wpAny_pure ?_
    split
    · rename_i c _ _ _ _ _
      cases (c == Value.type "enumerate")
      · wp_walk using wpAny_loadPart' hl, wpAny_pyIter_tuple hL
        exact ⟨_, rfl, h⟩
      · wp_walk using wpAny_loadPart' hl, wpAny_pyIter_tuple hL
        exact ⟨_, rfl, h⟩
    · wp_walk using wpAny_loadPart' hl, wpAny_pyIter_tuple hL
      exact ⟨_, rfl, h⟩
theorem call_enumerate_tuple {prog : Program} {w : World} {A : Around} {E : Value → Shared → Prop} {s : Shared} {l : Addr} {items : Array Value} {Q : Value → Shared → Prop} (hL : s.heap.IsTuple l items)
    (h : ∀ h', IsEnum h' (s.heap.objs.size + 1) s.heap.objs.size 0 .none → h'.IsTupleIter s.heap.objs.size l 0 → h'.objs.size = s.heap.objs.size + 2 →
      (∀ b o, s.heap.get? b = some o → h'.get? b = some o) → Q (.ref (s.heap.objs.size + 1)) { s with heap := h' }) :
    wpAny (model prog w) A (call (.type "enumerate") [.ref l]) Q E s := by
  obtain ⟨⟨c, dct, dt, sl⟩, hl, hc, n, hd⟩ := hL
  replace hc : c = .type "tuple" := hc
  replace hd : dt = .seq items n := hd
  subst hc hd
  refine callType_new F.called_enumerate (by decide) (F.typeCall_enumerate_1 _) (F.newCall_enumerate_1 _) (fun obj => F.args_object_init_2 obj _) F.entry_enumerate_new
    (meets_enumerate_newT l items n dct sl) ⟨hl, ?_⟩
  have hz : (s.heap.push { cls := .type "tuple_iterator", data := .fields #[.ref l, .int 0 0] }).objs.size = s.heap.objs.size + 1 := Heap.size_push ..
  show _ ∧ _
  rw [hz]
  have he : IsEnum ((s.heap.push { cls := .type "tuple_iterator", data := .fields #[.ref l, .int 0 0] }).push
      { cls := .type "enumerate", data := .fields #[.none, .bool false, .ref s.heap.objs.size, rawInt 0, .none, .none] }) (s.heap.objs.size + 1) s.heap.objs.size 0 .none := by
    have := Heap.get?_push_size (s.heap.push { cls := .type "tuple_iterator", data := .fields #[.ref l, .int 0 0] })
      (o := { cls := .type "enumerate", data := .fields #[.none, .bool false, .ref s.heap.objs.size, rawInt 0, .none, .none] }) rfl
    rw [hz] at this; exact this
  refine ⟨⟨_, he, rfl⟩, h _ he ⟨_, Heap.get?_push_of_some _ (Heap.get?_push_size _ rfl), rfl, rfl⟩ (by rw [Heap.size_push, hz]) fun b o x => Heap.get?_push_of_some _ (Heap.get?_push_of_some _ x)⟩
theorem wpAny_pyNext_enum_endT {prog : Program} {w : World} {A : Around} {E : Value → Shared → Prop} {s : Shared} {e it l : Addr} {i : Nat} {items : Array Value} {old : Value} {Q : Option Value → Shared → Prop} (hh : A.handled = none)
    (he : IsEnum s.heap e it i old) (hit : s.heap.IsTupleIter it l i) (hl : s.heap.IsTuple l items) (hx : items[i]? = none)
    (hQ : ∀ h', Heap.ExtBut it s.heap h' → Q none { s with heap := h' }) : wpAny (model prog w) A (pyNext (.ref e)) Q E s := by
  have hT : s.TypeIs (.ref e) "enumerate" := ⟨_, he, rfl⟩
  unfold pyNext
  refine wpAny_bind (wpAny_attempt (wpAny_callSpecial?_slot (name := Str.ofString "__next__") hT F.slot_enumerate_next
    (wpAny_call_entry F.slot_enumerate_next hT F.entry_enumerate_next ?_ (F.args_enumerate_next_1 _))))
  show wpAny _ _ (field (.ref e) 2 >>= _) _ _ _
  refine wpAny_bind (wpAny_field he rfl (x := .ref it) rfl ?_)
  refine wpAny_bind (wpAny_nextOf_tuple_end hh hit hl hx fun h' x he' hx' => ?_)
  obtain ⟨o, ho, hc⟩ := hx'
  refine wpAny_bind (wpAny_isInstance (T := "StopIteration") (b := true) ⟨o, ho, hc⟩ isSubtype_stop ?_)
  exact wpAny_pure (hQ _ he')
end PySem
namespace DL
open PySem PySem.Spec PyProof.Rows L2 GA GxR
/-- the tuple at a, each item in a new pair -/
def IteT (K : PySem.W.Frag) (a : Addr) : It :=
  ⟨fun i H => ∃ (xs : List V) (x : V), SqT K H a xs ∧ xs[i]? = some x, fun i H v H' => ∃ T x, v = .ref T ∧ H T = none ∧ H' = upd H T (.tup [.int (i : Nat), x]) ∧ ∀ xs, SqT K H a xs → xs[i]? = some x, fun i H => ∃ xs : List V, SqT K H a xs ∧ xs.length ≤ i⟩
theorem turn_enumT {P : Program} {w : World} {K : PySem.W.Frag} {elts : List Expr} {kk : Nat} {tpos : Pos} (a e it : Addr) (hai : a ≠ it) (hae : a ≠ e) :
    Turn P w K (.Tuple elts kk tpos) (IteT K a) [e, it] e (fun i h => (∃ old, IsEnum h e it ((i : Nat) : Int) old) ∧ h.IsTupleIter it a i ∧ e ≠ it) where
  mem := by simp
  obj := fun i h st b hb => by
    obtain ⟨⟨old, he⟩, ⟨o, ho, hc, hd⟩, _⟩ := st
    have e' : b = e ∨ b = it := by simpa using hb
    rcases e' with z | z
    · rw [z]; exact ⟨_, he, fun v q => nomatch q⟩
    · rw [z]; exact ⟨o, ho, fun v q => by rw [hd] at q; cases q⟩
  keep := fun i h h' st k => let ⟨⟨old, he⟩, hi, hne⟩ := st; ⟨⟨old, k e (by simp) _ he⟩, hi.at fun o q => k it (by simp) o q, hne⟩
  item := by
    intro X hP hw hK hc i pins s σ H E I hf st hg
    subst hP hw hK
    obtain ⟨⟨old, he⟩, hit, hne⟩ := st
    obtain ⟨xs, x, hq, hx⟩ := hg
    obtain ⟨its, rv, p, hz⟩ := I.tuple hq
    obtain ⟨u, hu, ru⟩ := rv.get hx
    have hel : e < s.heap.objs.size := Heap.lt_size he
    have hil : it < s.heap.objs.size := by obtain ⟨_, q, _⟩ := hit; exact Heap.lt_size q
    have hlt : i < its.toArray.size := by
      by_cases z : i < its.length
      · simpa using z
      · rw [List.getElem?_eq_none (by omega)] at hu; cases hu
    refine wpAny_pyNext_enum_itemD (DrawsTuple (A := X.A.in1) (show X.A.in1.handled = none from I.ok.hd hc) it a hai its.toArray) he ⟨hit, p⟩ hlt hne (by simp; exact ⟨hne, fun z => hae z.symm⟩) fun x' h' tk hx' ho hst hT hsz hk => ?_
    have ex : x' = u := by
      have : its[i]? = some x' := by simpa using hx'
      rw [hu] at this; cases this; rfl
    subst ex
    refine ⟨_, rfl, wpAny_letOwnedTupleGo_enum (s := { s with heap := h', toks := tk + 1 }) ho fun h'' he' sb => ?_⟩
    have hT2 : h''.get? s.heap.objs.size = some { cls := .type "tuple", data := .seq #[.int i tk, x'] } := (sb.2 _ (Nat.ne_of_gt hel)).trans hT
    have new : ObjOk X.prog X.w (upd H s.heap.objs.size (.tup [.int (i : Nat), x])) h'' s.heap.objs.size (.tup [.int (i : Nat), x]) :=
      ⟨by show 2 ≤ sizeLine; decide, [.int i tk, x'], .cons ⟨_, rfl⟩ (.cons ru .nil), ⟨_, hT2, rfl, _, rfl⟩⟩
    have I1 : Inv X pins σ (upd H s.heap.objs.size (.tup [.int (i : Nat), x])) { s with heap := h'', toks := tk + 1 } :=
      I.turnedNew (ch := [e, it]) (fun b ob hb q => (sb.2 b (fun z => hb (by simp [z]))).trans (hk b ob (fun z => hb (by simp [z])) (fun z => hb (by simp [z])) q)) hf (Nat.le_refl _) new
    refine ⟨.ref s.heap.objs.size, _, I1, rfl, ⟨_, x, rfl, I.hok.fresh (Nat.le_refl _), rfl, fun ys hy => by rw [I.tuple_inj hy hq]; exact hx⟩, ⟨⟨x', ?_⟩, hst.1.at fun o q => (sb.2 it (Ne.symm hne)).trans q, hne⟩, fun b hb => ?_⟩
    · have e1 : ((i + 1 : Nat) : Int) = (i : Int) + 1 := by omega
      rw [e1]; exact he'
    · have hb' : b < s.heap.objs.size := by
        have e' : b = e ∨ b = it := by simpa using hb
        rcases e' with z | z
        · rw [z]; exact hel
        · rw [z]; exact hil
      rw [upd_ne (Nat.ne_of_lt hb')]
      exact (hf b hb).1
  done := by
    intro X hP hw hK hc i pins s σ H E I hf st hg
    subst hP hw hK
    obtain ⟨⟨old, he⟩, hit, hne⟩ := st
    obtain ⟨xs, hq, hx⟩ := hg
    obtain ⟨its, rv, p, hz⟩ := I.tuple hq
    obtain ⟨f0, f1, f2, f3, f4, f5⟩ := hf it (by simp)
    have hl := rv.length
    exact wpAny_pyNext_enum_endT (I.ok.hd hc) he hit p (by simp; omega) fun h' eb => ⟨rfl, I.turned (t' := s.toks) (fun b o hb q => eb b o hb q) f0 f1 f3 f4 f5⟩
  self := fun A i s Q E st h => let ⟨⟨_, he⟩, _⟩ := st; wpAny_pyIter_enum he h
def iEnumT (K : PySem.W.Frag) (ta : TA) : TI := fun σ H R => ta σ H fun vs H1 => ∃ a xs, vs = [.ref a] ∧ SqT K H1 a xs ∧ R (IteT K a) H1
theorem pi_enumT {X : Cx} {e : Expr} {ta : TA} {p pos tpos : Pos} {elts : List Expr} {kk : Nat} (hg : Gl X "enumerate") (hm : X.mg "enumerate" = none) (ha : PA X [e] ta) (hs : starEach [e] X.env = [(false, eval e X.env)] := by rfl) :
    PI X (.Tuple elts kk tpos) (.Call (.Name "enumerate" p) [e] [] pos) (iEnumT X.K ta) := by
  refine ⟨fun pins s σ H R I h => ?_⟩
  refine Call_ (ld_blt I hg hm boot_enumerate (PyProof.Rows.callWith_type1 (thn (ha.run pos pins s σ H _ I h) fun us s1 ⟨vs, H1, I1, r1, q1⟩ => ?_) hs rfl))
  obtain ⟨a, xs, ex, hq, q⟩ := q1
  subst ex
  cases r1 with
  | cons r rr =>
    cases rr
    cases r
    obtain ⟨its, rv, p', hz⟩ := I1.tuple hq
    have hal : a < s1.heap.objs.size := by obtain ⟨o, ho, _⟩ := p'; exact Heap.lt_size ho
    refine call_enumerate_tuple p' fun h' he hit hsz hk => wpAny_pyIter_enum he ?_
    have I2 : Inv X pins σ H1 { s1 with heap := h' } := I1.kept (t' := s1.toks) hk
    refine ⟨s1.heap.objs.size + 1, [s1.heap.objs.size + 1, s1.heap.objs.size], _, _, H1, rfl, I2, turn_enumT a (s1.heap.objs.size + 1) s1.heap.objs.size (Nat.ne_of_lt hal) (Nat.ne_of_lt (Nat.lt_succ_of_lt hal)), ⟨⟨.none, he⟩, hit, Nat.succ_ne_self _⟩, fun b hb => ?_, q⟩
    have e' : b = s1.heap.objs.size + 1 ∨ b = s1.heap.objs.size := by simpa using hb
    have hle : s1.heap.objs.size ≤ b := by
      rcases e' with z | z
      · rw [z]; exact Nat.le_add_right _ _
      · rw [z]; exact Nat.le_refl _
    exact I1.fpOk hle (I1.hok.fresh hle)
/-- enumerate(t), t a tuple: pairs -/
def enumD : Nat → List D → List D
  | _, [] => []
  | n, d :: ds => .tup [.int (n : Int), d] :: enumD (n + 1) ds
theorem enumD_len : ∀ (n : Nat) (ds : List D), (enumD n ds).length = ds.length
  | _, [] => rfl
  | n, d :: ds => by simp [enumD, enumD_len]
theorem enumD_get : ∀ {n i : Nat} {ds : List D} {d : D}, ds[i]? = some d → (enumD n ds)[i]? = some (.tup [.int ((n + i : Nat) : Int), d])
  | _, _, [], _, h => by simp at h
  | n, 0, d :: ds, _, h => by simp at h; subst h; rfl
  | n, i + 1, d :: ds, e, h => by
    have h' : ds[i]? = some e := by simpa using h
    have := enumD_get (n := n + 1) h'
    have e1 : n + 1 + i = n + (i + 1) := by omega
    rw [e1] at this
    simpa [enumD] using this
def iEn (te : DTr) : DTI := fun δ m R => te δ m fun x m1 => ∃ ds, (x = .tup ds ∨ x = .ktup ds) ∧ R (enumD 0 ds) (fun _ => True) m1
theorem dpi_enum {X : Cx} {e : Expr} {te : DTr} {p pos tpos : Pos} {elts : List Expr} {kk : Nat} (hg : Gl X "enumerate") (hm : X.mg "enumerate" = none) (he : DE X e te) (hs : starEach [e] X.env = [(false, eval e X.env)] := by rfl) :
    DPI X (.Tuple elts kk tpos) (.Call (.Name "enumerate" p) [e] [] pos) (iEn te) := (pi_enumT hg hm (pa_cons he pa_nil (by rw [hs]; rfl)) hs).imp fun σ H R ⟨δ, m, Q', rs, rh, q, f⟩ =>
  ⟨δ, m, _, rs, rh, q, fun x m1 ⟨ds, ex, q1⟩ v H1 t1 r1 rh1 => by
    obtain ⟨a, vs, rfl, hsq, rr⟩ := sq_of ex r1
    refine ⟨a, vs, rfl, hsq, f _ _ m1 q1 _ H1 t1 rh1 ⟨fun i H m t r o hi => ?_, fun i H m v H' t r o hi y => ?_, fun i H m t r o hi => ?_⟩⟩
    · rw [enumD_len] at hi
      exact ⟨vs, vs[i]'(by rw [← rr.length]; exact hi), t.1 _ _ hsq, by simp⟩
    · obtain ⟨T, x, rfl, hT, rfl, hy⟩ := y
      have hx := hy vs (t.1 _ _ hsq)
      obtain ⟨d, hd, rd⟩ := (Reps.mono t _ _ rr).getV hx
      refine ⟨Ts.new hT, r.new hT, .tup [.int (i : Int), d], by have := enumD_get (n := 0) hd; rw [Nat.zero_add] at this; exact this, .tup upd_same (.cons (.int _) (.cons (Rep.mono (Ts.new hT) _ _ rd) .nil))⟩
    · rw [enumD_len] at hi
      exact ⟨vs, t.1 _ _ hsq, by rw [← rr.length]; exact hi⟩⟩
end DL

namespace DL
open PySem PySem.Spec PyProof.Rows L2 GA GxR
/-! ### calls by keywords, in the parameters' order -/
structure DCalK (P : Program) (w : World) (K : PySem.W.Frag) (mg : Str → Option Value) (base : Heap) (k : Nat) (x : Str) (ps : List Str) (sp : DSp) : Prop where
  ex : ∃ (f : Addr) (fd : FuncData), FnOk P w K mg base CX0 k f fd ps (spUp K sp) ∧ mg x = some (.ref f) ∧ PySem.W.keepIn K (.ref f) = true ∧ ∀ ws : List Value, ws.length = ps.length → bindArgs fd ⟨[], ps.zip ws⟩ = pure (ps.zip ws)
section
variable {P : Program} {w : World} {K : PySem.W.Frag} {mg : Str → Option Value} {base : Heap}
theorem dcalB {x : Str} {st : Stmt} {f : Addr} {fd : FuncData} {N ps : List Str} {k : Nat} {sp : DSp} (F : Fun K x x st f fd) (hm : mg x = some (.ref f)) (b : Binds K fd ps [])
    (hk : ∀ (kV doc pm : Value) (an : Option Addr) (cdv ct : Value) (ws : List Value), ws.length = ps.length → bindArgs (PySem.W.fnOf x x (defArgs st) (defBody st) (defScope st) .none kV doc pm an cdv ct) ⟨[], ps.zip ws⟩ = pure (ps.zip ws))
    (S : FnScope N ps (defScope st)) (hl : ∀ ds m Q, sp ds m Q → ds.length = ps.length)
    (hbody : ∀ (cdv : Value) (A : Around) (outer : List Env) (s : Shared) (H : Hp) (E : XK), Room k (A.deeper (envOfC x (defScope st) s.heap.objs.size f cdv)) →
      ∃ t, DSs (cxOf CX0 P w K mg base N x (defScope st) f cdv A outer s H E).nox (defBody st) t ∧ ∀ ds m Q, sp ds m Q → t { nx := fun _ m' => Q .non m', rt := Q } (startD N ds) m) : DCal P w K mg base (k + 1) x sp ∧ DCalK P w K mg base (k + 1) x ps sp := by
  have hF : FnOk P w K mg base CX0 (k + 1) f fd ps (spUp K sp) := F.ok S (fun vs H Q E ⟨ds, m, Q', r, rh, q, f⟩ => by rw [← r.length]; exact hl ds m Q' q) fun cdv A outer s H vs Q E hr hsp => by
    obtain ⟨ds, m, Q', r, rh, q, f⟩ := hsp
    obtain ⟨t, ht, h⟩ := hbody cdv A outer s H E hr
    exact ⟨_, ht, startD N ds, m, _, start_rel r, rh, h ds m Q' q, ⟨fun δ' m' q' σ' H' t' rs' rh' => f .non m' q' .non H' t' .non rh', f, fun _ _ z => z.elim, fun _ _ z => z.elim⟩⟩
  refine ⟨⟨f, fd, ps, hF, hm, F.kp, b⟩, f, fd, hF, hm, F.kp, ?_⟩
  obtain ⟨oc, od, kV, doc, pm, an, cdv, ct, osl, e, _⟩ := F.ex
  intro ws hw
  rw [e]
  exact hk kV doc pm an cdv ct ws hw
end
section
variable {X : Cx} {e : Expr} {te : DTr} {t : DTA} {pos kpos : Pos} {nm : Str} {kws : List Keyword}
def DK' (X : Cx) (kws : List Keyword) (t : DTA) : Prop := PK X kws (upA X.K t)
theorem dk_nil : DK' X [] dNil := ⟨fun pos pins s σ H Q I ⟨δ, m, Q', rs, rh, q, f⟩ => pk_nil.run pos pins s σ H Q I (f [] m q [] H (Ts.refl _ _) .nil rh)⟩
theorem dk_cons (he : DE X e te) (hr : DK' X kws t) : DK' X (⟨nm, e, kpos⟩ :: kws) (dCons te t) := ⟨fun pos pins s σ H Q I ⟨δ, m, Q', rs, rh, q, f⟩ => (pk_cons he hr).run pos pins s σ H Q I
    ⟨δ, m, _, rs, rh, q, fun x m1 q1 v H1 t1 r1 rh1 => ⟨δ, m1, _, rs.mono t1, rh1, q1, fun xs m2 q2 vs H2 t2 r2 rh2 =>
      f (x :: xs) m2 q2 (v :: vs) H2 (t1.trans t2) (.cons (Rep.mono t2 _ _ r1) r2) rh2⟩⟩⟩
theorem de_callK {k j : Nat} {x : Str} {p : Pos} {ps : List Str} {sp : DSp} (c : DCalK X.prog X.w X.K X.mg X.base k x ps sp) (hr : Room j X.A) (hk : k ≤ j) (hg : Gl X x) (hkw : DK' X kws t)
    (hall : (backToKw pos (keywordEach kws X.env)).all (·.1.isSome) = true := by rfl) (hks : (backToKw pos (keywordEach kws X.env)).filterMap (·.1) = ps := by rfl) (hdb : (x == ("__debug__" : Str)) = false := by decide)
    (hpl : ((backTo pos (starEach [] X.env)).any (·.1) || (backToKw pos (keywordEach kws X.env)).any (·.1.isNone)) = false := by rfl) : DE X (.Call (.Name x p) [] kws pos) (dCall sp t) := by
  obtain ⟨f, fd, F, hm, kp, b⟩ := c.ex
  refine ⟨fun pins s σ H Q I ⟨δ, m, Q', rs, rh, q, fq⟩ => ?_⟩
  refine wpAny_Call_Name_kw (ld_glob I hg hm ?_ hdb)
  refine PySem.W.callWith_KW0 (h₀ := X.base) I.ok.mod.kin kp hall ?_ hpl
  refine thn (hkw.run pos pins s σ H (fun zs H2 => spUp X.K sp zs H2 Q (fun _ _ _ => False)) I ⟨δ, m, _, rs, rh, q, fun ds m1 q1 vs H1 t1 r1 rh1 => ⟨ds, m1, Q', r1, rh1, q1, fq.mono t1⟩⟩) fun ws s2 ⟨zs, H2, I2, rz, q2⟩ => ⟨I2.kIn, ?_⟩
  rw [hks]
  have hl : ws.length = ps.length := by rw [← rz.length]; exact F.len _ _ _ _ q2
  refine wpAny_call (codeAny_mono (F.run X.A X.stack s2 H2 ⟨[], ps.zip ws⟩ ws zs Q _ (hr.mono hk) I2.env0 (BindsTo.of_eq (b ws hl)) rz q2) fun r s' hq => ?_)
  cases r with
  | error e => exact pass0 pins σ H2 s2 e s' I2 hq
  | ok fl =>
    cases fl with
    | ret u => exact I2.after hq
    | next => exact False.elim hq
    | brk => exact False.elim hq
    | cont => exact False.elim hq
end
end DL

namespace DL
open PySem PySem.Spec PyProof.Rows L2 GA GxR
def dLockS (n : Nat) (t : DTS) : DTS := fun E δ m => ∃ a kvs, δ[n]? = some (some (.ref a)) ∧ m.mu a = some (.dit kvs) ∧ ∀ u, t { E with nx := fun δ' m' => m'.mu a = some (.lck kvs u) ∧ E.nx δ' (m'.set a (.dit kvs)), rt := fun d m' => m'.mu a = some (.lck kvs u) ∧ E.rt d (m'.set a (.dit kvs)), bk := fun _ _ => False, ct := fun _ _ => False } δ (m.set a (.lck kvs u))
theorem ds_lock {X : Cx} {st : Stmt} {n : Nat} {t : DTS} (h : DS X st t) : DS X st (dLockS n t) := (ps_lock h).imp fun E σ H ⟨δ, m, E', rs, rh, ⟨a, kvs, ha, he, q⟩, f⟩ => by
  obtain ⟨ys, e2, kv⟩ := rh.obj _ _ he
  refine ⟨a, _, e2, trivial, fun od => ?_⟩
  have t1 : Ts X.K H (upd H a (.frz od (.dT ys))) := rh.putTS he
  refine ⟨δ, _, _, rs.mono t1, rh.put (x := .lck kvs (.frz od (.dT ys))) he ⟨upd_same, od, ys, rfl, kv.mono t1⟩, q _, ⟨?_, ?_, fun _ _ z => z.elim, fun _ _ z => z.elim⟩⟩
  · rintro δ' m' ⟨hl, q1⟩ σ' H' t2 rs2 rh2
    obtain ⟨e3, od', ys', e4, kv'⟩ := rh2.obj _ _ hl
    cases e4
    have t3 := rh2.putTS (o := .dT ys) hl
    exact ⟨e3, f.nx δ' _ q1 σ' _ ((t1.trans t2).trans t3) (rs2.mono t3) (rh2.put (x := .dit kvs) hl ⟨ys, upd_same, kv'.mono t3⟩)⟩
  · rintro d m' ⟨hl, q1⟩ v H' t2 r2 rh2
    obtain ⟨e3, od', ys', e4, kv'⟩ := rh2.obj _ _ hl
    cases e4
    have t3 := rh2.putTS (o := .dT ys) hl
    exact ⟨e3, f.rt d _ q1 v _ ((t1.trans t2).trans t3) (Rep.mono t3 _ _ r2) (rh2.put (x := .dit kvs) hl ⟨ys, upd_same, kv'.mono t3⟩)⟩
end DL

namespace DL
open PySem PySem.Spec PyProof.Rows L2 GA GxR
section
variable {X : Cx} {o e f : Expr} {td ty tx : DTr} {apos pos : Pos}
/-- d.get(k) -/
def dictD (m : M) (a : Addr) : Prop := (∃ kvs, m.mu a = some (.dic kvs)) ∨ ∃ kvs, m.mu a = some (.dit kvs)
theorem dictD.is {K : PySem.W.Frag} {H : Hp} {m : M} {a : Addr} (h : dictD m a) (r : RelH K H m) : IsD H a := by
  rcases h with ⟨kvs, h⟩ | ⟨kvs, h⟩
  · obtain ⟨ys, e, _⟩ := r.obj _ _ h
    exact .inl ⟨_, .inl e⟩
  · obtain ⟨ys, e, _⟩ := r.obj _ _ h
    exact .inr ⟨_, .inl e⟩
def dGet1 (td ty : DTr) : DTr := fun δ m Q => td δ m fun x m1 => ∃ a, x = .ref a ∧ dictD m1 a ∧ ty δ m1 fun y m2 => ∃ r, GetD m2 a y r ∧ Q (r.getD .non) m2
theorem de_get1 {k : Nat} (hr : Room k X.A) (ho : DE X o td) (he : DE X e ty) (hm : M1 X o "get" apos e pos := by exact ⟨rfl, rfl, rfl, rfl⟩) : DE X (.Call (.Attribute o "get" apos) [e] [] pos) (dGet1 td ty) := by
  refine (pe_dget1 (hu_of hr) ho he hm).imp fun σ H Q ⟨δ, m, Q', rs, rh, q, f⟩ => ?_
  refine ⟨δ, m, _, rs, rh, q, fun x m1 ⟨a, ex, hd, q1⟩ v H1 t1 r1 rh1 => ?_⟩
  subst ex; cases r1
  refine ⟨a, rfl, hd.is rh1, δ, m1, _, rs.mono t1, rh1, q1, fun y m2 ⟨r, hg, q2⟩ u H2 t2 r2 rh2 => ?_⟩
  obtain ⟨o, h1, h2, h3⟩ := hg.v r2 rh2
  refine ⟨o, h1, ?_⟩
  cases r with
  | none =>
    rw [h3 rfl]
    exact f _ m2 q2 _ H2 (t1.trans t2) .non rh2
  | some d =>
    obtain ⟨w, rfl, rw'⟩ := h2 d rfl
    exact f _ m2 q2 _ H2 (t1.trans t2) rw' rh2
end
end DL

namespace DL
open PySem PySem.Spec PyProof.Rows L2 GA GxR
/-! ### dicts that the program's top has written, with keys that are texts -/
/-- the written dict at d, with these among its items -/
structure WDict (K : PySem.W.Frag) (w : World) (d : Addr) (kvs : List (Str × D)) : Prop where
  is : ∃ es n, KDict K w d es n
  at_ : ∀ z v, (z, v) ∈ kvs → ∃ (u0 : Value) (v0 : V), PySem.W.nsIn K d z = some (some u0) ∧ RelV v0 u0 ∧ ∀ H, Rep K H v v0
def rWix (X : Cx) (d : Addr) : R2 := fun x y H Q => ∃ (z : Str) (u0 : Value) (v0 : V), x = .ref d ∧ y = .str z ∧ PySem.W.nsIn X.K d z = some (some u0) ∧ RelV v0 u0 ∧ Q v0 H
theorem pe_wix {X : Cx} {o i : Expr} {td ty : TE} {pos : Pos} {d : Addr} {es : Array DictEntry} {n : Nat} (W : KDict X.K X.w d es n) (ho : PE X o td) (hi : PE X i ty) (hs : NoSl i) : PE X (.Subscript o i pos) (tOp (rWix X d) td ty) := by
  refine ⟨fun pins s σ H Q I h => ?_⟩
  refine subD_of PySem.F.slot_dict_getitem.lookup hs (thn (ho.run pins s σ H _ I h) fun u s1 ⟨x, H1, I1, rx, q1⟩ => thn (hi.run pins s1 σ H1 _ I1 q1) fun iv s2 ⟨y, H2, I2, ry, q2⟩ => ?_)
  have q3 := q2
  obtain ⟨z, u0, v0, rfl, rfl, _⟩ := q3
  cases rx
  exact ⟨kd_type W I2, op_item_kd W pins s2 σ H2 (V.ref d) (V.str z) _ _ Q I2 (show RelV (V.ref d) (Value.ref d) from rfl) ry q2⟩
def rdWix (d : Addr) (kvs : List (Str × D)) : DR2 := fun x y m Q => ∃ (z : Str) (v : D), x = .ref d ∧ y = .str z ∧ (z, v) ∈ kvs ∧ Q v m
theorem de_wix {X : Cx} {o i : Expr} {td ty : DTr} {pos : Pos} {d : Addr} {kvs : List (Str × D)} (W : WDict X.K X.w d kvs) (ho : DE X o td) (hi : DE X i ty) (hs : NoSl i := by exact fun _ _ => rfl) : DE X (.Subscript o i pos) (dOp (rdWix d kvs) td ty) := by
  obtain ⟨es, n, D⟩ := W.is
  refine (pe_wix D ho hi hs).imp (up_op ?_)
  intro x y vx vy H m Q' Q rx ry rh ⟨z, v, ex, ey, hm, q⟩ f
  subst ex ey
  cases rx; cases ry
  obtain ⟨u0, v0, e, r, rep⟩ := W.at_ z v hm
  exact ⟨z, u0, v0, rfl, rfl, e, r, f v m q v0 H (Ts.refl _ _) (rep H) rh⟩
end DL

namespace DL
open PySem PySem.Spec PyProof.Rows L2 GA GxR
/-! ### dict comprehensions -/
def dDC (ws : DTI) (g : Tg) (tt : DTT) (tk te : DTr) (ow : List Nat) : DTr := fun δ m Q => ws δ m fun xs ok m1 => ∀ p, m1.mu p = none → ∃ P : Nat → M → Prop, P 0 (m1.set p (.dic [])) ∧ (∀ i m, P i m → ok m) ∧
  (∀ i d m, xs[i]? = some d → P i m → gD g d (wipeD δ ow) fun δ2 => tt δ2 m fun b m3 => if b = true then tk δ2 m3 fun y m4 => te δ2 m4 fun z m5 => ∃ kvs k, y = kD k ∧ m5.mu p = some (.dic kvs) ∧ kvs.length < sizeLine ∧ P (i + 1) (m5.set p (.dic (putD kvs k z))) else P (i + 1) m3) ∧
  (∀ m, P xs.length m → Q (.ref p) m)
theorem up_dc {K : PySem.W.Frag} {ws : DTI} {g : Tg} {tt : DTT} {tk te : DTr} {ow : List Nat} (hgo : ∀ i ∈ g.ix, i ∈ ow) : ∀ σ H Q, up K (dDC ws g tt tk te ow) σ H Q → tDc (upI K ws) (gV K g) (upB K tt) (up K tk) (up K te) ow σ H Q := fun σ H Q ⟨δ, m, Q', rs, rh, q, f⟩ => by
  refine ⟨δ, m, _, rs, rh, q, fun xs ok m1 hP J H1 t1 rh1 wk => fun p hp => ?_⟩
  obtain ⟨P, h0, hok, hs, hd⟩ := hP p (rh1.fresh hp)
  have tp := Ts.new (K := K) (o := .dK []) hp
  refine ⟨fun i n H' => n = xs.length - i ∧ i ≤ xs.length ∧ ∃ m', Ts K H1 H' ∧ RelH K H' m' ∧ P i m', ⟨xs.length, by simp, Nat.zero_le _, _, tp, rh1.newO (x := .dic []) hp ⟨[], upd_same, .nil⟩, h0⟩, ?_⟩
  rintro i n H2 ⟨rfl, hi, m2, t2, rh2, hp2⟩
  have o := hok _ _ hp2
  by_cases hlt : i < xs.length
  · refine .inr ⟨wk.go i H2 m2 t2 rh2 o hlt, fun H' => ∃ m', Ts K H1 H' ∧ RelH K H' m' ∧ P (i + 1) m', fun H' ⟨m', z⟩ => ⟨xs.length - (i + 1), by omega, rfl, hlt, m', z⟩, fun v H3 y => ?_⟩
    obtain ⟨t3, rh3, d, hd', rd⟩ := wk.yld i H2 m2 v H3 t2 rh2 o hlt y
    have t13 := t2.trans t3
    refine gV_ok rd (((rs.mono t1).mono t13).wipe ow) (hs i d m2 hd' hp2) fun δ4 σ4 q4 rs4 hw => ⟨?_, ?_⟩
    · have e := hw ow (fun j hj => hgo j (by cases g <;> exact hj))
      rw [e, up_lc.wipe_wipe]
    · refine ⟨δ4, m2, _, rs4, rh3, q4, fun b m5 q5 H5 t5 rh5 => ?_⟩
      cases b with
      | true =>
        rw [if_pos rfl] at q5 ⊢
        refine ⟨δ4, m5, _, rs4.mono t5, rh5, q5, fun y m6 q6 u H6 t6 r6 rh6 => ?_⟩
        refine ⟨δ4, m6, _, (rs4.mono t5).mono t6, rh6, q6, fun z m7 ⟨kvs, k, ek, ha, hl, hn⟩ w H7 t7 r7 rh7 => ?_⟩
        subst ek
        have ku := kD_rep (Rep.mono t7 _ _ r6)
        subst ku
        obtain ⟨ys, e7, kv⟩ := rh7.obj _ _ ha
        have t8 := rh7.putTS (o := .dK (putK ys k w)) ha
        exact ⟨ys, k, rfl, e7, by rw [← kv.length]; exact hl, _, ((((t13.trans t5).trans t6).trans t7).trans t8), rh7.put (x := .dic (putD kvs k z)) ha ⟨_, upd_same, (kv.put r7).mono t8⟩, hn⟩
      | false =>
        rw [if_neg Bool.false_ne_true] at q5 ⊢
        exact ⟨m5, t13.trans t5, rh5, q5⟩
  · have e : i = xs.length := Nat.le_antisymm hi (Nat.le_of_not_lt hlt)
    subst e
    exact .inl ⟨wk.stop _ H2 m2 t2 rh2 o (Nat.le_refl _), f _ m2 (hd m2 hp2) _ H2 (t1.trans t2) (.ref p) rh2⟩
theorem de_dc {X : Cx} {kx vx tg iter : Expr} {ifs : List Expr} {scope : Scope} {own : List (Str × Nat)} {pos : Pos} {ws : DTI} {g : Tg} {tt : DTT} {tk te : DTr} (hc : X.calm = true) (hN : X.N.Nodup) (hi : DPI X tg iter ws) (ok : BlkOk X.N X.env.scope scope own)
    (hg : ∀ (s : Shared) (H : Hp) (C : Addr) (cl : List (Str × Addr)) (fp : List Addr), DG (X.blk s H scope (compEnvC scope cl C X.env) fp) tg g) (ht : ∀ (s : Shared) (H : Hp) (C : Addr) (cl : List (Str × Addr)) (fp : List Addr), DPts (X.blk s H scope (compEnvC scope cl C X.env) fp) ifs tt)
    (hk : ∀ (s : Shared) (H : Hp) (C : Addr) (cl : List (Str × Addr)) (fp : List Addr), DE (X.blk s H scope (compEnvC scope cl C X.env) fp) kx tk) (he : ∀ (s : Shared) (H : Hp) (C : Addr) (cl : List (Str × Addr)) (fp : List Addr), DE (X.blk s H scope (compEnvC scope cl C X.env) fp) vx te)
    (hgo : ∀ i ∈ g.ix, i ∈ own.map (·.2) := by decide) (hs : ∀ x, foldedSetIterable iter X.env x = pure x := by intro _; rfl) :
    DE X (.DictComp kx vx [⟨tg, iter, ifs, 0⟩] scope pos) (dDC ws g tt tk te (own.map (·.2))) := (pe_dc (g := gV X.K g) (tt := upB X.K tt) (tk := up X.K tk) (tv := up X.K te) hc hN hi ok hg ht hk he hs).imp (up_dc hgo)
end DL

/-! sets whose members are tuples of keys of one kind: membership and adding, no order -/
namespace TM
open PySem PySem.Spec PyProof.Rows L2
section
variable {P : Program} {w : World} {κ : Type} [DecidableEq κ]
/-- values that are of no class statement and whose hash is asked without more -/
structure Tame (kd : KeyKind P w κ) : Prop where
  cls : ∀ k v, kd.is k v = true → ∀ n, ofAClassStatement n v = pure false
  hby : ∀ k v, kd.is k v = true → ∀ n, ∃ b, hashByValue n v = pure b
theorem tame_mix : Tame (mixKind P w) := ⟨fun k v hk n => by
    rcases keyIs_shape hk with ⟨i, tk, _, rfl⟩ | ⟨x, tk, _, rfl⟩ <;> cases n <;> rfl, fun k v hk n => by
    rcases keyIs_shape hk with ⟨i, tk, _, rfl⟩ | ⟨x, tk, _, rfl⟩
    · exact ⟨true, by cases n <;> rfl⟩
    · exact ⟨false, by cases n <;> rfl⟩⟩
variable {kd : KeyKind P w κ} {A : Around} {E : Value → Shared → Prop} {s : Shared}
theorem items_is {ks : List κ} {vs : List Value} (hi : ItemsAre kd ks vs) : ∀ v ∈ vs, ∃ k, kd.is k v = true := by
  induction hi with
  | nil => exact fun _ z => nomatch z
  | @cons k1 v1 _ _ e _ ih =>
    intro v hv
    cases hv with
    | head => exact ⟨k1, e⟩
    | tail _ z => exact ih v z
theorem cls_tup (tm : Tame kd) {ks : List κ} {b : Addr} {Q : Bool → Shared → Prop} (key : IsTupleKey kd s.heap ks b) (q : Q false s) : wpAny (model P w) A (ofAClassStatement 8 (.ref b)) Q E s := by
  have ty := key.typeIs
  obtain ⟨ob, its, sz, hob, _, hdat, hits⟩ := key
  unfold ofAClassStatement
  refine wpAny_bind (wpAny_typeOf ty ?_)
  dsimp only
  have eT : (("tuple" : String) == "tuple") = true := rfl
  simp only [eT, if_true, Bool.not_true, Bool.false_eq_true, if_false]
  try refine wpAny_bind (wpAny_pure ?_)
  try simp only [Bool.not_true, Bool.false_eq_true, if_false]
  show wpAny _ _ (seqItems? (Value.ref b) >>= _) _ _ s
  refine wpAny_bind (wpAny_seqItems hob hdat ?_)
  dsimp only
  refine wpAny_bind ?_
  show wpAny _ _ (forIn its _ _) _ _ s
  rw [← Array.forIn_toList]
  refine wpAny_forIn_list _ (fun l r s1 => r.1 = none ∧ s1 = s ∧ ∀ v ∈ l, ∃ k, kd.is k v = true) _ ?turn ?fin _ _ ⟨rfl, rfl, items_is hits⟩
  case turn =>
    rintro v l r s1 ⟨er, rfl, hl⟩
    obtain ⟨k, hk⟩ := hl v List.mem_cons_self
    rw [tm.cls k v hk]
    refine wpAny_bind (wpAny_pure ?_)
    simp only [Bool.false_eq_true, if_false]
    exact wpAny_pure ⟨rfl, rfl, fun u z => hl u (List.mem_cons_of_mem _ z)⟩
  case fin =>
    rintro ⟨r1, r2⟩ s1 ⟨er, rfl, _⟩
    dsimp only at er
    cases er
    exact wpAny_pure q
theorem hby_tup (tm : Tame kd) {ks : List κ} {b : Addr} {Q : Bool → Shared → Prop} (key : IsTupleKey kd s.heap ks b) (q : ∀ c, Q c s) : wpAny (model P w) A (hashByValue 8 (.ref b)) Q E s := by
  have ty := key.typeIs
  obtain ⟨ob, its, sz, hob, _, hdat, hits⟩ := key
  unfold hashByValue
  refine wpAny_bind (wpAny_specialOf ty F.slot_tuple_hash.lookup ?_)
  show wpAny _ _ (seqItems? (Value.ref b) >>= _) _ _ s
  refine wpAny_bind (wpAny_seqItems hob hdat ?_)
  refine wpAny_bind ?_
  show wpAny _ _ (forIn its _ _) _ _ s
  rw [← Array.forIn_toList]
  refine wpAny_forIn_list _ (fun l r s1 => r.1 = none ∧ s1 = s ∧ ∀ v ∈ l, ∃ k, kd.is k v = true) _ ?turn ?fin _ _ ⟨rfl, rfl, items_is hits⟩
  case turn =>
    rintro v l r s1 ⟨er, rfl, hl⟩
    obtain ⟨k, hk⟩ := hl v List.mem_cons_self
    obtain ⟨c, hc⟩ := tm.hby k v hk 7
    rw [hc]
    refine wpAny_bind (wpAny_pure ?_)
    cases c with
    | true =>
      simp only [Bool.not_true, Bool.false_eq_true, if_false]
      exact wpAny_pure ⟨rfl, rfl, fun u z => hl u (List.mem_cons_of_mem _ z)⟩
    | false =>
      simp only [Bool.not_false, if_true]
      exact wpAny_pure (wpAny_pure (q false))
  case fin =>
    rintro ⟨r1, r2⟩ s1 ⟨er, rfl, _⟩
    dsimp only at er
    cases er
    exact wpAny_pure (q true)
theorem unseen (tm : Tame kd) {ks : List κ} {b : Addr} {Q : Bool → Shared → Prop} (key : IsTupleKey kd s.heap ks b) {ys : List Value} (hy : ∀ y ∈ ys, ∃ ls c, y = Value.ref c ∧ IsTupleKey kd s.heap ls c) (q : Q false s) :
    wpAny (model P w) A (searchCouldBeSeen (.ref b) ys) Q E s := by
  unfold searchCouldBeSeen
  refine wpAny_bind ?_
  refine wpAny_forIn_list _ (fun l r s1 => r.1 = none ∧ s1 = s ∧ ∀ y ∈ l, ∃ ls c, y = Value.ref c ∧ IsTupleKey kd s.heap ls c) _ ?turn ?fin _ _ ⟨rfl, rfl, hy⟩
  case turn =>
    rintro v l r s1 ⟨er, rfl, hl⟩
    obtain ⟨ls, c, rfl, hc⟩ := hl v List.mem_cons_self
    have hl' : ∀ y ∈ l, ∃ ls c, y = Value.ref c ∧ IsTupleKey kd s1.heap ls c := fun u z => hl u (List.mem_cons_of_mem _ z)
    dsimp only
    by_cases same : (b == c || (carriedByValue (.ref b) && carriedByValue (.ref c))) = true
    · exact wp_if_pos same (wpAny_pure ⟨rfl, rfl, hl'⟩)
    · refine wp_if_neg same (wpAny_bind (wpAny_eqIsQuiet_tuple key ?_))
      simp only [Bool.not_true, Bool.false_eq_true, if_false]
      refine wpAny_bind (wpAny_eqIsQuiet_tuple hc ?_)
      simp only [Bool.not_true, Bool.false_eq_true, if_false]
      refine wpAny_bind (cls_tup tm key ?_)
      simp only [Bool.false_eq_true, if_false]
      refine wpAny_bind (cls_tup tm hc ?_)
      simp only [Bool.false_eq_true, if_false]
      exact wpAny_pure ⟨rfl, rfl, hl'⟩
  case fin =>
    rintro ⟨r1, r2⟩ s1 ⟨er, rfl, _⟩
    dsimp only at er
    cases er
    exact wpAny_pure q
end
end TM

namespace TM
open PySem PySem.Spec PyProof.Rows L2
section
variable {P : Program} {w : World} {κ : Type} [DecidableEq κ]
/-- the rows of a table, by its members -/
def rowsM (kd : KeyKind P w κ) (M : List (Addr × List κ)) : List (Int × Value) := M.map fun z => (tupleKeyHash kd z.2, Value.ref z.1)
/-- at a stands a set with these members -/
structure TSet (kd : KeyKind P w κ) (g : Heap) (a : Addr) (M : List (Addr × List κ)) (rs : Array (Int × Value)) (ep : Nat) (tb : SetTable) : Prop where
  at_ : ∃ ob, g.get? a = some ob ∧ ob.ExactSet ∧ ob.data = .set rs ep tb
  eq : rs.toList = rowsM kd M
  ok : TabOk tb (M.map fun z => tupleKeyHash kd z.2)
  nd : (M.map (·.2)).Nodup
  key : ∀ z ∈ M, IsTupleKey kd g z.2 z.1
  free : M.length * 5 < tb.mask * 3
  few : M.length < 64
variable {kd : KeyKind P w κ} {A : Around} {E : Value → Shared → Prop} {s : Shared} {a : Addr} {M : List (Addr × List κ)} {rs : Array (Int × Value)} {ep : Nat} {tb : SetTable}
theorem rowsM_len (h : rs.toList = rowsM kd M) : rs.size = M.length := by
  have := congrArg List.length h
  simpa [rowsM] using this
theorem fits_of (h1 : rs.size = M.length) (h2 : tb.place.size = M.length) (h3 : tb.dummies = #[]) (h4 : M.length ≤ tb.mask) : tb.fits rs.size = true := by
  unfold SetTable.fits SetTable.fill
  rw [h3, h1, h2]
  simpa using h4
theorem TSet.fit (T : TSet kd s.heap a M rs ep tb) : tb.fits rs.size = true :=
  fits_of (rowsM_len T.eq) (by have := T.ok.sz; simpa using this) T.ok.dm (by have := T.free; omega)
theorem row_at (h : rs.toList = rowsM kd M) {i : Nat} {z : Addr × List κ} (hz : M[i]? = some z) : rs[i]? = some (tupleKeyHash kd z.2, Value.ref z.1) := by
  have e : rs[i]? = (rowsM kd M)[i]? := by rw [← h, Array.getElem?_toList]
  rw [e, rowsM, List.getElem?_map, hz]; rfl
theorem still_there (T : TSet kd s.heap a M rs ep tb) : ¬ tb.gaveWay = true := by
  simp [SetTable.gaveWay, mask_odd T.ok.mok]
theorem nth_dm {m : Nat} : ∀ (n : Nat) (p : SetTable.Probe), p.dummy = none → (nth m p n).dummy = none
  | 0, _, e => e
  | n + 1, p, e => nth_dm n (adv m p) (by unfold adv; split <;> exact e)
/-- the search, from a step of the way on; what is looked for stands before the first empty slot -/
theorem look_from (tm : Tame kd) (T : TSet kd s.heap a M rs ep tb) {x : Addr} {ks : List κ} {add : Bool} (key : IsTupleKey kd s.heap ks x) (hu : A.units < cLine) {N : Nat} (hN : N < 10 * SetTable.turns tb.mask)
    (e0 : way tb.mask (tupleKeyHash kd ks) N ∉ tb.place.toList) (eb : ∀ c, c < N → way tb.mask (tupleKeyHash kd ks) c ∈ tb.place.toList) {Q : SetFound → Shared → Prop}
    (yes : ks ∈ M.map (·.2) → ∀ r : Option Nat, (add = false → r.isSome = true) → Q (.there r) s) (no : ks ∉ M.map (·.2) → Q (.free (way tb.mask (tupleKeyHash kd ks) N) false) s) (hs : Int) (ehs : hs = tupleKeyHash kd ks) (p0 : SetTable.Probe) (ep0 : p0 = runAt tb.mask (SetTable.bits hs % (tb.mask + 1)) (SetTable.bits hs)) :
    ∀ (f c : Nat) (st : Option SetTable.Probe), st.getD (tb.probeStart hs) = nth tb.mask p0 c → c ≤ N → N - c < f →
      (∀ (i : Nat) z, M[i]? = some z → z.2 = ks → ∃ c', c ≤ c' ∧ c' < N ∧ tb.place.toList[i]? = some (way tb.mask hs c')) → wpAny (model P w) A (setSearchFrom a (.ref x) hs add f st) Q E s := by
  intro f
  induction f with
  | zero => exact fun c st _ _ z => absurd z (Nat.not_lt_zero _)
  | succ f ih =>
    intro c st est hc hf back
    obtain ⟨ob, hob, hex, hdat⟩ := T.at_
    rw [setSearchFrom_succ]
    refine wpAny_bind (wpAny_setState_of hob hdat T.fit ?_)
    dsimp only
    refine wp_if_neg (still_there T) ?_
    try refine wpAny_bind (wpAny_pure ?_)
    have wj : ∀ q, (nth tb.mask (nth tb.mask p0 c) q).j = way tb.mask hs (c + q) := fun q => by rw [← nth_add, ep0]
    have hashes : ∀ (i : Nat) z, M[i]? = some z → ((rs[i]?.map (·.1)).getD 0) = tupleKeyHash kd z.2 := fun i z hz => by rw [row_at T.eq hz]; rfl
    have dm : (nth tb.mask p0 c).dummy = none := nth_dm c p0 (by rw [ep0]; rfl)
    rcases go_spec tb T.ok.ris T.ok.dm (fun i => (rs[i]?.map (·.1)).getD 0) hs (10 * SetTable.turns tb.mask) (N - c) (nth tb.mask p0 c) dm (by omega) (fun q hq => by rw [wj, ehs]; exact eb _ (by omega)) (by rw [wj, ehs, show c + (N - c) = N by omega]; exact e0) with ⟨q, i, hq, hi, hh, before, hpr⟩ | ⟨none_, hpr⟩
    · rw [wj] at hi
      have hpr1 : tb.probe (fun i => (rs[i]?.map (·.1)).getD 0) hs (st.getD (tb.probeStart hs)) = some (.candidate (way tb.mask hs (c + q)) i (nth tb.mask (nth tb.mask p0 c) (q + 1))) := by
        rw [est, ← wj q]
        exact hpr
      rw [hpr1]
      dsimp only
      have hil : i < M.length := by
        have z1 := (List.getElem?_eq_some_iff.mp hi).1
        have z2 := T.ok.sz
        simp only [List.length_map, Array.length_toList] at z1 z2
        omega
      obtain ⟨z, hz⟩ : ∃ z, M[i]? = some z := ⟨_, List.getElem?_eq_getElem hil⟩
      have zm : z ∈ M := List.mem_of_getElem? hz
      have live := slot_live T.ok.ris hi
      have go : wpAny (model P w) A (searchRest a (.ref x) hs add f rs tb (way tb.mask hs (c + q)) i (nth tb.mask (nth tb.mask p0 c) (q + 1))) Q E s := by
        unfold searchRest
        rw [row_at T.eq hz]
        dsimp only
        refine wpAny_bind (wpAny_holding (wpAny_eqBool_tuple hu (T.key z zm) key ?_))
        refine wpAny_bind (wpAny_setState_of hob hdat T.fit ?_)
        dsimp only
        by_cases same : z.2 = ks
        · have hin : ks ∈ M.map (·.2) := List.mem_map.mpr ⟨z, zm, same⟩
          cases add with
          | true => exact wp_if_pos (by simp [same]) (wpAny_pure (yes hin none fun e => nomatch e))
          | false =>
            refine wp_if_neg (by simp) ?_
            try refine wpAny_bind (wpAny_pure ?_)
            rw [sameMem]
            dsimp only
            simp only [if_true, live, row_at T.eq hz]
            refine wpAny_bind (wpAny_isSame_ref_self (wpAny_bind (wpAny_pure ?_)))
            simp only [if_true]
            exact wp_if_pos (by simp [same]) (wpAny_pure (yes hin (some i) fun _ => rfl))
        · refine wp_if_neg (by simp [same]) ?_
          try refine wpAny_bind (wpAny_pure ?_)
          rw [sameMem]
          dsimp only
          simp only [if_true, live, row_at T.eq hz]
          refine wpAny_bind (wpAny_isSame_ref_self (wpAny_bind (wpAny_pure ?_)))
          simp only [if_true]
          refine wp_if_neg (by simp [same]) ?_
          refine ih (c + (q + 1)) _ (by show nth _ _ _ = _; rw [← nth_add]) (by omega) (by omega) fun i1 z1 h1 k1 => ?_
          obtain ⟨c', b1, b2, b3⟩ := back i1 z1 h1 k1
          refine ⟨c', ?_, b2, b3⟩
          by_cases lo : c' < c + q
          · refine absurd ((hashes i1 z1 h1).trans (by rw [k1, ehs])) (before (c' - c) i1 (by omega) ?_)
            rw [wj, show c + (c' - c) = c' by omega]; exact b3
          · by_cases eq : c' = c + q
            · rw [eq] at b3
              have l2 := slot_live T.ok.ris b3
              rw [live] at l2
              injection l2 with l2
              rw [← l2, hz] at h1
              exact absurd ((congrArg Prod.snd (Option.some.inj h1)).trans k1) same
            · omega
      by_cases led : tb.led = true
      · refine wp_if_neg (by simp [led]) ?_
        try refine wpAny_bind (wpAny_pure ?_)
        exact go
      · refine wp_if_pos (by simp [led]) ?_
        refine wpAny_bind (unseen tm key (fun y hy => ?_) ?_)
        · obtain ⟨e, he, rfl⟩ := List.mem_map.mp hy
          have he2 : e ∈ rs.toList := by
            have : e ∈ rs ∧ e.1 = hs := by simpa using he
            simpa using this.1
          rw [T.eq] at he2
          obtain ⟨z2, hz2, rfl⟩ := List.mem_map.mp he2
          exact ⟨z2.2, z2.1, rfl, T.key z2 hz2⟩
        · refine wp_if_neg Bool.false_ne_true ?_
          try refine wpAny_bind (wpAny_pure ?_)
          exact go
    · have hpr1 : tb.probe (fun i => (rs[i]?.map (·.1)).getD 0) hs (st.getD (tb.probeStart hs)) = some (.empty (way tb.mask hs N) none) := by
        have en : way tb.mask hs N = (nth tb.mask (nth tb.mask p0 c) (N - c)).j := by rw [wj, show c + (N - c) = N by omega]
        rw [est, en]
        exact hpr
      rw [hpr1]
      dsimp only
      rw [ehs]
      refine wpAny_pure (no fun hin => ?_)
      obtain ⟨z, zm, ez⟩ := List.mem_map.mp hin
      obtain ⟨i, hi⟩ := List.getElem?_of_mem zm
      obtain ⟨c', b1, b2, b3⟩ := back i z hi ez
      refine none_ (c' - c) i (by omega) ?_ ((hashes i z hi).trans (by rw [ez, ehs]))
      rw [wj, show c + (c' - c) = c' by omega]; exact b3
/-- the search -/
theorem look (tm : Tame kd) (T : TSet kd s.heap a M rs ep tb) {x : Addr} {ks : List κ} {add : Bool} (key : IsTupleKey kd s.heap ks x) (hu : A.units < cLine) {Q : SetFound → Shared → Prop}
    (yes : ks ∈ M.map (·.2) → ∀ r : Option Nat, (add = false → r.isSome = true) → Q (.there r) s)
    (no : ∀ N, ks ∉ M.map (·.2) → way tb.mask (tupleKeyHash kd ks) N ∉ tb.place.toList → (∀ c, c < N → way tb.mask (tupleKeyHash kd ks) c ∈ tb.place.toList) → Q (.free (way tb.mask (tupleKeyHash kd ks) N) false) s) :
    wpAny (model P w) A (setSearch a (.ref x) (tupleKeyHash kd ks) add) Q E s := by
  obtain ⟨N, hN, e0, eb⟩ := T.ok.first (by have := T.free; simp only [List.length_map]; omega) (tupleKeyHash kd ks)
  have small : N < 100000 := by
    have : 10 * SetTable.turns tb.mask ≤ 1420 := by
      unfold SetTable.turns
      rcases T.ok.mok with z | z | z <;> omega
    omega
  unfold setSearch
  refine look_from tm T key hu hN e0 eb yes (fun h => no N h e0 eb) _ rfl _ rfl 100000 0 none rfl (Nat.zero_le _) (by omega) fun i z hz ez => ?_
  have hi : (M.map fun z => tupleKeyHash kd z.2)[i]? = some (tupleKeyHash kd ks) := by rw [List.getElem?_map, hz, ← ez]; rfl
  have hil : i < tb.place.toList.length := by
    have z1 := (List.getElem?_eq_some_iff.mp hz).1
    have z2 := T.ok.sz
    simp only [List.length_map, Array.length_toList] at z2 ⊢
    omega
  obtain ⟨c, hc, e⟩ := T.ok.before e0 hi (List.getElem?_eq_getElem hil)
  exact ⟨c, Nat.zero_le _, hc, by rw [e]; exact List.getElem?_eq_getElem hil⟩
/-- a tuple is no set: it stands when a set is changed -/
theorem key_stays {g g' : Heap} {ks : List κ} {b : Addr} {ob : Obj} (key : IsTupleKey kd g ks b) (hob : g.get? a = some ob) (hdat : ob.data = .set rs ep tb) (sb : Heap.SameBut a g g') : IsTupleKey kd g' ks b := by
  obtain ⟨o, its, sz, ho, hc, hd, hi⟩ := key
  by_cases e : b = a
  · subst e
    have := hob.symm.trans ho
    cases this
    rw [hdat] at hd; cases hd
  · exact ⟨o, its, sz, (sb.2 b e).trans ho, hc, hd, hi⟩
end
end TM

namespace TM
open PySem PySem.Spec PyProof.Rows L2
section
variable {P : Program} {w : World} {κ : Type} [DecidableEq κ] {kd : KeyKind P w κ} {A : Around} {E : Value → Shared → Prop} {s : Shared} {a : Addr} {M : List (Addr × List κ)} {rs : Array (Int × Value)} {ep : Nat} {tb : SetTable}
/-- rows in another order are the rows of the members in that order -/
theorem other_order (hr : rs.toList = rowsM kd M) (ord : Array Nat) (hp : ord.toList.Perm (List.range M.length)) :
    ∃ M2, (ord.filterMap (rs[·]?)).toList = rowsM kd M2 ∧ M2.Perm M ∧ (M2.map fun z => tupleKeyHash kd z.2) = ord.toList.map fun i => (rs.map (·.1)).getD i 0 := by
  have some_at : ∀ i (h : i < M.length), rs[i]? = some (tupleKeyHash kd (M[i]).2, Value.ref (M[i]).1) := fun i h => row_at hr (List.getElem?_eq_getElem h)
  have step : ∀ l : List Nat, (∀ i ∈ l, i < M.length) → l.filterMap (fun i => rs[i]?) = rowsM kd (l.filterMap fun i => M[i]?) ∧ ((l.filterMap fun i => M[i]?).map fun z => tupleKeyHash kd z.2) = l.map fun i => (rs.map (·.1)).getD i 0 := by
    intro l
    induction l with
    | nil => exact fun _ => ⟨rfl, rfl⟩
    | cons i l ih =>
      intro hl
      have hi := hl i List.mem_cons_self
      obtain ⟨e1, e2⟩ := ih fun j hj => hl j (List.mem_cons_of_mem _ hj)
      rw [List.filterMap_cons_some (some_at i hi), List.filterMap_cons_some (List.getElem?_eq_getElem hi), e1]
      refine ⟨rfl, ?_⟩
      rw [List.map_cons, List.map_cons, e2]
      congr 1
      simp [Array.getD_eq_getD_getElem?, Array.getElem?_map, some_at i hi]
  obtain ⟨e1, e2⟩ := step ord.toList fun i hi => List.mem_range.mp (hp.mem_iff.mp hi)
  refine ⟨ord.toList.filterMap fun i => M[i]?, by simpa using e1, ?_, e2⟩
  refine (hp.filterMap fun i => M[i]?).trans ?_
  have all : ∀ n, n ≤ M.length → (List.range n).filterMap (fun i => M[i]?) = M.take n := by
    intro n
    induction n with
    | zero => exact fun _ => rfl
    | succ n ih =>
      intro hn
      rw [List.range_succ, List.filterMap_append, ih (by omega), List.take_succ, List.filterMap_cons_some (List.getElem?_eq_getElem (show n < M.length from hn)), List.getElem?_eq_getElem (show n < M.length from hn)]; rfl
  rw [all _ (Nat.le_refl _), List.take_length]
/-- the table in a larger one -/
theorem laid_anew {ob : Obj} (hob : s.heap.get? a = some ob) (hex : ob.ExactSet) (hdat : ob.data = .set rs ep tb) (hr : rs.toList = rowsM kd M) (hz : tb.place.size = M.length) (hdm : tb.dummies = #[]) (hle : M.length ≤ tb.mask)
    (nd : (M.map (·.2)).Nodup) (keys : ∀ z ∈ M, IsTupleKey kd s.heap z.2 z.1) (few : M.length < 64) {want B : Nat} (hB : SetTable.sizeAbove want - 1 = B) (okB : MaskOk B) (h128 : SetTable.sizeAbove want ≤ 128) (hfree : M.length * 5 < B * 3) {Q : Unit → Shared → Prop}
    (q : ∀ g' M' rs' ep' tb', Heap.SameBut a s.heap g' → TSet kd g' a M' rs' ep' tb' → M'.Perm M → Q () { s with heap := g' }) : wpAny (model P w) A (setRelay a want) Q E s := by
  have hn := rowsM_len hr
  obtain ⟨t2, ord, e, hp, T2, em, _, _, _⟩ := relaid_ok tb (hs := rs.map (·.1)) (wanted := want) hB okB (by rw [Array.size_map, hn]; omega)
  rw [Array.size_map, hn] at hp
  obtain ⟨M2, r1, r2, r3⟩ := other_order hr ord hp
  rw [← r3] at T2
  have hn2 : (ord.filterMap (rs[·]?)).size = rs.size := by rw [rowsM_len r1, r2.length_eq, hn]
  rw [setRelay_eq]
  refine wpAny_bind (wpAny_setState_of hob hdat (fits_of hn hz hdm hle) ?_)
  dsimp only
  refine wp_if_neg (by rw [sizeLine_eq]; omega) ?_
  try refine wpAny_bind (wpAny_pure ?_)
  rw [e]
  dsimp only
  refine wpAny_bind (wp_if_neg (by rw [hn2]; simp) ?_)
  try refine wpAny_bind (wpAny_pure ?_)
  refine wpAny_pure ?_
  dsimp only
  refine wpAny_storeSet_of hob hdat ?_ (by rw [hn2, hn, sizeLine_eq]; omega)
  have sb : Heap.SameBut a s.heap (s.heap.update a (Obj.putSet (ord.filterMap (rs[·]?)) t2)) := Heap.SameBut.update ..
  refine q _ M2 (ord.filterMap (rs[·]?)) (ep + 1) t2 sb ⟨⟨_, store_at hob hdat, ⟨hex.1, hex.2.1, hex.2.2⟩, rfl⟩, r1, T2, (r2.map (·.2)).nodup_iff.mpr nd, fun z hz => key_stays (keys z (r2.mem_iff.mp hz)) hob hdat sb, ?_, by rw [r2.length_eq]; exact few⟩ r2
  rw [r2.length_eq, em]; exact hfree
/-- one more, or the same -/
theorem put_in (tm : Tame kd) (T : TSet kd s.heap a M rs ep tb) {x : Addr} {ks : List κ} (key : IsTupleKey kd s.heap ks x) (hu : A.units < cLine) (few : M.length + 1 < 64) {Q : Bool → Shared → Prop}
    (q : ∀ b g' M' rs' ep' tb', Heap.SameBut a s.heap g' → TSet kd g' a M' rs' ep' tb' → (ks ∈ M.map (·.2) → M' = M) → (ks ∉ M.map (·.2) → M'.Perm ((x, ks) :: M)) → Q b { s with heap := g' }) :
    wpAny (model P w) A (setAddHashed a (.ref x) (tupleKeyHash kd ks)) Q E s := by
  obtain ⟨ob, hob, hex, hdat⟩ := T.at_
  have hn := rowsM_len T.eq
  have hfree := T.free
  unfold setAddHashed
  refine wpAny_holding ?_
  rw [show (100000 : Nat) = 99999 + 1 from rfl, setAddHashedIn_succ]
  refine wpAny_bind (wpAny_setState_of hob hdat T.fit ?_)
  dsimp only
  refine wp_if_neg (by simp [byScan, Value.scannable]) ?_
  try refine wpAny_bind (wpAny_pure ?_)
  refine wpAny_bind (look tm T key hu (fun hin _ _ => ?_) fun N hin e0 eb => ?_)
  · dsimp only
    exact wpAny_pure (q false s.heap M rs ep tb (Heap.SameBut.refl a s.heap) T (fun _ => rfl) fun z => absurd hin z)
  · dsimp only
    refine wpAny_bind (wpAny_setState_of hob hdat T.fit ?_)
    dsimp only
    obtain ⟨u1, u2, u3, u4, _, _, _, _, u9⟩ := T.ok.put e0 eb
    generalize hpt : tb.put (way tb.mask (tupleKeyHash kd ks) N) = pt at u1 u3 u4 u9 ⊢
    obtain ⟨t1, pl⟩ := pt
    dsimp only at u1 u3 u4 u9 ⊢
    subst u1
    have rows2 : (SetTable.insertAt rs (SetTable.below tb.place (way tb.mask (tupleKeyHash kd ks) N)) (tupleKeyHash kd ks, Value.ref x)).toList = rowsM kd (M.take (SetTable.below tb.place (way tb.mask (tupleKeyHash kd ks) N)) ++ (x, ks) :: M.drop (SetTable.below tb.place (way tb.mask (tupleKeyHash kd ks) N))) := by
      rw [SetTable.toList_insertAt, T.eq]
      simp [rowsM, List.map_take, List.map_drop]
    generalize SetTable.below tb.place (way tb.mask (tupleKeyHash kd ks) N) = pl at u2 u3 rows2 ⊢
    have pm := put_perm M pl (x, ks)
    have hl2 : (M.take pl ++ (x, ks) :: M.drop pl).length = M.length + 1 := pm.length_eq
    have hh2 : (M.map fun z => tupleKeyHash kd z.2).take pl ++ tupleKeyHash kd ks :: (M.map fun z => tupleKeyHash kd z.2).drop pl = (M.take pl ++ (x, ks) :: M.drop pl).map fun z => tupleKeyHash kd z.2 := by
      simp [List.map_take, List.map_drop]
    rw [hh2] at u3
    have nd2 : ((M.take pl ++ (x, ks) :: M.drop pl).map (·.2)).Nodup := (pm.map (·.2)).nodup_iff.mpr (List.nodup_cons.mpr ⟨hin, T.nd⟩)
    generalize M.take pl ++ (x, ks) :: M.drop pl = M1 at pm hl2 u3 nd2 rows2
    have hn1 := rowsM_len rows2
    generalize SetTable.insertAt rs pl (tupleKeyHash kd ks, Value.ref x) = rs1 at rows2 hn1 ⊢
    have fin : ∀ t' : SetTable, t'.place = t1.place → t'.mask = t1.mask → t'.dummies = t1.dummies → TabOk t' (M1.map fun z => tupleKeyHash kd z.2) → t'.tooFull = t1.tooFull → 
        wpAny (model P w) A (do
          storeSet a rs1 t'
          if !false && t'.tooFull then setRelay a (SetTable.grown (rs.size + 1))
          return true) Q E s := by
      intro t' ep1 ep2 ep3 ok' ef
      refine wpAny_bind (wpAny_storeSet_of hob hdat ?_ (by rw [hn1, hl2, sizeLine_eq]; omega))
      have sb : Heap.SameBut a s.heap (s.heap.update a (Obj.putSet rs1 t')) := Heap.SameBut.update ..
      have hob1 := store_at (es' := rs1) (t' := t') hob hdat
      generalize s.heap.update a (Obj.putSet rs1 t') = g1 at sb hob1 ⊢
      have keys1 : ∀ z ∈ M1, IsTupleKey kd g1 z.2 z.1 := fun z hz => by
        rcases List.mem_cons.mp (pm.mem_iff.mp hz) with rfl | hz
        · exact key_stays key hob hdat sb
        · exact key_stays (T.key z hz) hob hdat sb
      have fl : t1.fill = M.length + 1 := by rw [u9, List.length_map]
      by_cases full : t1.tooFull = true
      · have cnd : (!false && t'.tooFull) = true := by rw [ef, full]; rfl
        have h5 : (M.length + 1) * 5 ≥ t1.mask * 3 := by
          have := full
          unfold SetTable.tooFull at this
          rw [decide_eq_true_eq, fl] at this
          exact this
        have two : (tb.mask = 7 ∧ M.length = 4) ∨ (tb.mask = 31 ∧ M.length = 18) := by
          rcases T.ok.mok with z | z | z
          · exact .inl ⟨z, by rw [u4, z] at h5; rw [z] at hfree; omega⟩
          · exact .inr ⟨z, by rw [u4, z] at h5; rw [z] at hfree; omega⟩
          · rw [u4, z] at h5; omega
        have grow : ∀ B, SetTable.sizeAbove (SetTable.grown (M.length + 1)) - 1 = B → MaskOk B → SetTable.sizeAbove (SetTable.grown (M.length + 1)) ≤ 128 → (M.length + 1) * 5 < B * 3 →
            wpAny (model P w) A (setRelay a (SetTable.grown (rs.size + 1))) (fun _ s' => wpAny (model P w) A (pure true) Q E s') E { s with heap := g1 } := fun B b1 b2 b3 b4 => by
          rw [hn]
          refine laid_anew (s := { s with heap := g1 }) hob1 ⟨hex.1, hex.2.1, hex.2.2⟩ rfl rows2 (by have := ok'.sz; simpa using this) ok'.dm ?_ nd2 keys1 (by rw [hl2]; exact few) b1 b2 b3 (by rw [hl2]; exact b4) ?_
          · rw [hl2, ep2, u4]; rcases two with ⟨z, z2⟩ | ⟨z, z2⟩ <;> omega
          · exact fun g2 M2 rs2 ep2 t2 sb2 T2 pm2 => wpAny_pure (q true g2 M2 rs2 ep2 t2 (sb.trans sb2) T2 (fun z => absurd z hin) fun _ => pm2.trans pm)
        first
          | refine wpAny_bind (wp_if_pos cnd ?_)
          | refine wp_if_pos cnd (wpAny_bind ?_)
        rcases two with ⟨_, e2⟩ | ⟨_, e2⟩
        · exact grow 31 (by rw [e2, size_20]) (.inr (.inl rfl)) (by rw [e2, size_20]; decide) (by omega)
        · exact grow 127 (by rw [e2, size_76]) (.inr (.inr rfl)) (by rw [e2, size_76]; decide) (by omega)
      · have cnd : ¬ (!false && t'.tooFull) = true := by rw [ef]; simpa using full
        have last : wpAny (model P w) A (pure true) Q E { s with heap := g1 } := by
          refine wpAny_pure (q true g1 M1 rs1 (ep + 1) t' sb ⟨⟨_, hob1, ⟨hex.1, hex.2.1, hex.2.2⟩, rfl⟩, rows2, ok', nd2, keys1, ?_, by rw [hl2]; exact few⟩ (fun z => absurd z hin) fun _ => pm)
          unfold SetTable.tooFull at full
          rw [decide_eq_true_eq, fl] at full
          rw [hl2, ep2]; omega
        first
          | exact wp_if_neg cnd last
          | exact wp_if_neg cnd (wpAny_bind (wpAny_pure last))
          | exact wpAny_bind (wp_if_neg cnd (wpAny_pure last))
    have okp : TabOk { t1 with plain := false } (M1.map fun z => tupleKeyHash kd z.2) := ⟨u3.ris, u3.dm, u3.sz, u3.mok, u3.bd, u3.reach⟩
    have both : ∀ c : Bool, wpAny (model P w) A (do
          let t' := if c then t1 else { t1 with plain := false }
          storeSet a rs1 t'
          if !false && t'.tooFull then setRelay a (SetTable.grown (rs.size + 1))
          return true) Q E s := fun c => by
      cases c with
      | true => exact fin t1 rfl rfl rfl u3 rfl
      | false => exact fin { t1 with plain := false } rfl rfl rfl okp rfl
    by_cases plain : t1.plain = true
    · first
        | exact wpAny_bind (wp_if_pos plain (hby_tup tm key fun c => both c))
        | exact wp_if_pos plain (wpAny_bind (hby_tup tm key fun c => both c))
    · first
        | exact wpAny_bind (wp_if_neg plain (wpAny_pure (both true)))
        | exact wp_if_neg plain (wpAny_bind (wpAny_pure (both true)))
        | exact wp_if_neg plain (both true)
end
end TM

namespace TM
open PySem PySem.Spec PyProof.Rows L2
section
variable {P : Program} {w : World} {A : Around} {E : Value → Shared → Prop} {s : Shared} {a : Addr}
abbrev MK (P : Program) (w : World) := mixKind P w
def hasK (ks : List Key) (M : List (Addr × List Key)) : Bool := M.any fun z => decide (z.2 = ks)
theorem hasK_iff {ks : List Key} {M : List (Addr × List Key)} : hasK ks M = true ↔ ks ∈ M.map (·.2) := by
  simp [hasK, List.mem_map]
theorem hasK_f {ks : List Key} {M : List (Addr × List Key)} (h : ks ∉ M.map (·.2)) : hasK ks M = false := by
  cases e : hasK ks M with
  | false => rfl
  | true => exact absurd (hasK_iff.mp e) h
/-- the set at a, its members' own standing apart -/
def TS0 (P : Program) (w : World) (a : Addr) (M : List (Addr × List Key)) (g : Heap) : Prop := ∃ (rs : Array (Int × Value)) (ep : Nat) (tb : SetTable), (∃ ob, g.get? a = some ob ∧ ob.ExactSet ∧ ob.data = .set rs ep tb) ∧ rs.toList = rowsM (MK P w) M ∧
  TabOk tb (M.map fun z => tupleKeyHash (MK P w) z.2) ∧ (M.map (·.2)).Nodup ∧ M.length * 5 < tb.mask * 3 ∧ M.length < 64
theorem TS0.full {g : Heap} {M : List (Addr × List Key)} (T : TS0 P w a M g) (k : ∀ z ∈ M, IsTupleKey (MK P w) g z.2 z.1) : ∃ rs ep tb, TSet (MK P w) g a M rs ep tb := by
  obtain ⟨rs, ep, tb, h1, h2, h3, h4, h5, h6⟩ := T
  exact ⟨rs, ep, tb, h1, h2, h3, h4, k, h5, h6⟩
theorem TSet.ts0 {g : Heap} {M : List (Addr × List Key)} {rs ep tb} (T : TSet (MK P w) g a M rs ep tb) : TS0 P w a M g := ⟨rs, ep, tb, T.at_, T.eq, T.ok, T.nd, T.free, T.few⟩
theorem TS0.ty {M : List (Addr × List Key)} (T : TS0 P w a M s.heap) : s.TypeIs (.ref a) "set" := by
  obtain ⟨_, _, _, ⟨ob, h1, h2, _⟩, _⟩ := T
  exact ⟨ob, h1, h2.1⟩
theorem TS0.nod {M : List (Addr × List Key)} (T : TS0 P w a M s.heap) : ∀ b, Value.ref a = .ref b → ∃ ob, s.heap.get? b = some ob ∧ ob.dict = none := by
  intro b e
  injection e with e
  subst e
  obtain ⟨_, _, _, ⟨ob, h1, h2, _⟩, _⟩ := T
  exact ⟨ob, h1, h2.2.1⟩
theorem ts0_ok {H : Hp} {g : Heap} {M : List (Addr × List Key)} (T : TS0 P w a M g) : ObjOk P w H g a (.ext (TS0 P w a M)) := by
  have ⟨_, _, _, ⟨ob, h1, _⟩, _⟩ := T
  refine ⟨T, ⟨ob, h1⟩, fun g1 g2 p k => ?_⟩
  obtain ⟨rs, ep, tb, ⟨ob, z1, z2⟩, z3⟩ := p
  exact ⟨rs, ep, tb, ⟨ob, k ob z1, z2⟩, z3⟩
theorem ts0_new {g : Heap} (h : g.get? a = some { cls := .type "set", dict := none, data := .set #[] 0 (.fresh 0 0 (!w.params.followText "set-order")) }) : TS0 P w a [] g :=
  ⟨#[], 0, _, ⟨_, h, ⟨rfl, rfl, rfl⟩, rfl⟩, rfl, ⟨List.Pairwise.nil, rfl, rfl, .inl rfl, fun x z => (by cases z), fun i j k z => (by simp at z)⟩, List.nodup_nil, by show 0 * 5 < 7 * 3; decide, by show 0 < 64; decide⟩
/-- setFind, for a tuple -/
theorem find_tup {M : List (Addr × List Key)} {rs ep tb} (T : TSet (MK P w) s.heap a M rs ep tb) {x : Addr} {ks : List Key} (key : IsTupleKey (MK P w) s.heap ks x) (hu : A.units < cLine) {Q : Option Nat → Shared → Prop}
    (q : ∀ r : Option Nat, r.isSome = hasK ks M → Q r s) : wpAny (model P w) A (setFind a (.ref x) (tupleKeyHash (MK P w) ks)) Q E s := by
  obtain ⟨ob, hob, hex, hdat⟩ := T.at_
  unfold setFind setFindIn
  refine wpAny_bind (wpAny_setState_of hob hdat T.fit ?_)
  dsimp only
  refine wp_if_neg (by simp [byScan, Value.scannable]) ?_
  try refine wpAny_bind (wpAny_pure ?_)
  refine wpAny_bind (look tame_mix T key hu (fun hin r hr => ?_) fun N hin _ _ => ?_)
  · exact wpAny_pure (q r (by rw [hr rfl, hasK_iff.mpr hin]))
  · exact wpAny_pure (q none (by rw [hasK_f hin]; rfl))
/-- k in s, k not in s -/
theorem in_tup {M : List (Addr × List Key)} (T : TS0 P w a M s.heap) (km : ∀ z ∈ M, IsTupleKey (MK P w) s.heap z.2 z.1) {x : Addr} {ks : List Key} (key : IsTupleKey (MK P w) s.heap ks x) (hu : A.units + 3 < cLine) {Q : Value → Shared → Prop} (neg : Bool)
    (q : ∀ tk, Q (.bool (if neg then !hasK ks M else hasK ks M)) { s with toks := tk }) : wpAny (model P w) A (compareOp (if neg then .NotIn else .In) (.ref x) (.ref a)) Q E s := by
  have core : ∀ Q' : Bool → Shared → Prop, (∀ tk, Q' (hasK ks M) { s with toks := tk }) → wpAny (model P w) A (contains (.ref a) (.ref x)) Q' E s := by
    intro Q' q'
    unfold contains
    try with_reducible refine wpAny_holding ?_
    refine wpAny_bind (wpAny_specialOf T.ty F.slot_set_contains.lookup ?_)
    show wpAny _ _ (if (some (Value.builtin "set.__contains__") == some Value.none) = true then _ else _) _ E s
    rw [if_neg (by rw [beq_builtin_none]; exact Bool.false_ne_true)]
    refine wpAny_bind (wpAny_callSpecialUnlessNone?_slot (name := Str.ofString "__contains__") T.ty F.slot_set_contains (wpAny_call_entry F.slot_set_contains T.ty entry_set_contains ?_ (F.args_set_contains_2 _ _)))
    unfold Builtin.«frozenset.__contains__» Builtin.Frozenset.oneOther
    simp only [List.isEmpty_nil, bind_assoc]
    unfold Builtin.Frozenset.addrOf Builtin.Frozenset.withSetAsKey setContains
    refine wpAny_bind (wpAny_pure ?_)
    try dsimp only
    refine wpAny_bind (wpAny_pure ?_)
    try dsimp only
    refine wpAny_bind (wpAny_tryCatch (wpAny_holding ?_))
    refine wpAny_bind (wpAny_pyHash_tuple (by show _ < cLine; first | omega | (simp; omega)) key ?_)
    obtain ⟨rs, ep, tb, TT⟩ := T.full km
    refine wpAny_bind (find_tup (s := { s with toks := s.toks + (ks.length + 1) }) TT key (by show _ < cLine; first | omega | (simp; omega)) fun r hr => ?_)
    refine wpAny_pure ?_
    show wpAny _ _ (ret (Value.bool r.isSome)) _ _ _
    rw [hr]
    exact wpAny_pure ⟨_, rfl, wpAny_truthy_bool (q' _)⟩
  cases neg with
  | false =>
    show wpAny _ _ (do return .bool (← contains (.ref a) (.ref x))) Q E s
    exact wpAny_bind (core _ fun tk => wpAny_pure (q tk))
  | true =>
    show wpAny _ _ (do return .bool (!(← contains (.ref a) (.ref x)))) Q E s
    exact wpAny_bind (core _ fun tk => wpAny_pure (q tk))
theorem add_tup {M : List (Addr × List Key)} (T : TS0 P w a M s.heap) (km : ∀ z ∈ M, IsTupleKey (MK P w) s.heap z.2 z.1) {x : Addr} {ks : List Key} (key : IsTupleKey (MK P w) s.heap ks x) (hu : A.units + 3 < cLine) (few : M.length + 1 < 64) {Q : Value → Shared → Prop}
    (q : ∀ g' tk M', Heap.SameBut a s.heap g' → TS0 P w a M' g' → (ks ∈ M.map (·.2) → M' = M) → (ks ∉ M.map (·.2) → M'.Perm ((x, ks) :: M)) → Q .none { s with heap := g', toks := tk }) : wpAny (model P w) A (call (.builtin "set.add") [.ref a, .ref x]) Q E s := by
  refine wpAny_call_entry F.slot_set_add T.ty F.entry_set_add ?_ (F.args_set_add_2 _ _)
  unfold Builtin.«set.add» Builtin.Frozenset.oneOther
  simp only [List.isEmpty_nil, bind_assoc]
  unfold Builtin.Frozenset.addrOf setAdd
  refine wpAny_bind (wpAny_pure ?_)
  try dsimp only
  refine wpAny_bind (wpAny_pure ?_)
  try dsimp only
  refine wpAny_bind (wpAny_holding ?_)
  refine wpAny_bind (wpAny_pyHash_tuple (by show _ < cLine; first | omega | (simp; omega)) key ?_)
  obtain ⟨rs, ep, tb, TT⟩ := T.full km
  refine put_in (s := { s with toks := s.toks + (ks.length + 1) }) tame_mix TT key (by show _ < cLine; first | omega | (simp; omega)) few fun b g' M' rs' ep' tb' sb T' h1 h2 => ?_
  show wpAny _ _ (ret Value.none) _ _ _
  exact wpAny_pure ⟨_, rfl, q g' _ M' sb T'.ts0 h1 h2⟩
end
section
variable {X : Cx}
theorem items_mix {P : Program} {w : World} : ∀ {ks : List Key} {us : List Value}, Vals (ks.map kV) us → ItemsAre (MK P w) ks us
  | [], _, .nil => .nil
  | _ :: _, _, .cons r t => .cons (kV_is r) (items_mix t)
theorem key_at {pins : List (Addr × Obj)} {σ : L2.St} {H : Hp} {s : Shared} {b : Addr} {ks : List Key} (I : Inv X pins σ H s) (h : SqT X.K H b (ks.map kV)) : IsTupleKey (MK X.prog X.w) s.heap ks b := by
  obtain ⟨its, r, ⟨o, ho, hc, n, hd⟩, _⟩ := I.tuple h
  exact ⟨o, its.toArray, n, ho, hc, hd, by simpa using items_mix r⟩
/-- set(), for tuples -/
def rSet0T (P : Program) (w : World) : List V → Hp → VK → Prop := fun xs H Q => xs = [] ∧ ∀ p, H p = none → Q (.ref p) (upd H p (.ext (TS0 P w p [])))
theorem cr_set0T : CallR X (.type "set") (rSet0T X.prog X.w) := by
  intro pins s σ H xs us Q I r ⟨ex, q⟩
  subst ex
  cases r
  refine setR_new fun _ => ?_
  exact ⟨.ref _, upd H s.heap.objs.size (.ext (TS0 X.prog X.w s.heap.objs.size [])), I.laid (t' := s.toks) (fun b u e => Heap.get?_push_of_some _ e) (Nat.le_refl _) (ts0_ok (ts0_new (Heap.get?_push_size _ rfl))), rfl, q _ (I.hok.fresh (Nat.le_refl _))⟩
def rAddT (K : PySem.W.Frag) (P : Program) (w : World) : V → List V → Hp → VK → Prop := fun x xs H Q => ∃ (a b : Addr) (ks : List Key) (M : List (Addr × List Key)), x = .ref a ∧ xs = [.ref b] ∧ H a = some (.ext (TS0 P w a M)) ∧ SqT K H b (ks.map kV) ∧ (∀ z ∈ M, SqT K H z.1 (z.2.map kV)) ∧ M.length + 1 < 64 ∧
  ∀ M', (ks ∈ M.map (·.2) → M' = M) → (ks ∉ M.map (·.2) → M'.Perm ((b, ks) :: M)) → Q .non (upd H a (.ext (TS0 P w a M')))
theorem mt_addT {k : Nat} (hr : Room k X.A) : MtR X "set.add" (rAddT X.K X.prog X.w) := by
  intro pins s σ H x xs v us Q I rx rxs ⟨a, b, ks, M, ex, ey, ha, hb, hM, few, q⟩
  subst ex ey
  cases rx
  obtain ⟨u, rfl, ru⟩ := rxs.one
  cases ru
  have T : TS0 X.prog X.w a M s.heap := (I.hok a _ ha).1
  refine add_tup T (fun z hz => key_at I (hM z hz)) (key_at I hb) (by have := hr.units; omega) few fun g' tk M' sb T' h1 h2 => ?_
  have he : ∃ u, g'.get? a = some u := by
    obtain ⟨_, _, _, ⟨ob, z1, _⟩, _⟩ := T'
    exact ⟨ob, z1⟩
  exact ⟨.non, _, I.write (e := a) (t' := tk) (by rw [ha]; trivial) (.inl rfl) (fun b u hb hu => (sb.2 b hb).trans hu) he (ts0_ok T'), rfl, q M' h1 h2⟩
def rInT (K : PySem.W.Frag) (P : Program) (w : World) (neg : Bool) : R2 := fun x y H Q => ∃ (a b : Addr) (ks : List Key) (M : List (Addr × List Key)), y = .ref a ∧ x = .ref b ∧ H a = some (.ext (TS0 P w a M)) ∧ SqT K H b (ks.map kV) ∧ (∀ z ∈ M, SqT K H z.1 (z.2.map kV)) ∧
  Q (.bl (if neg then !hasK ks M else hasK ks M)) H
theorem op_inT {k : Nat} (hr : Room k X.A) : OpR X (compareOp .In) (rInT X.K X.prog X.w false) := by
  intro pins s σ H x y v u Q I rx ry ⟨a, b, ks, M, ex, ey, ha, hb, hM, q⟩
  subst ex ey
  cases rx; cases ry
  have T : TS0 X.prog X.w a M s.heap := (I.hok a _ ha).1
  exact in_tup T (fun z hz => key_at I (hM z hz)) (key_at I hb) (by have := hr.units; omega) false fun tk => ⟨.bl _, H, I.tok tk, rfl, q⟩
theorem op_notInT {k : Nat} (hr : Room k X.A) : OpR X (compareOp .NotIn) (rInT X.K X.prog X.w true) := by
  intro pins s σ H x y v u Q I rx ry ⟨a, b, ks, M, ex, ey, ha, hb, hM, q⟩
  subst ex ey
  cases rx; cases ry
  have T : TS0 X.prog X.w a M s.heap := (I.hok a _ ha).1
  exact in_tup T (fun z hz => key_at I (hM z hz)) (key_at I hb) (by have := hr.units; omega) true fun tk => ⟨.bl _, H, I.tok tk, rfl, q⟩
end
end TM

namespace DL
open PySem PySem.Spec PyProof.Rows L2 GA GxR TM
section
variable {X : Cx} {a b e o : Expr} {ta tb te to : DTr} {es : List Expr} {t : DTA} {pos apos : Pos}
/-! ### tuples: parts, sums -/
def rdSlA (x : D) (lo hi : Option Int) (m : M) (Q : DK) : Prop := match x with
  | .tup ds => Q (.tup (cutL ds lo hi)) m
  | _ => False
def dSlA (te : DTr) (tl th : DTO) : DTr := fun δ m Q => te δ m fun x m1 => tl δ m1 fun l m2 => th δ m2 fun h m3 => rdSlA x l h m3 Q
theorem cut_whole {α : Type} {xs : List α} {lo hi : Option Int} (h : HT.sIx xs.length 0 lo = 0 ∧ HT.sIx xs.length xs.length hi = xs.length) : cutL xs lo hi = xs := by
  unfold cutL
  rw [h.1, h.2]; simp
theorem de_sliceA {lo hi : Option Expr} {tl th : DTO} {p2 : Pos} (he : DE X e te) (hl : DPo X lo tl) (hu : DPo X hi th) : DE X (.Subscript e (.Slice lo hi none p2) pos) (dSlA te tl th) := by
  refine (pe_slice sl_tupA he hl hu).imp fun σ H Q ⟨δ, m, Q', rs, rh, q, f⟩ => ?_
  refine ⟨δ, m, _, rs, rh, q, fun x m1 q1 v H1 t1 r1 rh1 => ⟨δ, m1, _, rs.mono t1, rh1, q1, fun l m2 q2 H2 t2 rh2 => ⟨δ, m2, _, rs.mono (t1.trans t2), rh2, q2, fun h m3 q3 H3 t3 rh3 => ?_⟩⟩⟩
  have r3 := Rep.mono (t2.trans t3) _ _ r1
  have f3 := f.mono ((t1.trans t2).trans t3)
  cases x <;> first | exact q3.elim | skip
  cases r3 with
  | tup e rr =>
    refine ⟨_, _, rfl, .inl (.inl e), fun hw => ?_, fun hw p hp => f3 _ m3 q3 _ _ (Ts.new hp) (.tup upd_same (Reps.mono (Ts.new hp) _ _ (cut_rep l h rr))) (rh3.new hp)⟩
    rw [← rr.length] at hw
    refine f3 _ m3 q3 _ H3 (Ts.refl _ _) (.tup e ?_) rh3
    rw [cut_whole hw]; exact rr
def rdAddA : DR2 := fun x y m Q => match x, y with
  | .tup xs, .tup ys => xs.length + ys.length ≤ sizeLine ∧ Q (.tup (xs ++ ys)) m
  | _, _ => False
theorem de_addA (ha : DE X a ta) (hb : DE X b tb) : DE X (.BinOp a .Add b pos) (dOp rdAddA ta tb) := by
  refine (pe_op op_catA ha hb).imp (up_op ?_)
  intro x y vx vy H m Q' Q rx ry rh h f
  cases x <;> cases y <;> first | exact h.elim | skip
  rename_i xs ys
  cases rx with
  | tup h1 r1 =>
    cases ry with
    | tup h2 r2 =>
      refine ⟨_, _, _, _, rfl, rfl, .inl (.inl h1), .inl (.inl h2), by rw [← r1.length, ← r2.length]; exact h.1, fun z => ?_, fun _ z => ?_, fun _ _ p hp => f _ m h.2 _ _ (Ts.new hp) (.tup upd_same (Reps.mono (Ts.new hp) _ _ (r1.append r2))) (rh.new hp)⟩
      · subst z
        cases r1
        exact f _ m h.2 _ H (Ts.refl _ _) (.tup h2 r2) rh
      · subst z
        cases r2
        have q := h.2
        rw [List.append_nil] at q
        exact f _ m q _ H (Ts.refl _ _) (.tup h1 r1) rh
/-! ### x in xs, of data -/
def rdInD (neg : Bool) : DR2 := fun x y m Q => ∃ a ds, y = .ref a ∧ m.mu a = some (.lst ds) ∧ D.pures ds = true ∧ x.pure = true ∧ SeqAt.shaped x.py = true ∧ SeqAt.shaped (.list (D.pys ds)) = true ∧ Q (.bl (if neg then !(D.pys ds).any fun z => PyData.eqv z x.py else (D.pys ds).any fun z => PyData.eqv z x.py)) m
theorem dc_inD {k : Nat} (hr : Room k X.A) : DC X .In (rdInD false) := ⟨_, op_inD (by have := hr.un; omega), fun x y vx vy H m Q' Q rx ry rh ⟨a, ds, ey, h, p1, p2, s1, s2, q⟩ f => by
  subst ey; cases ry
  obtain ⟨xs, e, rr⟩ := rh.obj _ _ h
  exact ⟨_, _, Rep.dp _ _ p2 rx, .lst (SqL.of e) (Reps.dp _ _ p1 rr), s1, s2, f _ m q _ H (Ts.refl _ _) (.bl _) rh⟩⟩
theorem dc_notInD {k : Nat} (hr : Room k X.A) : DC X .NotIn (rdInD true) := ⟨_, op_notInD (by have := hr.un; omega), fun x y vx vy H m Q' Q rx ry rh ⟨a, ds, ey, h, p1, p2, s1, s2, q⟩ f => by
  subst ey; cases ry
  obtain ⟨xs, e, rr⟩ := rh.obj _ _ h
  exact ⟨_, _, Rep.dp _ _ p2 rx, .lst (SqL.of e) (Reps.dp _ _ p1 rr), s1, s2, f _ m q _ H (Ts.refl _ _) (.bl _) rh⟩⟩

/-! ### sets -/
def hasS (k : Key) (ks : List Key) : Bool := ks.any fun z => decide (z = k)
theorem hasS_iff {k : Key} {ks : List Key} : hasS k ks = true ↔ k ∈ ks := by simp [hasS]
theorem hasS_cons (j k : Key) (ks : List Key) : hasS j (k :: ks) = (hasS j ks || decide (j = k)) := by
  have e : decide (k = j) = decide (j = k) := by
    by_cases z : j = k
    · subst z; rfl
    · rw [decide_eq_false z, decide_eq_false fun y => z y.symm]
  show (decide (k = j) || hasS j ks) = _
  rw [e, Bool.or_comm]
def SetS (P : Program) (w : World) (m : M) (a : Addr) (ks : List Key) : Prop := ∃ n, m.mu a = some (.ext (fun h => h.SetOf (mixKind P w) a (fun j => hasS j ks) n) []) ∧ n ≤ ks.length
def SetT (P : Program) (w : World) (m : M) (a : Addr) (ks : List (List Key)) : Prop := ∃ N : List (Addr × List Key), m.mu a = some (.ext (TS0 P w a N) (N.map fun z => (z.1, D.tup (z.2.map kD)))) ∧ (∀ k, k ∈ N.map (·.2) ↔ k ∈ ks) ∧ N.length ≤ ks.length
/-- set(): of texts and ints, of tuples of them -/
def dSet0S (P : Program) (w : World) : DTr := fun _ m Q => ∀ p m', m.mu p = none → (∃ o, m' = m.set p o) → SetS P w m' p [] → Q (.ref p) m'
def dSet0T (P : Program) (w : World) : DTr := fun _ m Q => ∀ p m', m.mu p = none → (∃ o, m' = m.set p o) → SetT P w m' p [] → Q (.ref p) m'
theorem de_set0S {p : Pos} (hg : Gl X "set") (hm : X.mg "set" = none) : DE X (.Call (.Name "set" p) [] [] pos) (dSet0S X.prog X.w) := (pe_callTy0 cr_set0K hg hm (by decide +kernel)).imp fun σ H Q ⟨δ, m, Q', rs, rh, q, f⟩ => ⟨rfl, fun p hp => by
  have e : (fun _ : Key => false) = fun j => hasS j [] := rfl
  exact f _ _ (q p _ (rh.fresh hp) ⟨_, rfl⟩ ⟨0, M.set_same, Nat.le_refl _⟩) _ _ (Ts.new hp) (.ref p) (rh.newO hp ⟨by rw [upd_same, ← e]; rfl, fun t z => nomatch z⟩)⟩
theorem de_set0T {p : Pos} (hg : Gl X "set") (hm : X.mg "set" = none) : DE X (.Call (.Name "set" p) [] [] pos) (dSet0T X.prog X.w) := (pe_callTy0 cr_set0T hg hm (by decide +kernel)).imp fun σ H Q ⟨δ, m, Q', rs, rh, q, f⟩ => ⟨rfl, fun p hp => by
  exact f _ _ (q p _ (rh.fresh hp) ⟨_, rfl⟩ ⟨[], M.set_same, fun k => Iff.rfl, Nat.le_refl _⟩) _ _ (Ts.new hp) (.ref p) (rh.newO hp ⟨by rw [upd_same], fun t z => nomatch z⟩)⟩
/-- membership -/
def rdInS' (P : Program) (w : World) (neg : Bool) : DR2 := fun x y m Q => ∃ a ks k, y = .ref a ∧ x = kD k ∧ SetS P w m a ks ∧ Q (.bl (if neg then !hasS k ks else hasS k ks)) m
def hasL (k : List Key) (ks : List (List Key)) : Bool := ks.any fun z => decide (z = k)
theorem hasL_iff {k : List Key} {ks : List (List Key)} : hasL k ks = true ↔ k ∈ ks := by simp [hasL]
def rdInT (P : Program) (w : World) (neg : Bool) : DR2 := fun x y m Q => ∃ a ks k, y = .ref a ∧ x = .tup (k.map kD) ∧ SetT P w m a ks ∧ Q (.bl (if neg then !hasL k ks else hasL k ks)) m
theorem dc_inSS : DC X .In (rdInS' X.prog X.w false) := ⟨_, or_sinK, fun x y vx vy H m Q' Q rx ry rh ⟨a, ks, k, ey, ex, ⟨n, h, _⟩, q⟩ f => by
  subst ey ex; cases ry
  obtain ⟨e, _⟩ := rh.obj _ _ h
  exact ⟨k, _, _, n, kD_rep rx, rfl, e, f _ m q _ H (Ts.refl _ _) (.bl _) rh⟩⟩
theorem tup_sq {K : PySem.W.Frag} {H : Hp} {k : List Key} {v : V} (r : Rep K H (.tup (k.map kD)) v) : ∃ b, v = .ref b ∧ SqT K H b (k.map kV) := by
  cases r with
  | tup e rr =>
    have := kDs_rep rr
    subst this
    exact ⟨_, rfl, .inl (.inl e)⟩
theorem SetT.of {K : PySem.W.Frag} {H : Hp} {P : Program} {w : World} {m : M} {a : Addr} {ks : List (List Key)} (h : SetT P w m a ks) (rh : RelH K H m) : ∃ N : List (Addr × List Key), m.mu a = some (.ext (TS0 P w a N) (N.map fun z => (z.1, D.tup (z.2.map kD)))) ∧ H a = some (.ext (TS0 P w a N)) ∧ (∀ z ∈ N, SqT K H z.1 (z.2.map kV)) ∧ (∀ k, hasK k N = hasL k ks) ∧ (∀ k, k ∈ N.map (·.2) ↔ k ∈ ks) ∧ N.length ≤ ks.length := by
  obtain ⟨N, h1, h2, h3⟩ := h
  obtain ⟨e, r⟩ := rh.obj _ _ h1
  refine ⟨N, h1, e, fun z hz => ?_, fun k => ?_, h2, h3⟩
  · obtain ⟨b, eb, sq⟩ := tup_sq (r (z.1, D.tup (z.2.map kD)) (List.mem_map.mpr ⟨z, hz, rfl⟩))
    cases eb; exact sq
  · rw [Bool.eq_iff_iff, hasK_iff, hasL_iff]; exact h2 k
theorem dc_inT {k : Nat} (hr : Room k X.A) : DC X .In (rdInT X.prog X.w false) := ⟨_, op_inT hr, fun x y vx vy H m Q' Q rx ry rh ⟨a, ks, k, ey, ex, hs, q⟩ f => by
  subst ey ex; cases ry
  obtain ⟨N, _, e, hM, hk, _⟩ := hs.of rh
  obtain ⟨b, rfl, sq⟩ := tup_sq rx
  refine ⟨_, b, k, N, rfl, rfl, e, sq, hM, ?_⟩
  rw [hk]
  exact f _ m q _ H (Ts.refl _ _) (.bl _) rh⟩
/-- adding -/
def dSAddS (P : Program) (w : World) (to te : DTr) : DTr := fun δ m Q => to δ m fun x m1 => ∃ a ks0, x = .ref a ∧ SetS P w m1 a ks0 ∧ te δ m1 fun y m2 => ∃ ks k, y = kD k ∧ SetS P w m2 a ks ∧ ks.length < 4000 ∧ ∀ m', (∃ o, m' = m2.set a o) → SetS P w m' a (k :: ks) → Q .non m'
theorem de_saddS (ho : DE X o to) (he : DE X e te)
    (hbase : attributeBase o "add" X.env (eval o X.env) = eval o X.env := by rfl)
    (hfew : ((backTo pos (starEach [e] X.env)).all (fun x => !x.1) && (backToKw pos (keywordEach [] X.env)).all (fun x => x.1.isSome)
      && decide ([e].length + ([] : List Keyword).length + (if ([] : List Keyword).isEmpty then 0 else 1) < 30)) = true := by rfl)
    (hline : (apos.endLine == pos.line) = true := by rfl) (hs : starEach [e] X.env = (false, eval e X.env) :: starEach [] X.env := by rfl) (hplain : (backTo pos (starEach [] X.env)).any (·.1) = false := by rfl) :
    DE X (.Call (.Attribute o "add" apos) [e] [] pos) (dSAddS X.prog X.w to te) := (pe_saddK ho (pa_cons he pa_nil hs) hbase hfew hline hs hplain).imp fun σ H Q ⟨δ, m, Q', rs, rh, q, f⟩ => by
  refine ⟨δ, m, _, rs, rh, q, fun x m1 ⟨a, ks0, ex, ⟨n0, h0, _⟩, q1⟩ v H1 t1 r1 rh1 => ?_⟩
  subst ex; cases r1
  obtain ⟨e0, _⟩ := rh1.obj _ _ h0
  refine ⟨⟨_, _, _, rfl, e0⟩, δ, m1, _, rs.mono t1, rh1, q1, fun y m2 ⟨ks, k, ey, ⟨n, h, hn⟩, hl, q2⟩ u H2 t2 r2 rh2 => ?_⟩
  subst ey
  obtain ⟨e2, _⟩ := rh2.obj _ _ h
  have ku := kD_rep r2
  subst ku
  refine ⟨_, k, _, n, rfl, rfl, e2, by have : scanBound = 4096 := rfl; omega, ?_⟩
  have es : (fun j => hasS j ks || decide (j = k)) = fun j => hasS j (k :: ks) := by
    funext j
    rw [hasS_cons]
  have ef : SetK X.prog X.w a (fun j => hasS j ks || decide (j = k)) (if hasS k ks = true then n else n + 1) = .ext (fun h => h.SetOf (mixKind X.prog X.w) a (fun j => hasS j (k :: ks)) (if hasS k ks = true then n else n + 1)) := by
    unfold SetK; rw [es]
  rw [ef]
  have t3 := rh2.putTS (o := .ext (fun h => h.SetOf (mixKind X.prog X.w) a (fun j => hasS j (k :: ks)) (if hasS k ks = true then n else n + 1))) h
  refine f .non _ (q2 (m2.set a (.ext (fun h => h.SetOf (mixKind X.prog X.w) a (fun j => hasS j (k :: ks)) (if hasS k ks = true then n else n + 1)) [])) ⟨_, rfl⟩ ⟨_, M.set_same, ?_⟩) _ _ ((t1.trans t2).trans t3) .non (rh2.put h ⟨upd_same, fun t z => nomatch z⟩)
  simp only [List.length_cons]; split <;> omega
/-- a method of a set of tuples -/
def tExtM (P : Program) (w : World) (r : V → List V → Hp → VK → Prop) (to : TE) (t : TA) : TE := fun σ H Q => to σ H fun x H1 => (∃ a N, x = V.ref a ∧ H1 a = some (.ext (TS0 P w a N))) ∧ t σ H1 fun xs H2 => r x xs H2 Q
theorem pe_saddT {k : Nat} (hr : Room k X.A) {to : TE} {t : TA} (ho : PE X o to) (ha : PA X (e :: es) t)
    (hbase : attributeBase o "add" X.env (eval o X.env) = eval o X.env := by rfl)
    (hfew : ((backTo pos (starEach (e :: es) X.env)).all (fun x => !x.1) && (backToKw pos (keywordEach [] X.env)).all (fun x => x.1.isSome)
      && decide ((e :: es).length + ([] : List Keyword).length + (if ([] : List Keyword).isEmpty then 0 else 1) < 30)) = true := by rfl)
    (hline : (apos.endLine == pos.line) = true := by rfl) (hs : starEach (e :: es) X.env = (false, eval e X.env) :: starEach es X.env := by rfl) (hplain : (backTo pos (starEach es X.env)).any (·.1) = false := by rfl) :
    PE X (.Call (.Attribute o "add" apos) (e :: es) [] pos) (tExtM X.prog X.w (rAddT X.K X.prog X.w) to t) := ⟨fun pins s σ H Q I h => wpAny_Call_method_late hbase hfew hline rfl (thn (ho.run pins s σ H _ I h) fun v s1 ⟨x, H1, I1, r1, ⟨a, N, ex, hN⟩, q1⟩ => by
  subst ex
  cases r1
  have T : TS0 X.prog X.w a N s1.heap := (I1.hok a _ hN).1
  refine ⟨"set", "set.add", F.plainAttrs_set, F.slot_set_add, F.type_set_add, T.ty, T.nod, ?_⟩
  have hA := ha.run pos pins s1 σ H1 _ I1 q1
  rw [hs] at hA ⊢
  refine Calls.callWith_builtin (show (false || (backTo pos (starEach es X.env)).any (·.1)) = false by rw [hplain]; rfl) (Calls.evalArgs_plain (thn hA fun us s2 ⟨vs, H2, I2, r2, q2⟩ => ?_))
  exact mt_addT hr pins s2 σ H2 (.ref a) vs (.ref a) us Q I2 rfl r2 q2)⟩
def dSAddT (P : Program) (w : World) (to te : DTr) : DTr := fun δ m Q => to δ m fun x m1 => ∃ a ks0, x = .ref a ∧ SetT P w m1 a ks0 ∧ te δ m1 fun y m2 => ∃ ks k, y = .tup (k.map kD) ∧ SetT P w m2 a ks ∧ ks.length < 62 ∧ ∀ m', (∃ o, m' = m2.set a o) → SetT P w m' a (k :: ks) → Q .non m'
theorem de_saddT {k : Nat} (hr : Room k X.A) (ho : DE X o to) (he : DE X e te)
    (hbase : attributeBase o "add" X.env (eval o X.env) = eval o X.env := by rfl)
    (hfew : ((backTo pos (starEach [e] X.env)).all (fun x => !x.1) && (backToKw pos (keywordEach [] X.env)).all (fun x => x.1.isSome)
      && decide ([e].length + ([] : List Keyword).length + (if ([] : List Keyword).isEmpty then 0 else 1) < 30)) = true := by rfl)
    (hline : (apos.endLine == pos.line) = true := by rfl) (hs : starEach [e] X.env = (false, eval e X.env) :: starEach [] X.env := by rfl) (hplain : (backTo pos (starEach [] X.env)).any (·.1) = false := by rfl) :
    DE X (.Call (.Attribute o "add" apos) [e] [] pos) (dSAddT X.prog X.w to te) := (pe_saddT hr ho (pa_cons he pa_nil hs) hbase hfew hline hs hplain).imp fun σ H Q ⟨δ, m, Q', rs, rh, q, f⟩ => by
  refine ⟨δ, m, _, rs, rh, q, fun x m1 ⟨a, ks0, ex, hs0, q1⟩ v H1 t1 r1 rh1 => ?_⟩
  subst ex; cases r1
  obtain ⟨N0, _, e0, _⟩ := hs0.of rh1
  refine ⟨⟨_, _, rfl, e0⟩, δ, m1, _, rs.mono t1, rh1, q1, fun y m2 ⟨ks, k, ey, hS, hl, q2⟩ u H2 t2 r2 rh2 => ?_⟩
  subst ey
  obtain ⟨N, hm, e2, hM, hk, hi, hn⟩ := hS.of rh2
  obtain ⟨b, rfl, sq⟩ := tup_sq r2
  refine ⟨_, b, k, N, rfl, rfl, e2, sq, hM, by omega, fun N' c1 c2 => ?_⟩
  have t3 := rh2.putTS (o := .ext (TS0 X.prog X.w a N')) hm
  have hN' : (∀ j, j ∈ N'.map (·.2) ↔ j ∈ k :: ks) ∧ N'.length ≤ (k :: ks).length ∧ ∀ z ∈ N', z ∈ N ∨ z = (b, k) := by
    by_cases z : k ∈ N.map (·.2)
    · rw [c1 z]
      refine ⟨fun j => ?_, by simp only [List.length_cons]; omega, fun z hz => .inl hz⟩
      rw [hi j, List.mem_cons]
      exact ⟨.inr, fun y => y.elim (fun y => by rw [y]; exact (hi k).mp z) id⟩
    · have pm := c2 z
      refine ⟨fun j => ?_, by rw [pm.length_eq]; simp only [List.length_cons]; omega, fun z hz => ?_⟩
      · rw [(pm.map (·.2)).mem_iff, List.map_cons, List.mem_cons, List.mem_cons, hi j]
      · rcases List.mem_cons.mp (pm.mem_iff.mp hz) with y | y
        · exact .inr y
        · exact .inl y
  have rb : Rep X.K H2 (.tup (k.map kD)) (.ref b) := r2
  refine f .non _ (q2 (m2.set a (.ext (TS0 X.prog X.w a N') (N'.map fun z => (z.1, D.tup (z.2.map kD))))) ⟨_, rfl⟩ ⟨N', M.set_same, hN'.1, hN'.2.1⟩) _ _ ((t1.trans t2).trans t3) .non (rh2.put hm ⟨upd_same, fun t ht => ?_⟩)
  obtain ⟨z, hz, rfl⟩ := List.mem_map.mp ht
  rcases hN'.2.2 z hz with hz | rfl
  · exact Rep.mono t3 _ _ ((rh2.obj _ _ hm).2 (z.1, D.tup (z.2.map kD)) (List.mem_map.mpr ⟨z, hz, rfl⟩))
  · exact Rep.mono t3 _ _ rb
end
end DL

namespace DL
open PySem PySem.Spec PyProof.Rows L2 GA GxR TM
/-! ### the truth of a tuple, of a text, of a list -/
def truD (m : M) (x : D) (k : Bool) : Prop := match x with
  | .tup ds => k = !ds.isEmpty
  | .bl b => k = b
  | .non => k = false
  | .str y => y.length ≤ sizeLine ∧ k = !decide (y.length = 0)
  | .ref a => ∃ ds, m.mu a = some (.lst ds) ∧ k = !ds.isEmpty
  | _ => False
theorem isEmpty_rep {K : PySem.W.Frag} {H : Hp} {ds : List D} {vs : List V} (r : Reps K H ds vs) : (!ds.isEmpty) = !vs.isEmpty := by cases r <;> rfl
def dTru (te : DTr) : DTT := fun δ m Q => te δ m fun x m1 => ∃ k, truD m1 x k ∧ Q k m1
theorem dt_truth {X : Cx} {e : Expr} {te : DTr} (he : DE X e te) (hw : ∀ whole, isTrue e X.env whole = (do let v ← whole; standAt e.pos; holding [v] (truthy v)) := by intro _; rfl) : DTst X e (dTru te) := (pt_truth he hw).imp fun σ H Q ⟨δ, m, Q', rs, rh, q, f⟩ =>
  ⟨δ, m, _, rs, rh, q, fun x m1 ⟨k, hk, q1⟩ v H1 t1 r1 rh1 => ⟨k, by
    cases r1 with
    | tup e rr => rw [show k = _ from hk, isEmpty_rep rr]; exact .inr (.inl ⟨_, .inl (.inl e), rfl⟩)
    | bl b => exact hk
    | non => exact hk
    | str y =>
      refine ⟨hk.1, hk.2.trans ?_⟩
      by_cases z : y.length = 0
      · rw [z]; rfl
      · have : ((y.length : Int) != 0) = true := by simpa using z
        rw [this, decide_eq_false z]; rfl
    | ref a =>
      obtain ⟨ds, e, hk⟩ := hk
      obtain ⟨xs, e1, rr⟩ := rh1.obj _ _ e
      rw [hk, isEmpty_rep rr]
      exact .inl ⟨xs, SqL.of e1, rfl⟩
    | _ => exact hk.elim, f k m1 q1 H1 t1 rh1⟩⟩
/-! ### written data: what the top's tables hold -/
mutual
def repB (K : PySem.W.Frag) : D → Value → Bool
  | .non, .none => true
  | .bl b, .bool c => b == c
  | .int i, .int j _ => decide (i = j)
  | .str x, .str y _ => decide (x = y)
  | .ktup ds, .ref a => match K.lookup a with
    | some ⟨.type c, _, .seq its _, _⟩ => decide (c = "tuple") && (decide (its.size ≤ sizeLine) && repsB K ds its.toList)
    | _ => false
  | _, _ => false
def repsB (K : PySem.W.Frag) : List D → List Value → Bool
  | [], [] => true
  | d :: ds, v :: vs => repB K d v && repsB K ds vs
  | _, _ => false
end
mutual
theorem repB_ok {K : PySem.W.Frag} : ∀ (d : D) (u : Value), repB K d u = true → ∃ v, RelV v u ∧ ∀ H, Rep K H d v
  | .non, u, h => by
    cases u <;> first | exact ⟨.non, rfl, fun _ => .non⟩ | (simp [repB] at h)
  | .bl b, u, h => by
    cases u with
    | bool c =>
      have e : b = c := by simpa [repB] using h
      subst e
      exact ⟨.bl b, rfl, fun _ => .bl b⟩
    | _ => simp [repB] at h
  | .int i, u, h => by
    cases u with
    | int j t =>
      have e : i = j := by simpa [repB] using h
      subst e
      exact ⟨.int i, ⟨t, rfl⟩, fun _ => .int i⟩
    | _ => simp [repB] at h
  | .str i, u, h => by
    cases u with
    | str j t =>
      have e : i = j := by simpa [repB] using h
      subst e
      exact ⟨.str i, ⟨t, rfl⟩, fun _ => .str i⟩
    | _ => simp [repB] at h
  | .ref a, u, h => by cases u <;> simp [repB] at h
  | .tup ds, u, h => by cases u <;> simp [repB] at h
  | .ktup ds, u, h => by
    cases u with
    | ref a =>
      unfold repB at h
      split at h
      · rename_i c od its n sl q
        simp only [Bool.and_eq_true, decide_eq_true_eq] at h
        obtain ⟨vs, r1, r2⟩ := repsB_ok ds its.toList h.2.2
        exact ⟨.ref a, rfl, fun H => .ktup (.inr ⟨_, its, n, q, congrArg Value.type h.1, rfl, h.2.1, r1⟩) (r2 H)⟩
      · cases h
    | _ => simp [repB] at h
theorem repsB_ok {K : PySem.W.Frag} : ∀ (ds : List D) (us : List Value), repsB K ds us = true → ∃ vs, Vals vs us ∧ ∀ H, Reps K H ds vs
  | [], us, h => by
    cases us with
    | nil => exact ⟨[], .nil, fun _ => .nil⟩
    | cons _ _ => simp [repsB] at h
  | d :: ds, us, h => by
    cases us with
    | nil => simp [repsB] at h
    | cons u us =>
      simp only [repsB, Bool.and_eq_true] at h
      obtain ⟨v, r1, r2⟩ := repB_ok d u h.1
      obtain ⟨vs, r3, r4⟩ := repsB_ok ds us h.2
      exact ⟨v :: vs, .cons r1 r3, fun H => .cons (r2 H) (r4 H)⟩
end
def wdB (K : PySem.W.Frag) (a : Addr) (kvs : List (Str × D)) : Bool := kvs.all fun q => match PySem.W.nsIn K a q.1 with
  | some (some u) => repB K q.2 u
  | _ => false
theorem wdict_of {K : PySem.W.Frag} {w : World} {a : Addr} {kvs : List (Str × D)} (h : wdB K a kvs = true) (hd : ∃ es n, KDict K w a es n) : WDict K w a kvs := ⟨hd, fun z v hm => by
  have h2 := List.all_eq_true.mp h (z, v) hm
  dsimp only at h2
  split at h2
  · rename_i u q
    obtain ⟨v0, r1, r2⟩ := repB_ok _ _ h2
    exact ⟨u, v0, q, r1, r2⟩
  · cases h2⟩
end DL

namespace PL
open PySem PySem.Spec PyProof.Rows L2 GA GxR DL
/-! ### what the program's tests tell, over trees -/
abbrev lettersS : Str := "abcdefghijklmnopqrstuvwxyz"
abbrev lettersDS : Str := "abcdefghijklmnopqrstuvwxyz0123456789"
def nameS (s : Str) : Bool := decide (1 ≤ s.length) && decide (s.length ≤ 8) && (match s.cps.toList with | c :: _ => decide (c ∈ lettersS.cps.toList) | [] => false) && s.cps.toList.all fun c => decide (c ∈ lettersDS.cps.toList)
def mInt : D → Bool
  | .int _ => true | _ => false
def mTupN (d : D) (n : Int) : Bool := match d with
  | .tup xs => decide ((xs.length : Int) = n) | _ => false
def mName : D → Bool
  | .str s => nameS s | _ => false
def mNum : D → Bool
  | .int i => decide (0 ≤ i) && decide (i ≤ 3) | _ => false
def mEnd : D → Bool
  | .tup [a, b] => mName a && mNum b | _ => false
def mStep : D → Bool
  | .tup [a, b, c] => (mName a && mNum b) && mNum c | _ => false
def kindS (s : Str) : Bool := s == "plain" || s == "points" || s == "crossing"
def mKind : D → Bool
  | .str s => kindS s | _ => false
def mStretch : D → Bool
  | .tup [a, b] => mName a && mKind b | _ => false
def mJoint : D → Bool
  | .tup [a, b] => mEnd a && mEnd b | _ => false
def mGate : D → Bool
  | .tup [a, b] => mName a && mEnd b | _ => false
def mOverlap : D → Bool
  | .tup xs => xs.all mStep && decide (xs.length ≤ 1) | _ => false
def mSignal : D → Bool
  | .tup [a, b, c] => (mName a && mEnd b) && mOverlap c | _ => false
def mAll (g : D → Bool) : D → Bool
  | .tup xs => xs.all g | _ => false
def mPlan : D → Bool
  | .tup [a, b, c, d] => mAll mStretch a && mAll mJoint b && (mAll mGate c && mAll mSignal d) | _ => false
/- values made of None, bools, ints, texts and tuples -/
mutual
def ty : D → Prop
  | .ref _ => False
  | .ktup _ => False
  | .tup ds => tys ds
  | .str s => s.length ≤ sizeLine
  | _ => True
def tys : List D → Prop
  | [] => True
  | d :: ds => ty d ∧ tys ds
end
theorem tys_mem : ∀ {ds : List D} {d : D}, tys ds → d ∈ ds → ty d
  | _ :: _, _, h, .head _ => h.1
  | _ :: _, _, h, .tail _ t => tys_mem h.2 t
/-- .. whose second thing is flat, if it is a pair -/
def tyS (d : D) : Prop := ty d ∧ ∀ a b, d = .tup [a, b] → flatD b = true
/-- .. of the form of a plan's: whose first part's pairs have flat second things -/
def tyP (d : D) : Prop := ty d ∧ ∀ a b c e, d = .tup [a, b, c, e] → ∀ xs, a = .tup xs → ∀ x ∈ xs, ∀ u v, x = .tup [u, v] → flatD v = true
def sp1 (Ok : M → Prop) (dom : D → Prop) (g : D → Bool) : DSp := fun ds m Q => ∃ d, ds = [d] ∧ dom d ∧ Ok m ∧ Q (.bl (g d)) m
theorem kit_ii : kitB "int" "int" = some true := by decide +kernel
theorem kit_bi : kitB "bool" "int" = some true := by decide +kernel
theorem kit_si : kitB "str" "int" = some false := by decide +kernel
theorem kit_ni : kitB "NoneType" "int" = some false := by decide +kernel
theorem kit_ti : kitB "tuple" "int" = some false := by decide +kernel
theorem kit_ib : kitB "int" "bool" = some false := by decide +kernel
theorem kit_bb : kitB "bool" "bool" = some true := by decide +kernel
theorem kit_it : kitB "int" "tuple" = some false := by decide +kernel
theorem kit_bt : kitB "bool" "tuple" = some false := by decide +kernel
theorem kit_st : kitB "str" "tuple" = some false := by decide +kernel
theorem kit_nt : kitB "NoneType" "tuple" = some false := by decide +kernel
theorem kit_tt : kitB "tuple" "tuple" = some true := by decide +kernel
theorem kit_is : kitB "int" "str" = some false := by decide +kernel
theorem kit_bs : kitB "bool" "str" = some false := by decide +kernel
theorem kit_ss : kitB "str" "str" = some true := by decide +kernel
theorem kit_ns : kitB "NoneType" "str" = some false := by decide +kernel
theorem kit_ts : kitB "tuple" "str" = some false := by decide +kernel
/-- isinstance of a typed value -/
def isiD (T : String) : D → Bool
  | .non => false
  | .bl _ => T == "bool" || T == "int"
  | .int _ => T == "int"
  | .str _ => T == "str"
  | .tup _ => T == "tuple"
  | _ => false
theorem dIsi_int {te : DTr} {δ : Sl} {m : M} {Q : DK} {d : D} (h : ∀ R : DK, R d m → te δ m R) (hd : ty d) (q : Q (.bl (isiD "int" d)) m) : dIsi "int" te δ m Q := by
  refine h _ ?_
  cases d with
  | non => exact ⟨_, _, rfl, kit_ni, q⟩
  | bl b => exact ⟨_, _, rfl, kit_bi, q⟩
  | int b => exact ⟨_, _, rfl, kit_ii, q⟩
  | str b => exact ⟨_, _, rfl, kit_si, q⟩
  | tup b => exact ⟨_, _, rfl, kit_ti, q⟩
  | ref a => exact hd.elim
  | ktup a => exact hd.elim
theorem dIsi_bool {te : DTr} {δ : Sl} {m : M} {Q : DK} {i : Int} (h : ∀ R : DK, R (.int i) m → te δ m R) (q : Q (.bl false) m) : dIsi "bool" te δ m Q := h _ ⟨_, _, rfl, kit_ib, q⟩
theorem dIsi_boolb {te : DTr} {δ : Sl} {m : M} {Q : DK} {i : Bool} (h : ∀ R : DK, R (.bl i) m → te δ m R) (q : Q (.bl true) m) : dIsi "bool" te δ m Q := h _ ⟨_, _, rfl, kit_bb, q⟩
theorem dIsi_tup {te : DTr} {δ : Sl} {m : M} {Q : DK} {d : D} (h : ∀ R : DK, R d m → te δ m R) (hd : ty d) (q : Q (.bl (isiD "tuple" d)) m) : dIsi "tuple" te δ m Q := by
  refine h _ ?_
  cases d with
  | non => exact ⟨_, _, rfl, kit_nt, q⟩
  | bl b => exact ⟨_, _, rfl, kit_bt, q⟩
  | int b => exact ⟨_, _, rfl, kit_it, q⟩
  | str b => exact ⟨_, _, rfl, kit_st, q⟩
  | tup b => exact ⟨_, _, rfl, kit_tt, q⟩
  | ref a => exact hd.elim
  | ktup a => exact hd.elim
theorem dIsi_str {te : DTr} {δ : Sl} {m : M} {Q : DK} {d : D} (h : ∀ R : DK, R d m → te δ m R) (hd : ty d) (q : Q (.bl (isiD "str" d)) m) : dIsi "str" te δ m Q := by
  refine h _ ?_
  cases d with
  | non => exact ⟨_, _, rfl, kit_ns, q⟩
  | bl b => exact ⟨_, _, rfl, kit_bs, q⟩
  | int b => exact ⟨_, _, rfl, kit_is, q⟩
  | str b => exact ⟨_, _, rfl, kit_ss, q⟩
  | tup b => exact ⟨_, _, rfl, kit_ts, q⟩
  | ref a => exact hd.elim
  | ktup a => exact hd.elim
theorem dVar_at {i : Nat} {δ : Sl} {m : M} {d : D} {R : DK} (h : δ[i]? = some (some d)) (q : R d m) : dVar i δ m R := ⟨d, h, q⟩
/-! ### equality of ints, texts -/
theorem eqI {i j : Int} {m : M} {Q : DK} (q : Q (.bl (decide (i = j))) m) : rdEq false (.int i) (.int j) m Q := by
  show Q (.bl (if false = true then !(i == j) else i == j)) m
  rw [if_neg Bool.false_ne_true, Bool.beq_eq_decide_eq]; exact q
theorem neI {i j : Int} {m : M} {Q : DK} (q : Q (.bl (!decide (i = j))) m) : rdEq true (.int i) (.int j) m Q := by
  show Q (.bl (if true = true then !(i == j) else i == j)) m
  rw [if_pos rfl, Bool.beq_eq_decide_eq]; exact q
theorem eqT {i j : Str} {m : M} {Q : DK} (q : Q (.bl (decide (i = j))) m) : rdEq false (.str i) (.str j) m Q := by
  show Q (.bl (if false = true then !(i == j) else i == j)) m
  rw [if_neg Bool.false_ne_true, Bool.beq_eq_decide_eq]; exact q
theorem neT {i j : Str} {m : M} {Q : DK} (q : Q (.bl (!decide (i = j))) m) : rdEq true (.str i) (.str j) m Q := by
  show Q (.bl (if true = true then !(i == j) else i == j)) m
  rw [if_pos rfl, Bool.beq_eq_decide_eq]; exact q
theorem tup2 (d : D) : (∃ a b, d = .tup [a, b]) ∨ (mTupN d 2 = false ∧ ∀ a b, d ≠ .tup [a, b]) := by
  cases d with
  | tup xs =>
    match xs with
    | [] => exact .inr ⟨rfl, fun a b h => by cases h⟩
    | [a] => exact .inr ⟨rfl, fun a b h => by cases h⟩
    | [a, b] => exact .inl ⟨a, b, rfl⟩
    | a :: b :: c :: r => exact .inr ⟨by simp only [mTupN, List.length_cons]; exact decide_eq_false (by omega), fun a b h => by cases h⟩
  | _ => exact .inr ⟨rfl, fun a b h => by cases h⟩
theorem tup3 (d : D) : (∃ a b c, d = .tup [a, b, c]) ∨ (mTupN d 3 = false ∧ ∀ a b c, d ≠ .tup [a, b, c]) := by
  cases d with
  | tup xs =>
    match xs with
    | [] => exact .inr ⟨rfl, fun a b c h => by cases h⟩
    | [a] => exact .inr ⟨rfl, fun a b c h => by cases h⟩
    | [a, b] => exact .inr ⟨rfl, fun a b c h => by cases h⟩
    | [a, b, c] => exact .inl ⟨a, b, c, rfl⟩
    | a :: b :: c :: e :: r => exact .inr ⟨by simp only [mTupN, List.length_cons]; exact decide_eq_false (by omega), fun a b c h => by cases h⟩
  | _ => exact .inr ⟨rfl, fun a b c h => by cases h⟩
theorem tup4 (d : D) : (∃ a b c e, d = .tup [a, b, c, e]) ∨ (mTupN d 4 = false ∧ ∀ a b c e, d ≠ .tup [a, b, c, e]) := by
  cases d with
  | tup xs =>
    match xs with
    | [] => exact .inr ⟨rfl, fun a b c e h => by cases h⟩
    | [a] => exact .inr ⟨rfl, fun a b c e h => by cases h⟩
    | [a, b] => exact .inr ⟨rfl, fun a b c e h => by cases h⟩
    | [a, b, c] => exact .inr ⟨rfl, fun a b c e h => by cases h⟩
    | [a, b, c, e] => exact .inl ⟨a, b, c, e, rfl⟩
    | a :: b :: c :: e :: f :: r => exact .inr ⟨by simp only [mTupN, List.length_cons]; exact decide_eq_false (by omega), fun a b c e h => by cases h⟩
  | _ => exact .inr ⟨rfl, fun a b c e h => by cases h⟩
theorem mEnd_no {d : D} (h : ∀ a b, d ≠ .tup [a, b]) : mEnd d = false := by unfold mEnd; split; exact (h _ _ rfl).elim; rfl
theorem mStretch_no {d : D} (h : ∀ a b, d ≠ .tup [a, b]) : mStretch d = false := by unfold mStretch; split; exact (h _ _ rfl).elim; rfl
theorem mJoint_no {d : D} (h : ∀ a b, d ≠ .tup [a, b]) : mJoint d = false := by unfold mJoint; split; exact (h _ _ rfl).elim; rfl
theorem mGate_no {d : D} (h : ∀ a b, d ≠ .tup [a, b]) : mGate d = false := by unfold mGate; split; exact (h _ _ rfl).elim; rfl
theorem mStep_no {d : D} (h : ∀ a b c, d ≠ .tup [a, b, c]) : mStep d = false := by unfold mStep; split; exact (h _ _ _ rfl).elim; rfl
theorem mSignal_no {d : D} (h : ∀ a b c, d ≠ .tup [a, b, c]) : mSignal d = false := by unfold mSignal; split; exact (h _ _ _ rfl).elim; rfl
theorem mPlan_no {d : D} (h : ∀ a b c e, d ≠ .tup [a, b, c, e]) : mPlan d = false := by unfold mPlan; split; exact (h _ _ _ _ rfl).elim; rfl
/-- a sign among the letters and digits -/
def mSign : D → Bool
  | .str z => z.cps.toList.all fun c => decide (c ∈ lettersDS.cps.toList)
  | _ => false
theorem all_signs' (s : Str) : ((s.cps.toList.map fun c => D.str ⟨#[c]⟩).all mSign) = s.cps.toList.all fun c => decide (c ∈ lettersDS.cps.toList) := by
  rw [List.all_map]
  congr 1
  funext c
  simp [mSign]
theorem eqFl_str (a b : Str) : eqFl (.str a) (.str b) = (a == b) := rfl
theorem kinds_any {d : D} (h : flatD d = true) : ([D.str "plain", D.str "points", D.str "crossing"].any fun x => eqFl x d) = mKind d := by
  cases d with
  | str s =>
    simp only [List.any_cons, List.any_nil, Bool.or_false, eqFl_str, mKind, kindS]
    have e : ∀ a b : Str, (a == b) = (b == a) := fun a b => BEq.comm
    rw [e "plain", e "points", e "crossing", Bool.or_assoc]
  | tup _ => simp [flatD] at h
  | ktup _ => simp [flatD] at h
  | ref _ => simp [flatD] at h
  | _ => rfl
theorem ifT {c : Bool} {A B : Prop} (h : c = true) (a : A) : if c = true then A else B := by rw [if_pos h]; exact a
theorem ifF {c : Bool} {A B : Prop} (h : c = false) (b : B) : if c = true then A else B := by rw [h, if_neg Bool.false_ne_true]; exact b
theorem len1 {s : Str} {c : Nat} {r : List Nat} (h : s.cps.toList = c :: r) : atI s.cps.toList 0 = some c := by rw [h]; simp [atI, ixN]
theorem nameS_len {s : Str} (h : nameS s = true) : 1 ≤ s.length ∧ s.length ≤ 8 := by
  unfold nameS at h
  simp only [Bool.and_eq_true, decide_eq_true_eq] at h
  exact ⟨h.1.1.1, h.1.1.2⟩
theorem sl8 {n : Nat} (h : n ≤ 8) : n ≤ sizeLine := Nat.le_trans h (by decide)
end PL

namespace PL
open PySem PySem.Spec PyProof.Rows L2 GA GxR DL
/-! ### texts -/
theorem str_ext {a b : Str} (h : a.cps.toList = b.cps.toList) : a = b := by
  cases a; cases b
  simp only at h
  congr
  exact Array.ext' h
theorem app_list (a b : Str) : (a ++ b).cps.toList = a.cps.toList ++ b.cps.toList := by
  show (a.cps ++ b.cps).toList = _
  simp
theorem app_assoc (a b c : Str) : (a ++ b) ++ c = a ++ (b ++ c) := str_ext (by simp [app_list, List.append_assoc])
theorem emp_app (a : Str) : Str.empty ++ a = a := str_ext (by rw [app_list]; rfl)
theorem len_list (a : Str) : a.length = a.cps.toList.length := by
  show a.cps.size = _
  simp
theorem len_app (a b : Str) : (a ++ b).length = a.length + b.length := by
  rw [len_list, len_list, len_list, app_list, List.length_append]
/-! ### plans -/
abbrev End := Str × Int
abbrev Step := Str × Int × Int
structure Pln where
  st : List (Str × Str)
  jo : List (End × End)
  ga : List (Str × End)
  si : List (Str × End × Option Step)
def endD (e : End) : D := .tup [.str e.1, .int e.2]
def stepD (s : Step) : D := .tup [.str s.1, .int s.2.1, .int s.2.2]
def strD (s : Str × Str) : D := .tup [.str s.1, .str s.2]
def joD (j : End × End) : D := .tup [endD j.1, endD j.2]
def gaD (g : Str × End) : D := .tup [.str g.1, endD g.2]
def ovD (o : Option Step) : D := match o with
  | none => .tup [] | some s => .tup [stepD s]
def siD (s : Str × End × Option Step) : D := .tup [.str s.1, endD s.2.1, ovD s.2.2]
def Pln.d (p : Pln) : D := .tup [.tup (p.st.map strD), .tup (p.jo.map joD), .tup (p.ga.map gaD), .tup (p.si.map siD)]
def numOk (i : Int) : Prop := 0 ≤ i ∧ i ≤ 3
def endOk (e : End) : Prop := nameS e.1 = true ∧ numOk e.2
def stepOk (s : Step) : Prop := nameS s.1 = true ∧ numOk s.2.1 ∧ numOk s.2.2
def strOk' (s : Str × Str) : Prop := nameS s.1 = true ∧ kindS s.2 = true
def joOk (j : End × End) : Prop := endOk j.1 ∧ endOk j.2
def gaOk (g : Str × End) : Prop := nameS g.1 = true ∧ endOk g.2
def siOk (s : Str × End × Option Step) : Prop := nameS s.1 = true ∧ endOk s.2.1 ∧ ∀ t, s.2.2 = some t → stepOk t
/-- a plan, of a size within the limits of what is passed -/
structure Pln.Ok (p : Pln) : Prop where
  st : ∀ s ∈ p.st, strOk' s
  jo : ∀ s ∈ p.jo, joOk s
  ga : ∀ s ∈ p.ga, gaOk s
  si : ∀ s ∈ p.si, siOk s
  n1 : p.st.length ≤ 12
  n2 : p.jo.length ≤ 16
  n3 : p.ga.length ≤ 4
  n4 : p.si.length ≤ 10
theorem mNum_ok {i : Int} (h : numOk i) : mNum (.int i) = true := by
  show (decide (0 ≤ i) && decide (i ≤ 3)) = true
  rw [decide_eq_true h.1, decide_eq_true h.2]; rfl
theorem mEnd_ok {e : End} (h : endOk e) : mEnd (endD e) = true := by
  show (nameS e.1 && mNum (.int e.2)) = true
  rw [h.1, mNum_ok h.2]; rfl
theorem mStep_ok {e : Step} (h : stepOk e) : mStep (stepD e) = true := by
  show ((nameS e.1 && mNum (.int e.2.1)) && mNum (.int e.2.2)) = true
  rw [h.1, mNum_ok h.2.1, mNum_ok h.2.2]; rfl
theorem mStretch_ok {e : Str × Str} (h : strOk' e) : mStretch (strD e) = true := by
  show (nameS e.1 && kindS e.2) = true
  rw [h.1, h.2]; rfl
theorem mJoint_ok {e : End × End} (h : joOk e) : mJoint (joD e) = true := by
  show (mEnd (endD e.1) && mEnd (endD e.2)) = true
  rw [mEnd_ok h.1, mEnd_ok h.2]; rfl
theorem mGate_ok {e : Str × End} (h : gaOk e) : mGate (gaD e) = true := by
  show (nameS e.1 && mEnd (endD e.2)) = true
  rw [h.1, mEnd_ok h.2]; rfl
theorem mSignal_ok {e : Str × End × Option Step} (h : siOk e) : mSignal (siD e) = true := by
  show ((nameS e.1 && mEnd (endD e.2.1)) && mOverlap (ovD e.2.2)) = true
  rw [h.1, mEnd_ok h.2.1]
  cases ho : e.2.2 with
  | none => rfl
  | some t => show (true && true && (([stepD t].all mStep) && true)) = true; simp [mStep_ok (h.2.2 t ho)]
theorem mAll_ok {α : Type} {f : α → D} {g : D → Bool} {l : List α} {ok : α → Prop} (h : ∀ x ∈ l, ok x) (hg : ∀ x, ok x → g (f x) = true) : mAll g (.tup (l.map f)) = true := by
  show (l.map f).all g = true
  rw [List.all_map, List.all_eq_true]
  exact fun x hx => hg x (h x hx)
theorem mPlan_ok {p : Pln} (h : p.Ok) : mPlan p.d = true := by
  show (mAll mStretch (.tup (p.st.map strD)) && mAll mJoint (.tup (p.jo.map joD)) && (mAll mGate (.tup (p.ga.map gaD)) && mAll mSignal (.tup (p.si.map siD)))) = true
  rw [mAll_ok h.st fun _ => mStretch_ok, mAll_ok h.jo fun _ => mJoint_ok, mAll_ok h.ga fun _ => mGate_ok, mAll_ok h.si fun _ => mSignal_ok]; rfl
theorem name_ty {s : Str} (h : nameS s = true) : s.length ≤ sizeLine := sl8 (nameS_len h).2
theorem kind_len {s : Str} (h : kindS s = true) : s.length ≤ 8 := by
  unfold kindS at h
  simp only [Bool.or_eq_true, beq_iff_eq] at h
  rcases h with (rfl | rfl) | rfl <;> decide
theorem tys_map {α : Type} {f : α → D} : ∀ {l : List α}, (∀ x ∈ l, ty (f x)) → tys (l.map f)
  | [], _ => trivial
  | a :: l, h => ⟨h a List.mem_cons_self, tys_map fun x hx => h x (List.mem_cons_of_mem _ hx)⟩
theorem end_ty {e : End} (h : endOk e) : ty (endD e) := ⟨name_ty h.1, trivial, trivial⟩
theorem step_ty {e : Step} (h : stepOk e) : ty (stepD e) := ⟨name_ty h.1, trivial, trivial, trivial⟩
theorem ov_ty {o : Option Step} (h : ∀ t, o = some t → stepOk t) : ty (ovD o) := by
  cases o with
  | none => exact trivial
  | some t => exact ⟨step_ty (h t rfl), trivial⟩
theorem plan_ty {p : Pln} (h : p.Ok) : tyP p.d := by
  refine ⟨⟨tys_map fun x hx => ⟨name_ty (h.st x hx).1, sl8 (kind_len (h.st x hx).2), trivial⟩, tys_map fun x hx => ⟨end_ty (h.jo x hx).1, end_ty (h.jo x hx).2, trivial⟩,
    tys_map fun x hx => ⟨name_ty (h.ga x hx).1, end_ty (h.ga x hx).2, trivial⟩, tys_map fun x hx => ⟨name_ty (h.si x hx).1, end_ty (h.si x hx).2.1, ov_ty (h.si x hx).2.2, trivial⟩, trivial⟩, ?_⟩
  intro a b c e he xs hx x hm u v hxu
  unfold Pln.d at he
  cases he; cases hx
  obtain ⟨s, _, rfl⟩ := List.mem_map.mp hm
  cases hxu; rfl
/-! ### the lines of a plan -/
def numT (i : Int) : Str := Str.ofString (toString i)
def endT (e : End) : Str := e.1 ++ " " ++ numT e.2
def stT (s : Str × Str) : Str := ("stretch " : Str) ++ s.1 ++ " " ++ s.2
def joT (j : End × End) : Str := ("join " : Str) ++ endT j.1 ++ " " ++ endT j.2
def gaT (g : Str × End) : Str := ("gate " : Str) ++ g.1 ++ " " ++ endT g.2
def ovT (t : Step) : Str := (" over " : Str) ++ t.1 ++ " " ++ numT t.2.1 ++ " " ++ numT t.2.2
def siT (s : Str × End × Option Step) : Str := match s.2.2 with
  | none => ("signal " : Str) ++ s.1 ++ " " ++ endT s.2.1
  | some t => (("signal " : Str) ++ s.1 ++ " " ++ endT s.2.1) ++ ovT t
def Pln.lines (p : Pln) : List Str := p.st.map stT ++ p.jo.map joT ++ p.ga.map gaT ++ p.si.map siT
theorem num_cases {i : Int} (h : numOk i) : i = 0 ∨ i = 1 ∨ i = 2 ∨ i = 3 := by unfold numOk at h; omega
theorem numT_len {i : Int} (h : numOk i) : (numT i).length = 1 := by rcases num_cases h with rfl | rfl | rfl | rfl <;> decide +kernel
theorem num_log {i : Int} (h : numOk i) : i.natAbs.log2 < 1920 := by rcases num_cases h with rfl | rfl | rfl | rfl <;> decide
theorem endT_len {e : End} (h : endOk e) : (endT e).length ≤ 10 := by
  have h1 := (nameS_len h.1).2
  unfold endT
  rw [len_app, len_app, numT_len h.2]
  have : (" " : Str).length = 1 := by decide +kernel
  omega
theorem slk {n : Nat} (h : n ≤ 1000) : n ≤ sizeLine := Nat.le_trans h (by decide)
end PL

namespace PL
open PySem PySem.Spec PyProof.Rows L2 GA GxR DL
/-! ### stores that grow -/
structure Ext (m m' : M) : Prop where
  gh : m'.gh = m.gh
  old : ∀ a o, m.mu a = some o → m'.mu a = some o
theorem Ext.refl (m : M) : Ext m m := ⟨rfl, fun _ _ h => h⟩
theorem Ext.trans {a b c : M} (h : Ext a b) (i : Ext b c) : Ext a c := ⟨i.gh.trans h.gh, fun x o z => i.old x o (h.old x o z)⟩
theorem Ext.set {m m' : M} {p : Addr} {o : DO} (h : Ext m m') (hp : m.mu p = none) : Ext m (m'.set p o) := ⟨h.gh, fun a x z => by
  have ne : a ≠ p := fun e => by subst e; rw [hp] at z; cases z
  rw [M.set_ne ne]; exact h.old a x z⟩
theorem Ext.new {m : M} {p : Addr} {o : DO} (hp : m.mu p = none) : Ext m (m.set p o) := (Ext.refl m).set hp
/-- a list comprehension by its turns: each gives a thing, or none -/
inductive Outs (Rel : D → Option D → Prop) : List D → List D → Prop
  | nil : Outs Rel [] []
  | keep {d y : D} {ds ys : List D} (h : Rel d (some y)) (t : Outs Rel ds ys) : Outs Rel (d :: ds) (y :: ys)
  | skip {d : D} {ds ys : List D} (h : Rel d none) (t : Outs Rel ds ys) : Outs Rel (d :: ds) ys
theorem Outs.len {Rel : D → Option D → Prop} {xs ys : List D} (h : Outs Rel xs ys) : ys.length ≤ xs.length := by
  induction h with
  | nil => exact Nat.le_refl _
  | keep _ _ ih => simp; exact ih
  | skip _ _ ih => simp; omega
theorem Outs.snoc {Rel : D → Option D → Prop} {xs ys : List D} {d : D} (h : Outs Rel xs ys) : (∀ y, Rel d (some y) → Outs Rel (xs ++ [d]) (ys ++ [y])) ∧ (Rel d none → Outs Rel (xs ++ [d]) ys) := by
  induction h with
  | nil => exact ⟨fun y r => .keep r .nil, fun r => .skip r .nil⟩
  | keep h t ih => exact ⟨fun y r => .keep h (ih.1 y r), fun r => .keep h (ih.2 r)⟩
  | skip h t ih => exact ⟨fun y r => .skip h (ih.1 y r), fun r => .skip h (ih.2 r)⟩
theorem Outs.map {xs ys : List D} {f : D → D} (h : Outs (fun d o => o = some (f d)) xs ys) : ys = xs.map f := by
  induction h with
  | nil => rfl
  | keep h t ih => cases h; rw [ih]; rfl
  | skip h t ih => cases h
theorem Outs.filter {xs ys : List D} {f : D → D} {p : D → Bool} (h : Outs (fun d o => o = if p d = true then some (f d) else none) xs ys) : ys = (xs.filter p).map f := by
  induction h with
  | nil => rfl
  | keep h t ih =>
    rename_i d y ds ys
    cases e : p d with
    | true => rw [e, if_pos rfl] at h; cases h; rw [List.filter_cons_of_pos e, ih]; rfl
    | false => rw [e, if_neg Bool.false_ne_true] at h; cases h
  | skip h t ih =>
    rename_i d ds ys
    cases e : p d with
    | true => rw [e, if_pos rfl] at h; cases h
    | false => rw [List.filter_cons_of_neg (by simp [e]), ih]
theorem Outs.all {Rel : D → Option D → Prop} {P : D → Prop} {xs ys : List D} (h : Outs Rel xs ys) (hp : ∀ d ∈ xs, ∀ y, Rel d (some y) → P y) : ∀ y ∈ ys, P y := by
  induction h with
  | nil => intro y hy; cases hy
  | keep h t ih =>
    intro y hy
    rcases List.mem_cons.mp hy with rfl | hy
    · exact hp _ List.mem_cons_self _ h
    · exact ih (fun d hd => hp d (List.mem_cons_of_mem _ hd)) y hy
  | skip h t ih => exact ih fun d hd => hp d (List.mem_cons_of_mem _ hd)
theorem take_snoc {α : Type} {xs : List α} {i : Nat} {d : α} (h : xs[i]? = some d) : xs.take (i + 1) = xs.take i ++ [d] := by rw [List.take_succ, h]; rfl
abbrev WkS (m : M) (xs : List D) (ws : DTI) (δ : Sl) : Prop := ∀ R : List D → (M → Prop) → M → Prop, (∀ (ok : M → Prop) m1, Ext m m1 → (∀ m', Ext m1 m' → ok m') → R xs ok m1) → ws δ m R
theorem dLC_gen {ws : DTI} {g : Tg} {tt : DTT} {te : DTr} {ow : List Nat} {δ : Sl} {m : M} {Q : DK} {xs : List D} {Rel : D → Option D → Prop} {I : M → Prop} (hI : I m) (hIe : ∀ a b, I a → Ext a b → I b)
    (hw : WkS m xs ws δ) (hz : xs.length ≤ sizeLine)
    (he : ∀ d ∈ xs, ∀ m', Ext m m' → I m' → ∀ (Ry : D → M → Prop) (Rn : M → Prop), (∀ y m4, Rel d (some y) → Ext m' m4 → Ry y m4) → (∀ m4, Rel d none → Ext m' m4 → Rn m4) → gD g d (wipeD δ ow) fun δ2 => tt δ2 m' fun b m3 => if b = true then te δ2 m3 Ry else Rn m3)
    (hq : ∀ p m' ys, m.mu p = none → Ext m m' → I m' → m'.mu p = some (.lst ys) → Outs Rel xs ys → Q (.ref p) m') : dLC ws g tt te ow δ m Q := by
  refine hw _ fun ok m1 hE hok p hp1 => ?_
  have hp : m.mu p = none := by
    cases e : m.mu p with
    | none => rfl
    | some o => rw [hE.old _ _ e] at hp1; cases hp1
  have hI1 := hIe _ _ hI hE
  refine ⟨fun i m' => Ext m1 m' ∧ I m' ∧ ∃ ys, m'.mu p = some (.lst ys) ∧ Outs Rel (xs.take i) ys, ⟨Ext.new hp1, hIe _ _ hI1 (Ext.new hp1), [], M.set_same, .nil⟩, fun i m' h => hok m' h.1, ?_, ?_⟩
  · rintro i d m' hd ⟨h1, hi, ys, h2, h3⟩
    have hl : ys.length < sizeLine := by
      have h4 := h3.len
      have h5 : i < xs.length := by
        by_cases h : i < xs.length
        · exact h
        · rw [List.getElem?_eq_none (by omega)] at hd; cases hd
      rw [List.length_take] at h4; omega
    refine he d (List.mem_of_getElem? hd) m' (hE.trans h1) hi _ _ (fun y m4 hr h4 => ⟨ys, h4.old _ _ h2, hl, (h1.trans h4).set hp1, ?_, ys ++ [y], M.set_same, ?_⟩) fun m4 hr h4 => ⟨h1.trans h4, hIe _ _ hi h4, ys, h4.old _ _ h2, ?_⟩
    · exact hIe m1 _ hI1 ((h1.trans h4).set hp1)
    · rw [take_snoc hd]; exact h3.snoc.1 y hr
    · rw [take_snoc hd]; exact h3.snoc.2 hr
  · rintro m' ⟨h1, hi, ys, h2, h3⟩
    rw [List.take_length] at h3
    exact hq p m' ys hp (hE.trans h1) hi h2 h3
theorem iT_w {te : DTr} {δ : Sl} {m : M} {xs : List D} (h : ∀ R : DK, (R (.tup xs) m) → te δ m R) : WkS m xs (iT te) δ := fun R hR => h _ ⟨xs, .inl rfl, hR _ m (Ext.refl m) fun _ _ => trivial⟩
theorem iL_w {te : DTr} {δ : Sl} {m : M} {xs : List D} {a : Addr} (h : ∀ R : DK, (R (.ref a) m) → te δ m R) (ha : m.mu a = some (.lst xs)) : WkS m xs (iL te) δ := fun R hR => h _ ⟨a, xs, rfl, ha, hR _ m (Ext.refl m) fun m' h => h.old _ _ ha⟩
/-- .. a list that is made for the walk -/
theorem iL_new {te : DTr} {δ : Sl} {m : M} {xs : List D} (h : ∀ R : DK, (∀ a m1, Ext m m1 → m1.mu a = some (.lst xs) → R (.ref a) m1) → te δ m R) : WkS m xs (iL te) δ := fun R hR => h _ fun a m1 hE ha => ⟨a, xs, rfl, ha, hR _ m1 hE fun m' h => h.old _ _ ha⟩
theorem iR_w {te : DTr} {δ : Sl} {m : M} {j : Int} (h : ∀ R : DK, (R (.int j) m) → te δ m R) (h1 : -(2 ^ 62) ≤ j) (h2 : j < 2 ^ 62) : WkS m (rangeD j.toNat) (iR1 te) δ := fun R hR => h _ ⟨j, rfl, h1, h2, hR _ m (Ext.refl m) fun _ _ => trivial⟩
theorem yesT {δ : Sl} {m : M} {A : M → Prop} {B : M → Prop} (h : A m) : dYes δ m (fun b m3 => if b = true then A m3 else B m3) := by show if true = true then A m else B m; rw [if_pos rfl]; exact h
theorem slen {s : Str} {n : Nat} (h : s.length ≤ n) (hn : n ≤ 1000 := by decide) : s.length ≤ sizeLine := slk (Nat.le_trans h hn)
/-! ### f-strings -/
theorem js_nil {acc : Str} {δ : Sl} {m : M} {Q : Str → M → Prop} (h : Q acc m) : dJs [] acc δ m Q := h
theorem js_c {ts : List DTr} {acc y : Str} {δ : Sl} {m : M} {Q : Str → M → Prop} (hl : (acc ++ y).length ≤ 1000) (h : dJs ts (acc ++ y) δ m Q) : dJs (dC (.str y) :: ts) acc δ m Q := ⟨y, rfl, slk hl, h⟩
theorem js_s {ts : List DTr} {acc y : Str} {te : DTr} {δ : Sl} {m : M} {Q : Str → M → Prop} (ht : ∀ R : DK, R (.str y) m → te δ m R) (hl : (acc ++ y).length ≤ 1000) (h : dJs ts (acc ++ y) δ m Q) : dJs (dFmt te :: ts) acc δ m Q :=
  ht _ ⟨slk (by rw [len_app] at hl; omega), y, rfl, slk hl, h⟩
theorem js_i {ts : List DTr} {acc : Str} {i : Int} {te : DTr} {δ : Sl} {m : M} {Q : Str → M → Prop} (ht : ∀ R : DK, R (.int i) m → te δ m R) (ho : i.natAbs.log2 < 1920) (hl : (acc ++ numT i).length ≤ 1000) (h : dJs ts (acc ++ numT i) δ m Q) : dJs (dFmt te :: ts) acc δ m Q :=
  ht _ ⟨ho, numT i, rfl, slk hl, h⟩
theorem l_emp : Str.empty.length = 0 := rfl
theorem l_sp : (" " : Str).length = 1 := by decide +kernel
theorem l_stretch : ("stretch " : Str).length = 8 := by decide +kernel
theorem l_join : ("join " : Str).length = 5 := by decide +kernel
theorem l_gate : ("gate " : Str).length = 5 := by decide +kernel
theorem l_signal : ("signal " : Str).length = 7 := by decide +kernel
theorem l_over : (" over " : Str).length = 6 := by decide +kernel
theorem Outs.mapOf {α : Type} {f h : α → D} {P : α → Prop} (inj : ∀ a b, f a = f b → h a = h b) : ∀ {l : List α} {ys : List D}, Outs (fun d o => ∃ a, d = f a ∧ P a ∧ o = some (h a)) (l.map f) ys → ys = l.map h
  | [], _, o => by cases o; rfl
  | a :: l, _, o => by
    cases o with
    | keep r t =>
      obtain ⟨b, e, _, e2⟩ := r
      cases e2
      rw [Outs.mapOf inj t, ← inj a b e]; rfl
    | skip r t => obtain ⟨b, _, _, e2⟩ := r; cases e2
theorem endD_inj {a b : End} (h : endD a = endD b) : a = b := by
  obtain ⟨a1, a2⟩ := a; obtain ⟨b1, b2⟩ := b
  unfold endD at h; cases h; rfl
theorem strD_inj {a b : Str × Str} (h : strD a = strD b) : a = b := by
  obtain ⟨a1, a2⟩ := a; obtain ⟨b1, b2⟩ := b
  unfold strD at h; cases h; rfl
theorem joD_inj {a b : End × End} (h : joD a = joD b) : a = b := by
  obtain ⟨a1, a2⟩ := a; obtain ⟨b1, b2⟩ := b
  have h1 : endD a1 = endD b1 := by unfold joD at h; injection h with h; injection h
  have h2 : endD a2 = endD b2 := by unfold joD at h; injection h with h; injection h with _ h; injection h
  rw [endD_inj h1, endD_inj h2]
theorem gaD_inj {a b : Str × End} (h : gaD a = gaD b) : a = b := by
  obtain ⟨a1, a2⟩ := a; obtain ⟨b1, b2⟩ := b
  have h1 : D.str a1 = D.str b1 := by unfold gaD at h; injection h with h; injection h
  have h2 : endD a2 = endD b2 := by unfold gaD at h; injection h with h; injection h with _ h; injection h
  cases h1; rw [endD_inj h2]
theorem ovD_inj {a b : Option Step} (h : ovD a = ovD b) : a = b := by
  cases a <;> cases b
  · rfl
  · unfold ovD at h; simp at h
  · unfold ovD at h; simp at h
  · rename_i a b
    obtain ⟨a1, a2, a3⟩ := a; obtain ⟨b1, b2, b3⟩ := b
    unfold ovD stepD at h; simp at h
    obtain ⟨rfl, rfl, rfl⟩ := h; rfl
theorem siD_inj {a b : Str × End × Option Step} (h : siD a = siD b) : a = b := by
  obtain ⟨a1, a2, a3⟩ := a; obtain ⟨b1, b2, b3⟩ := b
  have h1 : D.str a1 = D.str b1 := by unfold siD at h; injection h with h; injection h
  have h2 : endD a2 = endD b2 := by unfold siD at h; injection h with h; injection h with _ h; injection h
  have h3 : ovD a3 = ovD b3 := by unfold siD at h; injection h with h; injection h with _ h; injection h with _ h; injection h
  cases h1; rw [endD_inj h2, ovD_inj h3]
theorem stT_len {s : Str × Str} (h : strOk' s) : (stT s).length ≤ 100 := by
  have h1 := (nameS_len h.1).2; have h2 := kind_len h.2
  unfold stT; simp only [len_app, l_stretch, l_sp]; omega
theorem joT_len {s : End × End} (h : joOk s) : (joT s).length ≤ 100 := by
  have h1 := endT_len h.1; have h2 := endT_len h.2
  unfold joT; simp only [len_app, l_join, l_sp]; omega
theorem gaT_len {s : Str × End} (h : gaOk s) : (gaT s).length ≤ 100 := by
  have h1 := (nameS_len h.1).2; have h2 := endT_len h.2
  unfold gaT; simp only [len_app, l_gate, l_sp]; omega
theorem ovT_len {t : Step} (h : stepOk t) : (ovT t).length ≤ 30 := by
  have h1 := (nameS_len h.1).2; have h2 := numT_len h.2.1; have h3 := numT_len h.2.2
  unfold ovT; simp only [len_app, l_over, l_sp]; omega
theorem siT_len {s : Str × End × Option Step} (h : siOk s) : (siT s).length ≤ 100 := by
  obtain ⟨nm, en, ov⟩ := s
  have h1 := (nameS_len h.1).2; have h2 := endT_len h.2.1
  dsimp only at h1 h2
  cases ov with
  | none => show (("signal " : Str) ++ nm ++ " " ++ endT en).length ≤ 100; simp only [len_app, l_signal, l_sp]; omega
  | some t =>
    have h3 := ovT_len (h.2.2 t rfl)
    show ((("signal " : Str) ++ nm ++ " " ++ endT en) ++ ovT t).length ≤ 100; simp only [len_app, l_signal, l_sp]; omega
theorem sum_le {l : List Nat} {n : Nat} (h : ∀ x ∈ l, x ≤ n) : l.sum ≤ l.length * n := by
  induction l with
  | nil => simp
  | cons a l ih =>
    have h1 := h a List.mem_cons_self
    have h2 := ih fun x hx => h x (List.mem_cons_of_mem _ hx)
    rw [List.sum_cons, List.length_cons, Nat.succ_mul]; omega
theorem Pln.Ok.line {p : Pln} (h : p.Ok) : ∀ x ∈ p.lines, x.length ≤ 100 := by
  intro x hx
  unfold Pln.lines at hx
  simp only [List.mem_append, List.mem_map] at hx
  rcases hx with ((⟨a, ha, rfl⟩ | ⟨a, ha, rfl⟩) | ⟨a, ha, rfl⟩) | ⟨a, ha, rfl⟩
  · exact stT_len (h.st a ha)
  · exact joT_len (h.jo a ha)
  · exact gaT_len (h.ga a ha)
  · exact siT_len (h.si a ha)
theorem Pln.Ok.many {p : Pln} (h : p.Ok) : p.lines.length ≤ 42 := by
  unfold Pln.lines
  simp only [List.length_append, List.length_map]
  have := h.n1; have := h.n2; have := h.n3; have := h.n4
  omega
theorem Pln.Ok.size {p : Pln} (h : p.Ok) : (p.lines.map (·.length)).sum + p.lines.length * ("\n" : Str).length ≤ 16777216 := by
  have h1 : (p.lines.map (·.length)).sum ≤ (p.lines.map (·.length)).length * 100 := sum_le fun x hx => by
    obtain ⟨y, hy, rfl⟩ := List.mem_map.mp hx
    exact h.line y hy
  have h2 := h.many
  have h3 : ("\n" : Str).length = 1 := by decide +kernel
  rw [List.length_map] at h1
  rw [h3]; omega
end PL

namespace PL
open PySem PySem.Spec PyProof.Rows L2 GA GxR DL
/-! ### the deck -/
abbrev deckD (aC : Addr) (x k : Int) : List (Key × D) := [(.inr "cells", .ref aC), (.inr "mixed", .int x), (.inr "draws", .int k)]
theorem dk_cells {a b c : D} : valD ([(.inr "cells", a), (.inr "mixed", b), (.inr "draws", c)] : List (Key × D)) (.inr "cells") = some a := by with_unfolding_all rfl
theorem dk_mixed {a b c : D} : valD ([(.inr "cells", a), (.inr "mixed", b), (.inr "draws", c)] : List (Key × D)) (.inr "mixed") = some b := by with_unfolding_all rfl
theorem dk_draws {a b c : D} : valD ([(.inr "cells", a), (.inr "mixed", b), (.inr "draws", c)] : List (Key × D)) (.inr "draws") = some c := by with_unfolding_all rfl
theorem dk_put {a b c d : D} : putD ([(.inr "cells", a), (.inr "mixed", b), (.inr "draws", c)] : List (Key × D)) (.inr "draws") d = [(.inr "cells", a), (.inr "mixed", b), (.inr "draws", d)] := by with_unfolding_all rfl
structure DeckAt (m : M) (aD aC : Addr) : Prop where
  ex : ∃ (x k : Int) (ns : List Int), m.mu aD = some (.dic (deckD aC x k)) ∧ m.mu aC = some (.lst (ns.map D.int)) ∧ 0 ≤ x ∧ x < 2147483587 ∧ 0 ≤ k ∧ ns.length ≤ 63
structure DeckH (H : Hp) (aD aC : Addr) : Prop where
  ex : ∃ (x k : Int) (ns : List Int), H aD = some (.dK [(.inr "cells", .ref aC), (.inr "mixed", .int x), (.inr "draws", .int k)]) ∧ H aC = some (.lst (ns.map V.int)) ∧ 0 ≤ x ∧ x < 2147483587 ∧ 0 ≤ k ∧ ns.length ≤ 63
theorem ints_rep {K : PySem.W.Frag} {H : Hp} : ∀ {ns : List Int} {vs : List V}, Reps K H (ns.map D.int) vs → vs = ns.map V.int
  | [], _, r => by cases r; rfl
  | n :: ns, _, r => by
    cases r with
    | cons r1 r2 => cases r1; rw [ints_rep r2]; rfl
theorem rep_ints {K : PySem.W.Frag} {H : Hp} : ∀ (ns : List Int), Reps K H (ns.map D.int) (ns.map V.int)
  | [] => .nil
  | n :: ns => .cons (.int n) (rep_ints ns)
theorem DeckAt.h {K : PySem.W.Frag} {H : Hp} {m : M} {aD aC : Addr} (d : DeckAt m aD aC) (r : RelH K H m) : DeckH H aD aC := by
  obtain ⟨x, k, ns, h1, h2, h⟩ := d.ex
  obtain ⟨ys, e1, kv⟩ := r.obj _ _ h1
  obtain ⟨vs, e2, rr⟩ := r.obj _ _ h2
  have := ints_rep rr
  subst this
  refine ⟨x, k, ns, ?_, e2, h⟩
  rw [e1]
  cases kv with
  | cons p1 kv =>
    cases kv with
    | cons p2 kv =>
      cases kv with
      | cons p3 kv =>
        cases kv
        rename_i b1 b2 b3
        obtain ⟨k1, v1⟩ := b1; obtain ⟨k2, v2⟩ := b2; obtain ⟨k3, v3⟩ := b3
        obtain ⟨q1, r1⟩ := p1; obtain ⟨q2, r2⟩ := p2; obtain ⟨q3, r3⟩ := p3
        dsimp only at q1 r1 q2 r2 q3 r3
        subst q1 q2 q3
        cases r1; cases r2; cases r3; rfl
def deckGh (G : Gh) (aD aC : Addr) : Gh where
  inv := fun H => G.inv H ∧ DeckH H aD aC
  own := fun a => G.own a ∨ a = aD ∨ a = aC
  stable := fun H H' ⟨i, d⟩ e => ⟨G.stable H H' i fun a ha => e a (.inl ha), by
    obtain ⟨x, k, ns, h1, h2, h⟩ := d.ex
    exact ⟨x, k, ns, (e aD (.inr (.inl rfl))).trans h1, (e aC (.inr (.inr rfl))).trans h2, h⟩⟩
  there := fun H ⟨i, d⟩ a ha => by
    obtain ⟨x, k, ns, h1, h2, h⟩ := d.ex
    rcases ha with ha | rfl | rfl
    · exact G.there H i a ha
    · rw [h1]; exact fun z => by cases z
    · rw [h2]; exact fun z => by cases z
def hide (m : M) (aD aC : Addr) : M := ⟨fun a => if a = aD ∨ a = aC then none else m.mu a, deckGh m.gh aD aC⟩
theorem hide_mu {m : M} {aD aC a : Addr} (h1 : a ≠ aD) (h2 : a ≠ aC) : (hide m aD aC).mu a = m.mu a := by
  show (if a = aD ∨ a = aC then none else m.mu a) = _
  rw [if_neg fun z => z.elim h1 h2]
theorem RelH.hide {K : PySem.W.Frag} {H : Hp} {m : M} {aD aC : Addr} (r : RelH K H m) (d : DeckAt m aD aC) : RelH K H (PL.hide m aD aC) where
  inv := ⟨r.inv, d.h r⟩
  sep := fun a ha => by
    show (if a = aD ∨ a = aC then none else m.mu a) = none
    by_cases h : a = aD ∨ a = aC
    · rw [if_pos h]
    · rw [if_neg h]
      rcases ha with ha | ha | ha
      · exact r.sep a ha
      · exact (h (.inl ha)).elim
      · exact (h (.inr ha)).elim
  obj := fun a o e => by
    have e : (if a = aD ∨ a = aC then none else m.mu a) = some o := e
    by_cases h : a = aD ∨ a = aC
    · rw [if_pos h] at e; cases e
    · rw [if_neg h] at e; exact r.obj a o e
/-- the deck stands beside the store -/
structure Dk (m : M) (d : D) : Prop where
  ex : ∃ aD aC G, d = .ref aD ∧ m.gh = deckGh G aD aC ∧ ¬ G.own aD ∧ ¬ G.own aC ∧ aD ≠ aC
theorem Dk.ext {m m' : M} {d : D} (h : Dk m d) (e : m'.gh = m.gh) : Dk m' d := by
  obtain ⟨aD, aC, G, h1, h2, h3⟩ := h.ex
  exact ⟨aD, aC, G, h1, e.trans h2, h3⟩
structure Step' (m m' : M) (aD aC : Addr) : Prop where
  gh : m'.gh = m.gh
  old : ∀ a o, a ≠ aD → a ≠ aC → m.mu a = some o → m'.mu a = some o
  deck : DeckAt m' aD aC
/-- a draw, with the deck in the store -/
def spDraw : DSp := fun ds m Q => ∃ aD aC n, ds = [.ref aD, .int n] ∧ 0 < n ∧ n < 1073741824 ∧ aD ≠ aC ∧ DeckAt m aD aC ∧ ∀ r m', 0 ≤ r → r < n → Step' m m' aD aC → Q (.int r) m'
/-- .. beside it -/
def spDrawG : DSp := fun ds m Q => ∃ d n, ds = [d, .int n] ∧ 0 < n ∧ n < 1073741824 ∧ Dk m d ∧ ∀ r, 0 ≤ r → r < n → Q (.int r) m
theorem draw_up {K : PySem.W.Frag} {vs : List V} {H : Hp} {Q : VK} {E : XK} (h : spUp K spDrawG vs H Q E) : spUp K spDraw vs H Q E := by
  obtain ⟨ds, m, Q', r, rh, ⟨d, n, rfl, hn, hn2, hd, q⟩, f⟩ := h
  obtain ⟨aD, aC, G, rfl, hg, g1, g2, hne⟩ := hd.ex
  have hi := rh.inv
  rw [hg] at hi
  obtain ⟨iG, dH⟩ := hi
  obtain ⟨x, k, ns, h1, h2, hx⟩ := dH.ex
  have sD : m.mu aD = none := rh.sep aD (by rw [hg]; exact .inr (.inl rfl))
  have sC : m.mu aC = none := rh.sep aC (by rw [hg]; exact .inr (.inr rfl))
  let m0 : M := ⟨fun a => if a = aD then some (.dic (deckD aC x k)) else if a = aC then some (.lst (ns.map D.int)) else m.mu a, G⟩
  have e1 : m0.mu aD = some (.dic (deckD aC x k)) := if_pos rfl
  have e2 : m0.mu aC = some (.lst (ns.map D.int)) := by show (if aC = aD then _ else if aC = aC then _ else _) = _; rw [if_neg (fun z => hne z.symm), if_pos rfl]
  have e3 : ∀ a, a ≠ aD → a ≠ aC → m0.mu a = m.mu a := fun a z1 z2 => by show (if a = aD then _ else if a = aC then _ else _) = _; rw [if_neg z1, if_neg z2]
  have r0 : RelH K H m0 := by
    refine ⟨iG, fun a ha => ?_, fun a o e => ?_⟩
    · rw [e3 a (fun z => g1 (z ▸ ha)) (fun z => g2 (z ▸ ha))]
      exact rh.sep a (by rw [hg]; exact .inl ha)
    · by_cases z1 : a = aD
      · subst z1; rw [e1] at e; cases e
        exact ⟨_, h1, .cons ⟨rfl, .ref _⟩ (.cons ⟨rfl, .int _⟩ (.cons ⟨rfl, .int _⟩ .nil))⟩
      · by_cases z2 : a = aC
        · subst z2; rw [e2] at e; cases e
          exact ⟨_, h2, rep_ints ns⟩
        · rw [e3 a z1 z2] at e; exact rh.obj a o e
  refine ⟨_, m0, fun d m' => ∃ r, d = .int r ∧ 0 ≤ r ∧ r < n ∧ Step' m0 m' aD aC, r, r0, ⟨aD, aC, n, rfl, hn, hn2, hne, ⟨x, k, ns, e1, e2, hx⟩, fun r m' a b s => ⟨r, rfl, a, b, s⟩⟩, ?_⟩
  rintro d m' ⟨r, rfl, a, b, s⟩ v H' t rv r'
  refine f (.int r) m (q r a b) v H' t rv ⟨?_, rh.sep, fun c o e => ?_⟩
  · rw [hg]
    have := r'.inv
    rw [s.gh] at this
    exact ⟨this, s.deck.h r'⟩
  · have z1 : c ≠ aD := fun z => by subst z; rw [sD] at e; cases e
    have z2 : c ≠ aC := fun z => by subst z; rw [sC] at e; cases e
    exact r'.obj c o (s.old c o z1 z2 (by rw [e3 c z1 z2]; exact e))
theorem DCal.draw {P : Program} {w : World} {K : PySem.W.Frag} {mg : Str → Option Value} {base : Heap} {k : Nat} {x : Str} (c : DCal P w K mg base k x spDraw) : DCal P w K mg base k x spDrawG := by
  obtain ⟨f', fd, ps, F, hm', kp, b⟩ := c.ex
  exact ⟨f', fd, ps, F.imp fun vs H Q E h => draw_up h, hm', kp, b⟩
theorem cutL_map {α β : Type} (f : α → β) (xs : List α) (lo hi : Option Int) : cutL (xs.map f) lo hi = (cutL xs lo hi).map f := by
  unfold cutL; rw [List.length_map, List.map_take, List.map_drop]
theorem cutL_le {α : Type} (xs : List α) (lo hi : Option Int) : (cutL xs lo hi).length ≤ xs.length := by
  unfold cutL; rw [List.length_take, List.length_drop]; omega
theorem emod_lt' {x n : Int} (h : 0 < n) : 0 ≤ x % n ∧ x % n < n := ⟨Int.emod_nonneg _ (by omega), Int.emod_lt_of_pos _ h⟩
theorem rI {C : Int → Int → Prop} {g : Int → Int → Int} {i j : Int} {m : M} {Q : DK} (h : C i j) (q : Q (.int (g i j)) m) : rdI C g (.int i) (.int j) m Q := ⟨h, q⟩
theorem aI {i j : Int} {m : M} {Q : DK} (q : Q (.int (i + j)) m) : rdAdd (.int i) (.int j) m Q := q
theorem aS {a b : Str} {m : M} {Q : DK} (h : (a ++ b).length ≤ 1000) (q : Q (.str (a ++ b)) m) : rdAdd (.str a) (.str b) m Q := ⟨by rw [← len_app]; exact slk h, q⟩
theorem iI {i : Int} {m : M} {Q : DK} (q : Q (.int i) m) : rdInt [.int i] m Q := ⟨i, rfl, q⟩
theorem bI {p : Int → Int → Bool} {i j : Int} {m : M} {Q : DK} (q : Q (.bl (p i j)) m) : rdB p (.int i) (.int j) m Q := q
/-- the rest of a block, told apart -/
theorem seqR1 {a d : DTS} {E : DEnds} {δ : Sl} {m : M} (P : Sl → M → Prop) (h2 : ∀ δ m, P δ m → d E δ m) (h1 : ∀ R : DTS, (∀ δ m, P δ m → R E δ m) → dSeq a R E δ m) : dSeq a d E δ m := h1 d h2
theorem seqR2 {a b d : DTS} {E : DEnds} {δ : Sl} {m : M} (P : Sl → M → Prop) (h2 : ∀ δ m, P δ m → d E δ m) (h1 : ∀ R : DTS, (∀ δ m, P δ m → R E δ m) → dSeq a (dSeq b R) E δ m) : dSeq a (dSeq b d) E δ m := h1 d h2
theorem seqR3 {a b c d : DTS} {E : DEnds} {δ : Sl} {m : M} (P : Sl → M → Prop) (h2 : ∀ δ m, P δ m → d E δ m) (h1 : ∀ R : DTS, (∀ δ m, P δ m → R E δ m) → dSeq a (dSeq b (dSeq c R)) E δ m) : dSeq a (dSeq b (dSeq c d)) E δ m := h1 d h2
theorem iff_T {c : Bool} {A B : Prop} : (c = true → A) → (c = false → B) → if c = true then A else B := fun h1 h2 => by cases c; rw [if_neg Bool.false_ne_true]; exact h2 rfl; rw [if_pos rfl]; exact h1 rfl
end PL

namespace PL
open PySem PySem.Spec PyProof.Rows L2 GA GxR DL
/-! ### names -/
def lowC (c : Nat) : Bool := decide (c ∈ lettersS.cps.toList)
def sgnC (c : Nat) : Bool := decide (c ∈ lettersDS.cps.toList)
theorem nameS_of {s : Str} {c : Nat} {l : List Nat} (h : s.cps.toList = c :: l) (h1 : lowC c = true) (h2 : sgnC c = true) (h3 : ∀ x ∈ l, sgnC x = true) (h4 : l.length ≤ 7) : nameS s = true := by
  have hl : s.length = l.length + 1 := by rw [len_list, h]; rfl
  unfold nameS
  rw [hl, decide_eq_true (show 1 ≤ l.length + 1 by omega), decide_eq_true (show l.length + 1 ≤ 8 by omega), h]
  show (true && true && lowC c && (sgnC c && l.all fun x => sgnC x)) = true
  rw [h1, h2, List.all_eq_true.mpr h3]; rfl
theorem let26 : ∀ n : Fin 26, ((atI lettersDS.cps.toList ((n.val : Nat) : Int)).any fun c => lowC c && sgnC c) = true := by decide +kernel
theorem let36 : ∀ n : Fin 36, ((atI lettersDS.cps.toList ((n.val : Nat) : Int)).any fun c => sgnC c) = true := by decide +kernel
theorem ix26 {r : Int} (h0 : 0 ≤ r) (h1 : r < 26) : ∃ c, atI lettersDS.cps.toList r = some c ∧ lowC c = true ∧ sgnC c = true := by
  have h := let26 ⟨r.toNat, by omega⟩
  have e : ((r.toNat : Nat) : Int) = r := by omega
  dsimp only at h
  rw [e] at h
  cases hc : atI lettersDS.cps.toList r with
  | none => rw [hc] at h; cases h
  | some c =>
    rw [hc] at h
    have h : (lowC c && sgnC c) = true := h
    rw [Bool.and_eq_true] at h
    exact ⟨c, rfl, h⟩
theorem ix36 {r : Int} (h0 : 0 ≤ r) (h1 : r < 36) : ∃ c, atI lettersDS.cps.toList r = some c ∧ sgnC c = true := by
  have h := let36 ⟨r.toNat, by omega⟩
  have e : ((r.toNat : Nat) : Int) = r := by omega
  dsimp only at h
  rw [e] at h
  cases hc : atI lettersDS.cps.toList r with
  | none => rw [hc] at h; cases h
  | some c => rw [hc] at h; exact ⟨c, rfl, h⟩
theorem nameS_1 {c : Nat} (h1 : lowC c = true) (h2 : sgnC c = true) : nameS ⟨#[c]⟩ = true := nameS_of (l := []) rfl h1 h2 (by simp) (by simp)
/-- the words -/
def wordsL : List Str := ["plain", "points", "crossing", "over", "stretch", "join", "gate", "signal", "left", "right"]
theorem words_ok : ∀ s ∈ wordsL, nameS s = true := by
  have h : wordsL.all nameS = true := by decide +kernel
  exact List.all_eq_true.mp h
theorem l_letters : lettersDS.length = 36 := by decide +kernel
abbrev mainS : Str := "mainline"
theorem l_main : mainS.length = 8 := by decide +kernel
/-- mainline with one sign put otherwise -/
theorem main_cut {at' : Int} {c : Nat} (h0 : 0 < at') (h8 : at' < 8) (hc : sgnC c = true) : nameS ((cutS mainS none (some at') ++ ⟨#[c]⟩) ++ cutS mainS (some (at' + 1)) none) = true := by
  have e : at' = 1 ∨ at' = 2 ∨ at' = 3 ∨ at' = 4 ∨ at' = 5 ∨ at' = 6 ∨ at' = 7 := by omega
  have k1 : sgnC 109 = true := by decide +kernel
  have k2 : sgnC 97 = true := by decide +kernel
  have k3 : sgnC 105 = true := by decide +kernel
  have k4 : sgnC 110 = true := by decide +kernel
  have k5 : sgnC 108 = true := by decide +kernel
  have k6 : sgnC 101 = true := by decide +kernel
  have k0 : lowC 109 = true := by decide +kernel
  rcases e with rfl | rfl | rfl | rfl | rfl | rfl | rfl
  · refine nameS_of (c := 109) (l := [c, 105, 110, 108, 105, 110, 101]) (by rw [app_list, app_list]; with_unfolding_all rfl) k0 k1 (by simp [hc, k2, k3, k4, k5, k6]) (Nat.le_refl 7)
  · refine nameS_of (c := 109) (l := [97, c, 110, 108, 105, 110, 101]) (by rw [app_list, app_list]; with_unfolding_all rfl) k0 k1 (by simp [hc, k2, k3, k4, k5, k6]) (Nat.le_refl 7)
  · refine nameS_of (c := 109) (l := [97, 105, c, 108, 105, 110, 101]) (by rw [app_list, app_list]; with_unfolding_all rfl) k0 k1 (by simp [hc, k2, k3, k4, k5, k6]) (Nat.le_refl 7)
  · refine nameS_of (c := 109) (l := [97, 105, 110, c, 105, 110, 101]) (by rw [app_list, app_list]; with_unfolding_all rfl) k0 k1 (by simp [hc, k2, k3, k4, k5, k6]) (Nat.le_refl 7)
  · refine nameS_of (c := 109) (l := [97, 105, 110, 108, c, 110, 101]) (by rw [app_list, app_list]; with_unfolding_all rfl) k0 k1 (by simp [hc, k2, k3, k4, k5, k6]) (Nat.le_refl 7)
  · refine nameS_of (c := 109) (l := [97, 105, 110, 108, 105, c, 101]) (by rw [app_list, app_list]; with_unfolding_all rfl) k0 k1 (by simp [hc, k2, k3, k4, k5, k6]) (Nat.le_refl 7)
  · refine nameS_of (c := 109) (l := [97, 105, 110, 108, 105, 110, c]) (by rw [app_list, app_list]; with_unfolding_all rfl) k0 k1 (by simp [hc, k2, k3, k4, k5, k6]) (Nat.le_refl 7)
theorem main_cut0 {c : Nat} (h1 : lowC c = true) (h2 : sgnC c = true) : nameS (⟨#[c]⟩ ++ cutS mainS (some (0 + 1)) none) = true := by
  have k2 : sgnC 97 = true := by decide +kernel
  have k3 : sgnC 105 = true := by decide +kernel
  have k4 : sgnC 110 = true := by decide +kernel
  have k5 : sgnC 108 = true := by decide +kernel
  have k6 : sgnC 101 = true := by decide +kernel
  exact nameS_of (c := c) (l := [97, 105, 110, 108, 105, 110, 101]) (by rw [app_list]; with_unfolding_all rfl) h1 h2 (by simp [k2, k3, k4, k5, k6]) (Nat.le_refl 7)
/-- a join of nothing between -/
theorem join_list : ∀ ss : List Str, (Txt.join Str.empty ss).cps.toList = (ss.map fun s => s.cps.toList).flatten := by
  intro ss
  have key : ∀ (l : List Str) (acc : Array Nat), (l.foldl (fun acc p => acc ++ Str.empty.cps ++ p.cps) acc).toList = acc.toList ++ (l.map fun s => s.cps.toList).flatten := by
    intro l
    induction l with
    | nil => intro acc; simp
    | cons a l ih =>
      intro acc
      rw [List.foldl_cons, ih]
      have e : Str.empty.cps = #[] := rfl
      rw [e]; simp
  show (((ss.drop 1).foldl (fun acc p => acc ++ Str.empty.cps ++ p.cps) (ss.headD Str.empty).cps)).toList = _
  rw [key]
  cases ss with
  | nil => rfl
  | cons a l => simp
/-- the spare names -/
def spareS (i : Nat) : Str := ("x" : Str) ++ numT (i : Int)
theorem spare_ok : ∀ i : Fin 60, nameS (spareS i.val) = true := by decide +kernel
theorem spare_inj : ∀ i j : Fin 60, spareS i.val = spareS j.val → i = j := by decide +kernel
end PL
namespace PL
open PySem PySem.Spec PyProof.Rows L2 GA GxR DL
structure Chg (u : Addr) (m m' : M) : Prop where
  gh : m'.gh = m.gh
  old : ∀ a o, a ≠ u → m.mu a = some o → m'.mu a = some o
theorem Ext.chg {m m' : M} (h : Ext m m') (u : Addr) : Chg u m m' := ⟨h.gh, fun a o _ e => h.old a o e⟩
theorem Chg.ext {m m' m'' : M} {u : Addr} (h : Chg u m m') (e : Ext m' m'') : Chg u m m'' := ⟨e.gh.trans h.gh, fun a o n z => e.old a o (h.old a o n z)⟩
theorem Ext.trans_chg {m m' m'' : M} {u : Addr} (e : Ext m m') (h : Chg u m' m'') : Chg u m m'' := ⟨h.gh.trans e.gh, fun a o n z => h.old a o n (e.old a o z)⟩
theorem Chg.set {m m' : M} {u : Addr} {o : DO} (h : Chg u m m') : Chg u m (m'.set u o) := ⟨h.gh, fun a x n z => by rw [M.set_ne n]; exact h.old a x n z⟩
def spPick : DSp := fun ds m Q => ∃ d s ds', ds = [d, s] ∧ Dk m d ∧ SeqD m s ds' ∧ ds' ≠ [] ∧ ds'.length < 1073741824 ∧ ∀ y ∈ ds', Q y m
def spName : DSp := fun ds m Q => ∃ d u us, ds = [d, .ref u] ∧ Dk m d ∧ m.mu u = some (.lst (us.map D.str)) ∧ us.length < 60 ∧ ∀ s m', nameS s = true → s ∉ us → Chg u m m' → m'.mu u = some (.lst ((us ++ [s]).map D.str)) → Q (.str s) m'
theorem _root_.DL.SeqD.len {m : M} {s : D} {ds : List D} (h : SeqD m s ds) : lenD m s ds.length := by
  rcases h with rfl | rfl | ⟨a, rfl, h⟩
  · rfl
  · rfl
  · exact ⟨ds, h, rfl⟩
theorem _root_.DL.SeqD.ix {m : M} {s : D} {ds : List D} {i : Int} {d : D} {Q : DK} (h : SeqD m s ds) (hi : atI ds i = some d) (q : Q d m) : rdIx s (.int i) m Q := by
  rcases h with rfl | rfl | ⟨a, rfl, h⟩
  · exact ⟨d, hi, q⟩
  · exact ⟨d, hi, q⟩
  · exact ⟨ds, d, h, hi, q⟩
theorem atI_mem {α : Type} {xs : List α} {i : Int} (h0 : 0 ≤ i) (h1 : i < xs.length) : ∃ d, atI xs i = some d ∧ d ∈ xs := by
  have h2 : i.toNat < xs.length := by omega
  refine ⟨xs[i.toNat], ?_, List.getElem_mem h2⟩
  unfold atI ixN
  rw [if_pos h0, if_pos h1]
  simp [h2]
theorem strIx {z : Str} {i : Int} {c : Nat} {m : M} {Q : DK} (hz : z.length ≤ 1000) (h : atI z.cps.toList i = some c) (q : Q (.str ⟨#[c]⟩) m) : rdIx (.str z) (.int i) m Q := ⟨c, slk hz, h, q⟩
theorem any_str {s : Str} : ∀ {us : List Str}, ((us.map D.str).any fun d => eqFl d (.str s)) = decide (s ∈ us)
  | [] => by simp
  | u :: us => by
    rw [List.map_cons, List.any_cons, any_str, eqFl_str]
    by_cases h : u = s
    · subst h; simp
    · have : (u == s) = false := by simpa using h
      rw [this, Bool.false_or]
      by_cases h2 : s ∈ us
      · simp [h2]
      · have : s ≠ u := fun z => h z.symm
        simp [h2, this]
theorem flat_strs : ∀ us : List Str, (us.map D.str).all flatD = true
  | [] => rfl
  | u :: us => by rw [List.map_cons, List.all_cons, flat_strs us]; rfl
theorem inL {neg : Bool} {s : Str} {y : D} {us : List Str} {m : M} {Q : DK} (hs : SeqD m y (us.map D.str)) (q : Q (.bl (if neg then !decide (s ∈ us) else decide (s ∈ us))) m) : rdIn neg (.str s) y m Q := ⟨_, hs, rfl, flat_strs us, by rw [any_str]; exact q⟩
theorem nodup_le {α : Type} [DecidableEq α] : ∀ {l us : List α}, l.Nodup → (∀ x ∈ l, x ∈ us) → l.length ≤ us.length
  | [], _, _, _ => Nat.zero_le _
  | x :: l, us, nd, h => by
    have h1 := h x List.mem_cons_self
    rw [List.nodup_cons] at nd
    have h2 := nodup_le (us := us.erase x) nd.2 fun y hy => (List.mem_erase_of_ne (show y ≠ x from fun z => nd.1 (by rw [← z]; exact hy))).mpr (h y (List.mem_cons_of_mem _ hy))
    rw [List.length_erase_of_mem h1] at h2
    have h3 : 0 < us.length := List.length_pos_of_mem h1
    rw [List.length_cons]; omega
theorem spares_nd : ((List.range 60).map spareS).Nodup := by decide +kernel
/-- some spare name is not in use -/
theorem spare_free {us : List Str} (h : us.length < 60) : ∃ i : Nat, i < 60 ∧ spareS i ∉ us := by
  by_cases hn : ∃ i : Nat, i < 60 ∧ spareS i ∉ us
  · exact hn
  · have := nodup_le spares_nd (us := us) fun x hx => by
      obtain ⟨i, hi, rfl⟩ := List.mem_map.mp hx
      by_cases z : spareS i ∈ us
      · exact z
      · exact (hn ⟨i, List.mem_range.mp hi, z⟩).elim
    rw [List.length_map, List.length_range] at this
    omega
theorem Outs.ne {Rel : D → Option D → Prop} {xs ys : List D} {d : D} (h : Outs Rel xs ys) (hd : d ∈ xs) (hk : ¬ Rel d none) : ys ≠ [] := by
  induction h with
  | nil => cases hd
  | keep h t ih => exact fun z => by cases z
  | skip h t ih =>
    rcases List.mem_cons.mp hd with rfl | hd
    · exact (hk h).elim
    · exact ih hd
theorem num60 (i : Nat) (h : i < 60) : ((i : Int)).natAbs.log2 < 1920 := by
  rw [Int.natAbs_natCast]
  by_cases h0 : i = 0
  · subst h0; decide
  · have := (Nat.log2_lt h0 (k := 6)).mpr (by omega)
    omega
theorem spare_len (i : Nat) (h : i < 60) : (spareS i).length ≤ 8 := (nameS_len (spare_ok ⟨i, h⟩)).2
theorem strI {i : Int} {m : M} {Q : DK} (h : i.natAbs.log2 < 1920) (q : Q (.str (numT i)) m) : rdStr [.int i] m Q := ⟨i, rfl, h, q⟩
theorem spare_fun : ∀ a b : Nat, (fun i : Nat => D.int (i : Int)) a = (fun i : Nat => D.int (i : Int)) b → (fun i : Nat => D.str (spareS i)) a = (fun i : Nat => D.str (spareS i)) b := by
  intro a b e
  dsimp only at e ⊢
  injection e with e
  have : a = b := by omega
  rw [this]
theorem slS {z : Str} {lo hi : Option Int} {m : M} {Q : DK} (hz : z.length ≤ 1000) (q : Q (.str (cutS z lo hi)) m) : rdSl (.str z) lo hi m Q := ⟨slk hz, q⟩
/-- a walk over known things -/
def cw (xs : List D) (m : M) : DTI := fun _ m0 R => R xs (fun m' => Ext m m') m0
theorem cw_w {xs : List D} {m : M} {δ : Sl} : WkS m xs (cw xs m) δ := fun R hR => hR _ m (Ext.refl m) fun _ h => h
theorem dLC_draw {te te2 : DTr} {g : Tg} {tt : DTT} {ow : List Nat} {δ : Sl} {m : M} {Q : DK} {n : Int} (hn : n < 2 ^ 62) (hT : ∀ R : DK, (∀ r : Int, 0 ≤ r → r < n → R (.int r) m) → te δ m R)
    (h : ∀ r : Nat, (r : Int) < n → dLC (cw (rangeD r) m) g tt te2 ow δ m Q) : dLC (iR1 te) g tt te2 ow δ m Q := by
  refine hT _ fun r h0 h1 => ⟨r, rfl, by omega, by omega, fun p hp => ?_⟩
  have e : ((r.toNat : Nat) : Int) = r := by omega
  obtain ⟨P, p0, p1, p2, p3⟩ := h r.toNat (by omega) p hp
  exact ⟨P, p0, fun _ _ _ => trivial, p2, p3⟩
theorem Outs.exL {α : Type} {h : α → D} {P : α → Prop} : ∀ {xs ys : List D}, Outs (fun _ o => ∃ a, P a ∧ o = some (h a)) xs ys → ∃ l : List α, ys = l.map h ∧ (∀ a ∈ l, P a) ∧ l.length = xs.length := by
  intro xs ys o
  induction o with
  | nil => exact ⟨[], rfl, by simp, rfl⟩
  | keep r t ih =>
    obtain ⟨a, pa, e⟩ := r
    obtain ⟨l, e1, e2, e3⟩ := ih
    cases e
    exact ⟨a :: l, by rw [e1]; rfl, fun b hb => by
      rcases List.mem_cons.mp hb with rfl | hb
      · exact pa
      · exact e2 b hb, by rw [List.length_cons, e3]; rfl⟩
  | skip r t ih => obtain ⟨a, _, e⟩ := r; cases e
theorem join_signs {c : Nat} {cs : List Nat} : (⟨#[c]⟩ ++ Txt.join "" (cs.map fun c => ⟨#[c]⟩) : Str).cps.toList = c :: cs := by
  have e : Txt.join "" (cs.map fun c => (⟨#[c]⟩ : Str)) = Txt.join Str.empty (cs.map fun c => (⟨#[c]⟩ : Str)) := rfl
  rw [e, app_list, join_list]
  have e2 : ∀ cs : List Nat, ((cs.map fun c => (⟨#[c]⟩ : Str)).map fun s => s.cps.toList).flatten = cs := by
    intro cs
    induction cs with
    | nil => rfl
    | cons c cs ih => rw [List.map_cons, List.map_cons, List.flatten_cons, ih]; rfl
  rw [e2]; rfl
end PL

namespace PL
open PySem PySem.Spec PyProof.Rows L2 GA GxR DL TM
/-! ### the fault of a plan, as a function -/
def endK (e : End) : List Key := [Sum.inr e.1, Sum.inl e.2]
theorem endK_d (e : End) : D.tup ((endK e).map kD) = endD e := rfl
theorem endK_inj {a b : End} (h : endK a = endK b) : a = b := by
  obtain ⟨a1, a2⟩ := a; obtain ⟨b1, b2⟩ := b
  unfold endK at h
  injection h with h1 h2
  injection h2 with h3 _
  injection h1 with h1; injection h3 with h3
  dsimp only at h1 h3
  rw [h1, h3]
theorem key_str_inj {a b : Str} (h : (Sum.inr a : Key) = Sum.inr b) : a = b := by injection h
def dupGo : List Str → List Str → Option Str
  | _, [] => none
  | seen, x :: xs => if x ∈ seen then some x else dupGo (x :: seen) xs
def Pln.nms (p : Pln) : List Str := p.st.map (·.1) ++ p.ga.map (·.1) ++ p.si.map (·.1)
def kindAt (st : List (Str × Str)) (n : Str) : Option Str := st.foldl (fun acc x => if x.1 = n then some x.2 else acc) none
def partAt (jo : List (End × End)) (e : End) : Option End := jo.foldl (fun acc j => if j.2 = e then some j.1 else if j.1 = e then some j.2 else acc) none
def nEnds (k : Str) : Int := if k = "plain" then 2 else if k = "points" then 3 else 4
def endEx (st : List (Str × Str)) (e : End) : Bool := match kindAt st e.1 with
  | some k => decide (e.2 < nEnds k)
  | none => false
def Pln.gs (p : Pln) : List (Str × End) := p.ga ++ p.si.map fun s => (s.1, s.2.1)
def missEnd (p : Pln) : Option Str := ((p.jo.find? fun j => !endEx p.st j.1 || !endEx p.st j.2).map fun j => j.1.1).or ((p.gs.find? fun g => !endEx p.st g.2).map (·.1))
def wjGo : List End → List (End × End) → Option Str
  | _, [] => none
  | seen, j :: js => if j.1.1 = j.2.1 ∨ j.1 ∈ seen ∨ j.2 ∈ seen then some j.1.1 else wjGo (j.2 :: j.1 :: seen) js
def wpGo (st : List (Str × Str)) (jo : List (End × End)) (at' : Bool) : List End → List (Str × End) → Option Str
  | _, [] => none
  | seen, g :: l => if (partAt jo g.2).isSome ≠ at' ∨ g.2 ∈ seen ∨ kindAt st g.2.1 ≠ some ("plain" : Str) then some g.1 else wpGo st jo at' (g.2 :: seen) l
def waysK (k : Str) : List (Int × Int) := if k = "plain" then [(0, 1), (1, 0)] else if k = "points" then [(0, 1), (1, 0), (0, 2), (2, 0)] else [(0, 1), (1, 0), (2, 3), (3, 2)]
def fitsOv (st : List (Str × Str)) (beg : Option End) (t : Step) : Bool := decide (beg = some (t.1, t.2.1)) && (match kindAt st t.1 with
  | some k => (decide (k = "plain") || decide (k = "crossing")) && decide ((t.2.1, t.2.2) ∈ waysK k)
  | none => false)
def badOv (p : Pln) (s : Str × End × Option Step) : Bool := match s.2.2 with
  | none => false
  | some t => !fitsOv p.st (partAt p.jo s.2.1) t
def wrongOv (p : Pln) : Option Str := (p.si.find? (badOv p)).map (·.1)
def firstTag : List (Str × Option Str) → Option (Str × Str)
  | [] => none
  | (_, none) :: r => firstTag r
  | (w, some n) :: _ => some (w, n)
def Pln.gs2 (p : Pln) : List (Str × End) := p.si.map fun s => (s.1, s.2.1)
def faultP (p : Pln) : Option (Str × Str) := firstTag [("name", dupGo [] p.nms), ("end", missEnd p), ("joint", wjGo [] p.jo), ("gate", wpGo p.st p.jo false [] p.ga), ("signal", wpGo p.st p.jo true [] p.gs2), ("overlap", wrongOv p)]
/-! ### the dicts -/
def kindsKV (st : List (Str × Str)) : List (Key × D) := st.foldl (fun acc x => putD acc (.inr x.1) (.str x.2)) []
def partKV (jo : List (End × End)) : List (List Key × D) := jo.foldl (fun acc j => putD (putD acc (endK j.1) (endD j.2)) (endK j.2) (endD j.1)) []
theorem valD_put {κ : Type} [DecidableEq κ] {k j : κ} {v : D} : ∀ {kvs : List (κ × D)}, valD (putD kvs k v) j = if k = j then some v else valD kvs j := by
  intro kvs
  unfold putD
  by_cases ha : (kvs.any fun kv => decide (kv.1 = k)) = true
  · rw [if_pos ha]
    induction kvs with
    | nil => simp at ha
    | cons x l ih =>
      unfold valD at *
      rw [List.map_cons, List.find?_cons, List.find?_cons]
      by_cases hx : x.1 = k
      · rw [if_pos hx]
        by_cases hj : k = j
        · subst hj; simp [hx]
        · have h1 : decide (x.1 = j) = false := decide_eq_false (by rw [hx]; exact hj)
          dsimp only
          rw [h1, if_neg hj]
          dsimp only
          by_cases hl : (l.any fun kv => decide (kv.1 = k)) = true
          · rw [ih hl, if_neg hj]
          · have e : l.map (fun kv => if kv.1 = k then (kv.1, v) else kv) = l := by
              have : ∀ y ∈ l, (fun kv : κ × D => if kv.1 = k then (kv.1, v) else kv) y = y := fun y hy => by
                have : ¬ y.1 = k := fun z => hl (List.any_eq_true.mpr ⟨y, hy, decide_eq_true z⟩)
                simp [this]
              exact (List.map_congr_left this).trans (List.map_id l)
            rw [e]
      · rw [if_neg hx]
        have hl : (l.any fun kv => decide (kv.1 = k)) = true := by
          rw [List.any_cons, decide_eq_false hx, Bool.false_or] at ha; exact ha
        by_cases hj : x.1 = j
        · have h2 : ¬ k = j := fun z => hx (hj.trans z.symm)
          simp [hj, h2]
        · rw [decide_eq_false hj]
          exact ih hl
  · rw [if_neg ha]
    unfold valD
    rw [List.find?_append]
    by_cases hj : k = j
    · subst hj
      have : kvs.find? (fun kv => decide (kv.1 = k)) = none := by
        rw [List.find?_eq_none]
        intro x hx z
        exact ha (List.any_eq_true.mpr ⟨x, hx, z⟩)
      rw [this, if_pos rfl]; simp
    · rw [if_neg hj]
      have : ([(k, v)] : List (κ × D)).find? (fun kv => decide (kv.1 = j)) = none := by simp [hj]
      rw [this, Option.or_none]
theorem putD_len {κ : Type} [DecidableEq κ] {k : κ} {v : D} {kvs : List (κ × D)} : (putD kvs k v).length ≤ kvs.length + 1 := by
  unfold putD
  split
  · rw [List.length_map]; omega
  · rw [List.length_append]; exact Nat.le_refl _
theorem kinds_val (st : List (Str × Str)) (n : Str) : valD (kindsKV st) (.inr n) = (kindAt st n).map D.str := by
  have key : ∀ (l : List (Str × Str)) (acc : List (Key × D)) (o : Option Str), valD acc (.inr n) = o.map D.str → valD (l.foldl (fun acc x => putD acc (.inr x.1) (.str x.2)) acc) (.inr n) = (l.foldl (fun acc x => if x.1 = n then some x.2 else acc) o).map D.str := by
    intro l
    induction l with
    | nil => exact fun _ _ h => h
    | cons x l ih =>
      intro acc o h
      rw [List.foldl_cons, List.foldl_cons]
      refine ih _ _ ?_
      rw [valD_put]
      by_cases e : x.1 = n
      · rw [if_pos (by rw [e]), if_pos e]; rfl
      · rw [if_neg fun z => e (key_str_inj z), if_neg e]; exact h
  exact key st [] none rfl
theorem part_val (jo : List (End × End)) (e : End) : valD (partKV jo) (endK e) = (partAt jo e).map endD := by
  have key : ∀ (l : List (End × End)) (acc : List (List Key × D)) (o : Option End), valD acc (endK e) = o.map endD → valD (l.foldl (fun acc j => putD (putD acc (endK j.1) (endD j.2)) (endK j.2) (endD j.1)) acc) (endK e) = (l.foldl (fun acc j => if j.2 = e then some j.1 else if j.1 = e then some j.2 else acc) o).map endD := by
    intro l
    induction l with
    | nil => exact fun _ _ h => h
    | cons x l ih =>
      intro acc o h
      rw [List.foldl_cons, List.foldl_cons]
      refine ih _ _ ?_
      rw [valD_put, valD_put]
      by_cases e2 : x.2 = e
      · rw [if_pos (by rw [e2]), if_pos e2]; rfl
      · rw [if_neg fun z => e2 (endK_inj z), if_neg e2]
        by_cases e1 : x.1 = e
        · rw [if_pos (by rw [e1]), if_pos e1]; rfl
        · rw [if_neg fun z => e1 (endK_inj z), if_neg e1]; exact h
  exact key jo [] none rfl
theorem kindsKV_snoc (st : List (Str × Str)) (x : Str × Str) : kindsKV (st ++ [x]) = putD (kindsKV st) (.inr x.1) (.str x.2) := by unfold kindsKV; rw [List.foldl_append]; rfl
theorem partKV_snoc (jo : List (End × End)) (j : End × End) : partKV (jo ++ [j]) = putD (putD (partKV jo) (endK j.1) (endD j.2)) (endK j.2) (endD j.1) := by unfold partKV; rw [List.foldl_append]; rfl
theorem kindsKV_len (st : List (Str × Str)) : (kindsKV st).length ≤ st.length := by
  have key : ∀ (l : List (Str × Str)) (acc : List (Key × D)), (l.foldl (fun acc x => putD acc (.inr x.1) (.str x.2)) acc).length ≤ acc.length + l.length := by
    intro l
    induction l with
    | nil => exact fun _ => Nat.le_refl _
    | cons x l ih =>
      intro acc
      have h1 := ih (putD acc (.inr x.1) (.str x.2))
      have h2 := putD_len (k := (Sum.inr x.1 : Key)) (v := .str x.2) (kvs := acc)
      rw [List.foldl_cons, List.length_cons]; omega
  have := key st []
  simpa [kindsKV] using this
theorem partKV_len (jo : List (End × End)) : (partKV jo).length ≤ 2 * jo.length := by
  have key : ∀ (l : List (End × End)) (acc : List (List Key × D)), (l.foldl (fun acc j => putD (putD acc (endK j.1) (endD j.2)) (endK j.2) (endD j.1)) acc).length ≤ acc.length + 2 * l.length := by
    intro l
    induction l with
    | nil => exact fun _ => Nat.le_refl _
    | cons x l ih =>
      intro acc
      have h1 := ih (putD (putD acc (endK x.1) (endD x.2)) (endK x.2) (endD x.1))
      have h2 := putD_len (k := endK x.1) (v := endD x.2) (kvs := acc)
      have h3 := putD_len (k := endK x.2) (v := endD x.1) (kvs := putD acc (endK x.1) (endD x.2))
      rw [List.foldl_cons, List.length_cons]; omega
  have := key jo []
  simpa [partKV] using this
theorem kindAt_ok {st : List (Str × Str)} {n k : Str} (h : kindAt st n = some k) : (n, k) ∈ st := by
  have key : ∀ (l : List (Str × Str)) (o : Option Str), l.foldl (fun acc x => if x.1 = n then some x.2 else acc) o = some k → o = some k ∨ (n, k) ∈ l := by
    intro l
    induction l with
    | nil => exact fun _ h => .inl h
    | cons x l ih =>
      intro o h
      rw [List.foldl_cons] at h
      rcases ih _ h with z | z
      · by_cases e : x.1 = n
        · rw [if_pos e] at z
          refine .inr ?_
          have : x = (n, k) := by cases x; simp only at e z; rw [e]; cases z; rfl
          rw [this]; exact List.mem_cons_self
        · rw [if_neg e] at z; exact .inl z
      · exact .inr (List.mem_cons_of_mem _ z)
  rcases key st none h with z | z
  · cases z
  · exact z
/-! ### what a call finds -/
def optS : Option Str → D
  | none => .non
  | some s => .str s
def optE : Option End → D
  | none => .non
  | some e => endD e
def optF : Option (Str × Str) → D
  | none => .non
  | some f => .tup [.str f.1, .str f.2]
/-- asked of a plan, answered with data -/
def spPl (f : Pln → D) : DSp := fun ds m Q => ∃ p : Pln, ds = [p.d] ∧ p.Ok ∧ ∀ m', Ext m m' → Q (f p) m'
end PL

namespace PL
open PySem PySem.Spec PyProof.Rows L2 GA GxR DL
def spLines : DSp := fun ds m Q => ∃ p : Pln, ds = [p.d] ∧ p.Ok ∧ ∀ a m', Ext m m' → m'.mu a = some (.lst (p.lines.map D.str)) → Q (.ref a) m'
def spShuf : DSp := fun ds m Q => ∃ d xs, ds = [d, .tup xs] ∧ Dk m d ∧ xs.length ≤ 1000 ∧ ∀ ys m', (∀ y ∈ ys, y ∈ xs) → ys.length = xs.length → Ext m m' → Q (.tup ys) m'
def spText (Ok : M → Prop) : DSp := fun ds m Q => ∃ p : Pln, ds = [p.d] ∧ p.Ok ∧ Ok m ∧ ∀ m', Ext m m' → Q (.str (Txt.join "\n" p.lines)) m'
def spWrit (Ok : M → Prop) : DSp := fun ds m Q => ∃ p : Pln, ds = [p.d] ∧ p.Ok ∧ Ok m ∧ ∀ m', Ext m m' → Q (.bl true) m'
def spFree : DSp := fun ds m Q => ∃ d, ds = [d] ∧ Dk m d ∧ ∀ (p : Pln) m', p.Ok → Ext m m' → Q p.d m'
theorem endD_ix0 {e : End} {m : M} {Q : DK} (q : Q (.str e.1) m) : rdIx (endD e) (.int 0) m Q := ⟨_, rfl, q⟩
theorem endD_ix1 {e : End} {m : M} {Q : DK} (q : Q (.int e.2) m) : rdIx (endD e) (.int 1) m Q := ⟨_, rfl, q⟩
theorem addL {l k : Addr} {xs ys : List D} {m : M} {Q : DK} (h1 : m.mu l = some (.lst xs)) (h2 : m.mu k = some (.lst ys)) (hz : xs.length + ys.length ≤ 1000) (q : ∀ p, m.mu p = none → Q (.ref p) (m.set p (.lst (xs ++ ys)))) : rdAdd (.ref l) (.ref k) m Q := ⟨xs, ys, h1, h2, slk hz, q⟩
theorem name_sok {s : Str} (h : nameS s = true) : PyData.strOk s = true := by
  unfold nameS at h
  simp only [Bool.and_eq_true] at h
  have h4 := h.2
  unfold PyData.strOk
  rw [Array.all_eq_true']
  intro c hc
  have h5 := List.all_eq_true.mp h4 c (by simpa using hc)
  have h6 : c ∈ lettersDS.cps.toList := by simpa using h5
  have h7 : lettersDS.cps.toList.all (fun c => decide (c < 0x110000)) = true := by decide +kernel
  exact List.all_eq_true.mp h7 c h6
theorem Fine.tup {ds : List D} (h : ∀ d ∈ ds, Fine d) (h2 : ∀ d ∈ ds, d.dep ≤ 50) : Fine (.tup ds) := ⟨pures_of fun d hd => (h d hd).pure, by show D.deps ds + 1 ≤ 60; have := deps_le h2; omega, lay_pys fun d hd => (h d hd).lay⟩
theorem end_fine {e : End} (h : endOk e) : Fine (endD e) := Fine.tup (fun d hd => by
  simp only [List.mem_cons, List.not_mem_nil, or_false] at hd
  rcases hd with rfl | rfl
  · exact Fine.str (name_sok h.1)
  · exact Fine.int _) (fun d hd => by
  simp only [List.mem_cons, List.not_mem_nil, or_false] at hd
  rcases hd with rfl | rfl <;> exact Nat.zero_le _)
theorem step_fine {e : Step} (h : stepOk e) : Fine (stepD e) := Fine.tup (fun d hd => by
  simp only [List.mem_cons, List.not_mem_nil, or_false] at hd
  rcases hd with rfl | rfl | rfl
  · exact Fine.str (name_sok h.1)
  · exact Fine.int _
  · exact Fine.int _) (fun d hd => by
  simp only [List.mem_cons, List.not_mem_nil, or_false] at hd
  rcases hd with rfl | rfl | rfl <;> exact Nat.zero_le _)
/-- overlap == () -/
theorem ov_eq {o : Option Step} {m : M} {Q : DK} (h : ∀ t, o = some t → stepOk t) (q : Q (.bl o.isNone) m) : rdEq false (ovD o) (.tup []) m Q := by
  have f0 : Fine (.tup []) := Fine.tup (fun d hd => by cases hd) (fun d hd => by cases hd)
  cases o with
  | none => exact ⟨_, _, .d f0.pure, .d f0.pure, shaped_d f0, shaped_d f0, q⟩
  | some t =>
    have f1 : Fine (.tup [stepD t]) := Fine.tup (fun d hd => by
      simp only [List.mem_cons, List.not_mem_nil, or_false] at hd; subst hd; exact step_fine (h t rfl)) (fun d hd => by
      simp only [List.mem_cons, List.not_mem_nil, or_false] at hd; subst hd; exact Nat.le_trans (Nat.le_refl 1) (by decide))
    exact ⟨_, _, .d f1.pure, .d f0.pure, shaped_d f1, shaped_d f0, q⟩
theorem isiS {te : DTr} {δ : Sl} {m : M} {Q : DK} {s : Str} (h : ∀ R : DK, R (.str s) m → te δ m R) (q : Q (.bl true) m) : dIsi "str" te δ m Q := h _ ⟨_, _, rfl, kit_ss, q⟩
theorem popL {l : Addr} {ls : List D} {r : Int} {m : M} {Q : DK} (h : m.mu l = some (.lst ls)) (h0 : 0 ≤ r) (h1 : r < ls.length) (hz : ls.length ≤ 1000) (q : ∀ y, y ∈ ls → ls[r.toNat]? = some y → Q y (m.set l (.lst (ls.eraseIdx r.toNat)))) : rdPopAt (.ref l) [.int r] m Q := by
  have h2 : r.toNat < ls.length := by omega
  refine ⟨l, ls, r, r.toNat, ls[r.toNat], rfl, rfl, h, by omega, by omega, ?_, by simp [h2], q _ (List.getElem_mem h2) (by simp [h2])⟩
  refine (L2.ixN_seq (n := ls.length) (i := r) (j := r.toNat) ?_).1
  unfold L2.ixN
  rw [if_pos h0, if_pos h1]
theorem app_emp (a : Str) : a ++ ("" : Str) = a := str_ext (by rw [app_list]; show a.cps.toList ++ [] = _; simp)
theorem take_map_snoc {α β : Type} {l : List α} {i : Nat} {a : α} (f : α → β) (h : l[i]? = some a) : (l.take (i + 1)).map f = (l.take i).map f ++ [f a] := by rw [take_snoc h, List.map_append]; rfl
theorem map_get {α : Type} {f : α → D} {l : List α} {i : Nat} {d : D} (h : (l.map f)[i]? = some d) : ∃ a, l[i]? = some a ∧ d = f a := by
  rw [List.getElem?_map] at h
  cases e : l[i]? with
  | none => rw [e] at h; cases h
  | some a => rw [e] at h; cases h; exact ⟨a, rfl, rfl⟩
end PL

namespace PL
open PySem PySem.Spec PyProof.Rows L2 GA GxR DL
theorem listOf {α : Type} {f : α → D} {P : α → Prop} : ∀ {ys : List D}, (∀ y ∈ ys, ∃ a, y = f a ∧ P a) → ∃ l : List α, ys = l.map f ∧ ∀ a ∈ l, P a
  | [], _ => ⟨[], rfl, by simp⟩
  | y :: ys, h => by
    obtain ⟨a, rfl, pa⟩ := h y List.mem_cons_self
    obtain ⟨l, rfl, pl⟩ := listOf fun z hz => h z (List.mem_cons_of_mem _ hz)
    exact ⟨a :: l, rfl, fun b hb => by
      rcases List.mem_cons.mp hb with rfl | hb
      · exact pa
      · exact pl b hb⟩
theorem pk {α : Type} {f : α → D} {l : List α} {d : D} {a : Addr} {m : M} {Q : DK} (hd : Dk m d) (h : m.mu a = some (.lst (l.map f))) (h0 : l ≠ []) (hl : l.length ≤ 1000) (q : ∀ x ∈ l, Q (f x) m) : spPick [d, .ref a] m Q :=
  ⟨d, .ref a, l.map f, rfl, hd, .inr (.inr ⟨a, rfl, h⟩), (by simpa using h0), (by rw [List.length_map]; omega), fun y hy => by
    obtain ⟨x, hx, rfl⟩ := List.mem_map.mp hy
    exact q x hx⟩
theorem pk' {l : List Str} {d : D} {a : Addr} {m : M} {Q : DK} (hd : Dk m d) (h : m.mu a = some (.lst (l.map D.str))) (h0 : l ≠ []) (hl : l.length ≤ 1000) (q : ∀ x ∈ l, Q (.str x) m) : spPick [d, .ref a] m Q := pk hd h h0 hl q
theorem drw {d : D} {n : Int} {m : M} {Q : DK} (hd : Dk m d) (h0 : 0 < n) (h1 : n < 1073741824) (q : ∀ r, 0 ≤ r → r < n → Q (.int r) m) : spDrawG [d, .int n] m Q := ⟨d, n, rfl, h0, h1, hd, q⟩
theorem dFor_draw {te : DTr} {g : Tg} {tb : DTS} {E : DEnds} {δ : Sl} {m : M} {n : Int} (hn : n < 2 ^ 62) (hT : ∀ R : DK, (∀ r : Int, 0 ≤ r → r < n → R (.int r) m) → te δ m R) (P : Nat → Sl → M → Prop) (h0 : P 0 δ m)
    (hs : ∀ (i : Nat) δ m', (i : Int) < n → P i δ m' → gD g (.int (i : Int)) δ fun δ2 => tb { E with nx := P (i + 1), ct := P (i + 1), bk := E.nx } δ2 m') (hd : ∀ (r : Nat) δ m', (r : Int) < n → P r δ m' → E.nx δ m') : dFor (iR1 te) g tb E δ m := by
  refine hT _ fun r r0 r1 => ⟨r, rfl, by omega, by omega, P, h0, fun _ _ _ _ => trivial, fun i d δ' m' hi hP => ?_, fun δ' m' hP => ?_⟩
  · have hlt : i < r.toNat := by
      by_cases z : i < r.toNat
      · exact z
      · rw [List.getElem?_eq_none (by rw [rangeD_len]; omega)] at hi; cases hi
    rw [rangeD_get hlt] at hi; cases hi
    exact hs i δ' m' (by omega) hP
  · rw [rangeD_len] at hP
    exact hd r.toNat δ' m' (by omega) hP
theorem tupL {a : Addr} {ds : List D} {m : M} {Q : DK} (h : m.mu a = some (.lst ds)) (q : Q (.tup ds) m) : rdTuple [.ref a] m Q := ⟨.ref a, ds, rfl, .inl ⟨a, rfl, h⟩, q⟩
theorem ap {a : Addr} {ds : List D} {y : D} {m : M} {Q : DK} (h : m.mu a = some (.lst ds)) (hz : ds.length < 1000) (q : Q .non (m.set a (.lst (ds ++ [y])))) : rdAppend (.ref a) [y] m Q := ⟨a, ds, y, rfl, rfl, h, slk (by omega), q⟩
theorem kinds3 : ∀ s ∈ (["plain", "points", "crossing"] : List Str), kindS s = true := by decide
end PL

namespace PL
open PySem PySem.Spec PyProof.Rows L2 GA GxR DL
def strKV (kvs : List (Str × Str)) : List (Key × D) := kvs.map fun p => (Sum.inr p.1, D.str p.2)
/-- an end of a stretch of these kinds -/
def KE (kvs : List (Str × Str)) (e : End) : Prop := endOk e ∧ ∃ kind, (e.1, kind) ∈ kvs ∧ kindS kind = true ∧ (kind = "plain" → e.2 ≤ 1)
def spOver : DSp := fun ds m Q => ∃ (d : D) (k : Addr) (kvs : List (Str × Str)) (e : End), ds = [d, .ref k, endD e] ∧ Dk m d ∧ m.mu k = some (.dic (strKV kvs)) ∧ (kvs.map (·.1)).Nodup ∧ KE kvs e ∧ ∀ o, (∀ t, o = some t → stepOk t) → Q (ovD o) m
/-- the dict of joined ends -/
def joKV (kvs : List (End × End)) : List (List Key × D) := kvs.map fun p => ([Sum.inr p.1.1, Sum.inl p.1.2], endD p.2)
structure Chg2 (u v : Addr) (m m' : M) : Prop where
  gh : m'.gh = m.gh
  old : ∀ a o, a ≠ u → a ≠ v → m.mu a = some o → m'.mu a = some o
def spJoints : DSp := fun ds m Q => ∃ (Pe : End → Prop) (d : D) (f j : Addr) (es : List End), ds = [d, .ref f, .ref j] ∧ Dk m d ∧ f ≠ j ∧ m.mu f = some (.lst (es.map endD)) ∧ m.mu j = some (.dit []) ∧ es.length ≤ 100 ∧ (∀ e ∈ es, Pe e) ∧ (∀ e, Pe e → endOk e) ∧
  ∀ (a : Addr) (m' : M) (js : List (End × End)) (es' : List End) (kvs : List (End × End)), Chg2 f j m m' → m.mu a = none → m'.mu f = some (.lst (es'.map endD)) → m'.mu j = some (.dit (joKV kvs)) → m'.mu a = some (.lst (js.map joD)) → (∀ x ∈ js, joOk x) → js.length ≤ 16 → (∀ e ∈ es', Pe e) → es'.length ≤ es.length → (∀ p ∈ kvs, Pe p.1 ∧ Pe p.2) → kvs.length ≤ 32 → Q (.ref a) m'
def spChecked : DSp := fun ds m Q => ∃ (d : D) (u : Addr) (us : List Str) (k : Nat), ds = [d, .ref u, .int k] ∧ Dk m d ∧ m.mu u = some (.lst (us.map D.str)) ∧ us = [] ∧ k ≤ 12 ∧ ∀ (p : Pln) m', p.Ok → Chg u m m' → Q p.d m'
theorem nd_ne {l : List Addr} (nd : l.Nodup) {i j : Nat} {a b : Addr} (hi : l[i]? = some a) (hj : l[j]? = some b) (h : i ≠ j) : a ≠ b := by
  intro e; subst e
  have h1 : i < l.length := by
    by_cases z : i < l.length
    · exact z
    · rw [List.getElem?_eq_none (by omega)] at hi; cases hi
  exact h ((List.getElem?_inj h1 nd).mp (hi.trans hj.symm))
theorem neOf {m : M} {a p : Addr} {o : DO} (h : m.mu a = some o) (hp : m.mu p = none) : a ≠ p := fun e => by subst e; rw [h] at hp; cases hp
theorem valStr {nm kind : Str} : ∀ {kvs : List (Str × Str)}, (nm, kind) ∈ kvs → (kvs.map (·.1)).Nodup → valD (strKV kvs) (.inr nm) = some (.str kind)
  | [], h, _ => by cases h
  | (a, b) :: kvs, h, nd => by
    rw [List.map_cons, List.nodup_cons] at nd
    unfold valD strKV
    rw [List.map_cons, List.find?_cons]
    by_cases e : a = nm
    · subst e
      have : b = kind := by
        rcases List.mem_cons.mp h with h | h
        · cases h; rfl
        · exact (nd.1 (List.mem_map.mpr ⟨_, h, rfl⟩)).elim
      subst this
      simp
    · have h' : (nm, kind) ∈ kvs := by
        rcases List.mem_cons.mp h with h | h
        · cases h; exact (e rfl).elim
        · exact h
      have ih := valStr h' nd.2
      unfold valD strKV at ih
      have : decide ((Sum.inr a : Key) = Sum.inr nm) = false := decide_eq_false fun z => e (by injection z)
      simp only [this]
      exact ih
theorem putStr {nm kind : Str} {kvs : List (Str × Str)} (h : nm ∉ kvs.map (·.1)) : putD (strKV kvs) (.inr nm) (.str kind) = strKV (kvs ++ [(nm, kind)]) := by
  unfold putD
  have : ((strKV kvs).any fun kv => decide (kv.1 = (Sum.inr nm : Key))) = false := by
    rw [Bool.eq_false_iff]
    intro z
    obtain ⟨p, hp, hq⟩ := List.any_eq_true.mp z
    obtain ⟨x, hx, rfl⟩ := List.mem_map.mp hp
    have hq : (Sum.inr x.1 : Key) = Sum.inr nm := of_decide_eq_true hq
    injection hq with hq
    exact h (List.mem_map.mpr ⟨x, hx, hq⟩)
  rw [this, if_neg Bool.false_ne_true]
  unfold strKV; rw [List.map_append]; rfl
def eKey (e : End) : List Key := [Sum.inr e.1, Sum.inl e.2]
theorem eKey_inj {a b : End} (h : eKey a = eKey b) : a = b := by
  obtain ⟨a1, a2⟩ := a; obtain ⟨b1, b2⟩ := b
  unfold eKey at h; simp at h
  obtain ⟨rfl, rfl⟩ := h; rfl
theorem eKey_D (e : End) : D.tup ((eKey e).map kD) = endD e := rfl
theorem getJo {e : End} : ∀ {kvs : List (End × End)}, e ∈ kvs.map (·.1) → ∃ e', valD (joKV kvs) (eKey e) = some (endD e') ∧ (e, e') ∈ kvs
  | [], h => by cases h
  | (a, b) :: kvs, h => by
    unfold valD joKV
    rw [List.map_cons, List.find?_cons]
    by_cases z : a = e
    · subst z
      refine ⟨b, ?_, List.mem_cons_self⟩
      have : decide ((([Sum.inr a.1, Sum.inl a.2] : List Key)) = eKey a) = true := decide_eq_true rfl
      simp only [this]; rfl
    · have h' : e ∈ kvs.map (·.1) := by
        rw [List.map_cons] at h
        rcases List.mem_cons.mp h with h | h
        · exact (z h.symm).elim
        · exact h
      obtain ⟨e', h1, h2⟩ := getJo h'
      refine ⟨e', ?_, List.mem_cons_of_mem _ h2⟩
      have : decide ((([Sum.inr a.1, Sum.inl a.2] : List Key)) = eKey e) = false := decide_eq_false fun w => z (eKey_inj w)
      simp only [this]
      exact h1
theorem putJo {e e' : End} {kvs : List (End × End)} : ∃ kvs', putD (joKV kvs) (eKey e) (endD e') = joKV kvs' ∧ (∀ p ∈ kvs', p ∈ kvs ∨ p = (e, e')) ∧ kvs'.length ≤ kvs.length + 1 := by
  unfold putD
  split
  · refine ⟨kvs.map fun p => if p.1 = e then (p.1, e') else p, ?_, fun p hp => ?_, by rw [List.length_map]; omega⟩
    · unfold joKV
      rw [List.map_map, List.map_map]
      apply List.map_congr_left
      intro p _
      show (if ([Sum.inr p.1.1, Sum.inl p.1.2] : List Key) = eKey e then (([Sum.inr p.1.1, Sum.inl p.1.2] : List Key), endD e') else (([Sum.inr p.1.1, Sum.inl p.1.2] : List Key), endD p.2)) = _
      by_cases z : p.1 = e
      · have : ([Sum.inr p.1.1, Sum.inl p.1.2] : List Key) = eKey e := by rw [z]; rfl
        rw [if_pos this]
        simp [z]
      · have : ¬ ([Sum.inr p.1.1, Sum.inl p.1.2] : List Key) = eKey e := fun w => z (eKey_inj w)
        rw [if_neg this]
        simp [z]
    · obtain ⟨x, hx, rfl⟩ := List.mem_map.mp hp
      by_cases z : x.1 = e
      · rw [if_pos z]; exact .inr (by rw [z])
      · rw [if_neg z]; exact .inl hx
  · refine ⟨kvs ++ [(e, e')], ?_, fun p hp => ?_, by rw [List.length_append]; exact Nat.le_refl _⟩
    · unfold joKV; rw [List.map_append]; rfl
    · rcases List.mem_append.mp hp with hp | hp
      · exact .inl hp
      · exact .inr (List.mem_singleton.mp hp)
theorem xor_ok {i : Int} (h : numOk i) : numOk (Builtin.bitXor i 1) := by
  rcases num_cases h with rfl | rfl | rfl | rfl <;> (unfold numOk; decide +kernel)
theorem eqv_end {a b : End} : PyData.eqv (endD a).py (endD b).py = decide (a = b) := by
  obtain ⟨a1, a2⟩ := a; obtain ⟨b1, b2⟩ := b
  show (a1 == b1 && ((a2 == b2) && true)) = _
  by_cases h1 : a1 = b1
  · subst h1
    by_cases h2 : a2 = b2
    · subst h2; simp
    · simp [h2]
  · simp [h1]
/-- where an end stands -/
theorem place {e : End} : ∀ {es : List End}, e ∈ es → ∃ j, SeqAt.dataPlace (D.pys (es.map endD)) (endD e).py = some j ∧ es[j]? = some e
  | [], h => by cases h
  | a :: es, h => by
    unfold SeqAt.dataPlace
    show ∃ j, List.findIdx? (fun y => PyData.eqv y (endD e).py) ((endD a).py :: D.pys (es.map endD)) = some j ∧ _
    rw [List.findIdx?_cons, eqv_end]
    by_cases z : a = e
    · subst z; exact ⟨0, by simp, rfl⟩
    · have h' : e ∈ es := by
        rcases List.mem_cons.mp h with h | h
        · exact (z h.symm).elim
        · exact h
      obtain ⟨j, h1, h2⟩ := place h'
      unfold SeqAt.dataPlace at h1
      refine ⟨j + 1, ?_, by simpa using h2⟩
      simp [z, h1]
theorem erase_map : ∀ (es : List End) (j : Nat), (es.map endD).eraseIdx j = (es.eraseIdx j).map endD
  | [], _ => rfl
  | _ :: _, 0 => rfl
  | e :: es, j + 1 => by rw [List.map_cons, List.eraseIdx_cons_succ, List.eraseIdx_cons_succ, List.map_cons, erase_map es j]
theorem remE {f : Addr} {es : List End} {e : End} {m : M} {Q : DK} (h : m.mu f = some (.lst (es.map endD))) (he : e ∈ es) (q : ∀ j, es[j]? = some e → Q .non (m.set f (.lst ((es.eraseIdx j).map endD)))) : rdRemove (.ref f) [endD e] m Q := by
  obtain ⟨j, h1, h2⟩ := place he
  refine ⟨f, _, _, j, rfl, rfl, h, pures_of fun d hd => ?_, rfl, (by rw [dep_py]; exact Nat.le_trans (Nat.le_refl 1) (by decide)), h1, ?_⟩
  · obtain ⟨a, _, rfl⟩ := List.mem_map.mp hd; rfl
  · have e1 : (es.map endD).eraseIdx j = (es.eraseIdx j).map endD := erase_map es j
    rw [e1]; exact q j h2
theorem stays {a b : End} {es : List End} {j : Nat} (hj : es[j]? = some a) (hb : b ∈ es) (ne : b ≠ a) : b ∈ es.eraseIdx j := by
  obtain ⟨i, hi⟩ := List.getElem?_of_mem hb
  have hij : i ≠ j := fun z => by subst z; rw [hj] at hi; cases hi; exact ne rfl
  rw [List.mem_eraseIdx_iff_getElem?]
  exact ⟨i, hij, hi⟩
def manyD : List (Key × D) := [(.inr "plain", .int 2), (.inr "points", .int 3), (.inr "crossing", .int 4)]
theorem dDisp_many {δ : Sl} {m : M} {Q : DK} (h : ∀ p, m.mu p = none → Q (.ref p) ((m.set p (.dic [])).set p (.dic manyD))) : dDisp [("plain", dC (.int 2)), ("points", dC (.int 3)), ("crossing", dC (.int 4))] δ m Q := fun p hp => by
  refine ⟨M.set_same, ?_⟩
  have e : ((([("plain", dC (.int 2)), ("points", dC (.int 3)), ("crossing", dC (.int 4))] : List (Str × DTr)).map fun x => (Sum.inr x.1 : Key)).zip [D.int 2, D.int 3, D.int 4]).foldl (fun acc kv => putD acc kv.1 kv.2) [] = manyD := by with_unfolding_all rfl
  rw [e]; exact h p hp
theorem many_val {kind : Str} (h : kindS kind = true) : ∃ n : Int, valD manyD (.inr kind) = some (.int n) ∧ 0 < n ∧ n ≤ 4 ∧ (kind = "plain" → n ≤ 2) := by
  unfold kindS at h
  simp only [Bool.or_eq_true, beq_iff_eq] at h
  rcases h with (rfl | rfl) | rfl
  · exact ⟨2, by with_unfolding_all rfl, by decide, by decide, fun _ => by decide⟩
  · exact ⟨3, by with_unfolding_all rfl, by decide, by decide, fun z => absurd z (by decide)⟩
  · exact ⟨4, by with_unfolding_all rfl, by decide, by decide, fun z => absurd z (by decide)⟩
theorem nd_add {l : List Addr} {m : M} {p : Addr} {o : DO} (nd : l.Nodup) (hv : ∀ a ∈ l, m.mu a ≠ none) (hp : m.mu p = none) : (l ++ [p]).Nodup ∧ ∀ a ∈ l ++ [p], (m.set p o).mu a ≠ none := by
  refine ⟨List.nodup_append.mpr ⟨nd, by simp, fun a ha b hb e => ?_⟩, fun a ha => ?_⟩
  · rw [List.mem_singleton.mp hb] at e; subst e; exact hv a ha hp
  · by_cases z : a = p
    · subst z; rw [M.set_same]; exact fun z => by cases z
    · rw [M.set_ne z]
      rcases List.mem_append.mp ha with ha | ha
      · exact hv a ha
      · exact (z (List.mem_singleton.mp ha)).elim
theorem KE.more {kvs l : List (Str × Str)} {e : End} (h : KE kvs e) : KE (kvs ++ l) e := by
  obtain ⟨h1, kind, h2, h3⟩ := h
  exact ⟨h1, kind, List.mem_append_left _ h2, h3⟩
theorem kinds6 : ∀ s ∈ (["plain", "plain", "plain", "points", "points", "crossing"] : List Str), kindS s = true := by decide
end PL

namespace DL
open PySem PySem.Spec PyProof.Rows L2 GA GxR
/-! ### defs that are called where no guard is set (what repr of data asks) -/
abbrev NoG (A : Around) : Prop := A.guards = some []
structure FnOkG (P : Program) (w : World) (K : PySem.W.Frag) (mg : Str → Option Value) (base : Heap) (k : Nat) (f : Addr) (fd : FuncData) (ps : List Str) (sp : Sp) : Prop where
  len : ∀ vs H Q E, sp vs H Q E → vs.length = ps.length
  run : ∀ (A : Around) (outer : List Env) (s : Shared) (H : Hp) (args : Args) (us : List Value) (vs : List V) (Q : VK) (E : XK), Room k A → NoG A → Env0 P w K mg base A outer s H → BindsTo s fd args (ps.zip us) → Vals vs us → sp vs H Q E →
    codeAny (model P w) A (.call (.ref f) args) (CR CX0 outer P w H s Q E) s
theorem FnOkG.ofFn {P : Program} {w : World} {K : PySem.W.Frag} {mg : Str → Option Value} {base : Heap} {k : Nat} {f : Addr} {fd : FuncData} {ps : List Str} {sp : Sp} (F : FnOk P w K mg base CX0 k f fd ps sp) : FnOkG P w K mg base k f fd ps sp :=
  ⟨F.len, fun A outer s H args us vs Q E hr _ => F.run A outer s H args us vs Q E hr⟩
theorem deeper_g {A : Around} {env : Env} (h : NoG A) : NoG (A.deeper env) := by
  obtain ⟨a1, a2, a3, a4, a5⟩ := A
  exact h
section
variable {P : Program} {w : World} {K : PySem.W.Frag} {mg : Str → Option Value} {base : Heap}
theorem FnOkG.make {k : Nat} {f : Addr} {name qual : Str} {params : Arguments} {body : List Stmt} {scope : Scope} {dV kV doc pm cdv ct oc : Value} {an od : Option Addr} {osl : Array (Option Value)} {N ps : List Str} {sp : Sp}
    (look : K.lookup f = some ⟨oc, od, .func (PySem.W.fnOf name qual params body scope dV kV doc pm an cdv ct), osl⟩) (hc : PySem.W.codeIn K cdv qual = true) (S : FnScope N ps scope) (len : ∀ vs H Q E, sp vs H Q E → vs.length = ps.length)
    (hbody : ∀ (A : Around) (outer : List Env) (s : Shared) (H : Hp) (vs : List V) (Q : VK) (E : XK), Room k (A.deeper (envOfC qual scope s.heap.objs.size f cdv)) → NoG (A.deeper (envOfC qual scope s.heap.objs.size f cdv)) → sp vs H Q E →
      ∃ t, PSs (cxOf CX0 P w K mg base N qual scope f cdv A outer s H E) body t ∧ t { nx := fun _ H' => Q .non H', rt := Q } (start N vs) H) :
    FnOkG P w K mg base (k + 1) f (PySem.W.fnOf name qual params body scope dV kV doc pm an cdv ct) ps sp where
  len := len
  run := fun A outer s H args us vs Q E room ng env0 bnd rel spec => by
    have Ks : K.In s.heap := env0.mod.kin.keeps fun b ob z => (env0.bs b ob z).1
    have nolim : s.heap.NoLimit := env0.mod.nolimit.keeps fun b ob z => (env0.bs b ob z).1
    have kinds : ∀ y ∈ ps.zip us, scope.names.lookup y.1 = some .local ∨ (scope.names.lookup y.1 = some .cell ∧ ((cellsFrom (s.heap.objs.size + 1) scope.names []).lookup y.1).isSome = true) := by
      rintro ⟨nm, val⟩ hy
      exact (S.par nm (List.of_mem_zip hy).1).imp id fun z => ⟨z, PySem.W.cellsFrom_some _ _ _ (.inl z)⟩
    refine codeAny_call_function room.depth (Ks _ _ look) rfl S.co S.gen rfl (PySem.W.codeRec_of Ks hc) (bnd _ _ _ _ ?_)
    refine wpAny_newFunctionEnv_cells S.kind kinds fun env ee s1 inc => ?_
    subst ee
    obtain ⟨t, der, rd⟩ := hbody A outer s H vs Q E (room.deeper _) (deeper_g ng) spec
    have I0 := inv_start (CX := CX0) (E := E) S room.hd env0 (len _ _ _ _ spec) rel inc
    refine ⟨nolim.keeps inc.toInCall.keep, codeAny_func (wpAny_mono (der.run [] s1 (start N vs) H _ I0 rd) (fun out s2 z => ?_) fun _ _ z => z)⟩
    match out, z with
    | .ret u, ⟨v, σ', H', J, rv, q⟩ => exact ⟨v, H', J.os, J.bare, J.base, J.hok, rv, q⟩
    | .next, ⟨σ', H', J, q⟩ => exact ⟨V.non, H', J.os, J.bare, J.base, J.hok, rfl, q⟩
    | .brk, ⟨_, _, _, q⟩ => exact q.elim
    | .cont, ⟨_, _, _, q⟩ => exact q.elim
end
structure DCalG (P : Program) (w : World) (K : PySem.W.Frag) (mg : Str → Option Value) (base : Heap) (k : Nat) (x : Str) (sp : DSp) : Prop where
  ex : ∃ (f : Addr) (fd : FuncData) (ps : List Str), FnOkG P w K mg base k f fd ps (spUp K sp) ∧ mg x = some (.ref f) ∧ PySem.W.keepIn K (.ref f) = true ∧ Binds K fd ps []
section
variable {P : Program} {w : World} {K : PySem.W.Frag} {mg : Str → Option Value} {base : Heap}
theorem DCal.g {k : Nat} {x : Str} {sp : DSp} (c : DCal P w K mg base k x sp) : DCalG P w K mg base k x sp := by
  obtain ⟨f, fd, ps, F, hm, kp, b⟩ := c.ex
  exact ⟨f, fd, ps, .ofFn F, hm, kp, b⟩
theorem fnG {x : Str} {st : Stmt} {f : Addr} {fd : FuncData} {N ps : List Str} {k : Nat} {sp : DSp} (F : Fun K x x st f fd) (S : FnScope N ps (defScope st)) (hl : ∀ ds m Q, sp ds m Q → ds.length = ps.length)
    (hbody : ∀ (cdv : Value) (A : Around) (outer : List Env) (s : Shared) (H : Hp) (E : XK), Room k (A.deeper (envOfC x (defScope st) s.heap.objs.size f cdv)) → NoG (A.deeper (envOfC x (defScope st) s.heap.objs.size f cdv)) →
      ∃ t, DSs (cxOf CX0 P w K mg base N x (defScope st) f cdv A outer s H E).nox (defBody st) t ∧ ∀ ds m Q, sp ds m Q → t { nx := fun _ m' => Q .non m', rt := Q } (startD N ds) m) : FnOkG P w K mg base (k + 1) f fd ps (spUp K sp) := by
  obtain ⟨oc, od, kV, doc, pm, an, cdv, ct, osl, rfl, lk, hcd⟩ := F.ex
  refine FnOkG.make lk hcd S (fun vs H Q E ⟨ds, m, Q', r, rh, q, f⟩ => by rw [← r.length]; exact hl ds m Q' q) fun A outer s H vs Q E hr hg hsp => ?_
  obtain ⟨ds, m, Q', r, rh, q, fq⟩ := hsp
  obtain ⟨t, ht, h⟩ := hbody cdv A outer s H E hr hg
  exact ⟨_, ht.nox, startD N ds, m, _, start_rel r, rh, h ds m Q' q, ⟨fun δ' m' q' σ' H' t' rs' rh' => fq .non m' q' .non H' t' .non rh', fq, fun _ _ z => z.elim, fun _ _ z => z.elim⟩⟩
theorem dcalG {x : Str} {st : Stmt} {f : Addr} {fd : FuncData} {N ps : List Str} {k : Nat} {sp : DSp} (F : Fun K x x st f fd) (hm : mg x = some (.ref f)) (b : Binds K fd ps []) (S : FnScope N ps (defScope st)) (hl : ∀ ds m Q, sp ds m Q → ds.length = ps.length)
    (hbody : ∀ (cdv : Value) (A : Around) (outer : List Env) (s : Shared) (H : Hp) (E : XK), Room k (A.deeper (envOfC x (defScope st) s.heap.objs.size f cdv)) → NoG (A.deeper (envOfC x (defScope st) s.heap.objs.size f cdv)) →
      ∃ t, DSs (cxOf CX0 P w K mg base N x (defScope st) f cdv A outer s H E).nox (defBody st) t ∧ ∀ ds m Q, sp ds m Q → t { nx := fun _ m' => Q .non m', rt := Q } (startD N ds) m) : DCalG P w K mg base (k + 1) x sp :=
  ⟨f, fd, ps, fnG F S hl hbody, hm, F.kp, b⟩
end
section
variable {X : Cx} {e : Expr} {es : List Expr} {t : DTA} {pos : Pos}
theorem de_callG {k j : Nat} {x : Str} {p : Pos} {sp : DSp} (c : DCalG X.prog X.w X.K X.mg X.base k x sp) (hr : Room j X.A) (ng : NoG X.A) (hk : k ≤ j) (hg : Gl X x) (ha : DA X (e :: es) t)
    (hdb : (x == ("__debug__" : Str)) = false := by decide) (he : starEach (e :: es) X.env = (false, eval e X.env) :: starEach es X.env := by rfl) (hpl : (backTo pos (starEach es X.env)).any (·.1) = false := by rfl) :
    DE X (.Call (.Name x p) (e :: es) [] pos) (dCall sp t) := by
  obtain ⟨f, fd, ps, F, hm, kp, b⟩ := c.ex
  refine ⟨fun pins s σ H Q I ⟨δ, m, Q', rs, rh, q, fq⟩ => ?_⟩
  refine wpAny_Call_Name_kw (ld_glob I hg hm (PySem.W.callWith_K (h₀ := X.base) I.ok.mod.kin kp (thn (ha.run pos pins s σ H (fun vs H1 => spUp X.K sp vs H1 Q (fun _ _ _ => False)) I ⟨δ, m, _, rs, rh, q, fun ds m1 q1 vs H1 t1 r1 rh1 => ⟨ds, m1, Q', r1, rh1, q1, fq.mono t1⟩⟩) fun us s1 ⟨vs, H1, I1, r, z⟩ => ⟨I1.kIn, ?_⟩) he hpl) hdb)
  have hl : (us ++ []).length = ps.length := by rw [List.append_nil, ← r.length]; exact F.len _ _ _ _ z
  have bb := b s1 us I1.kIn hl
  rw [List.append_nil] at bb
  refine wpAny_call (codeAny_mono (F.run X.A X.stack s1 H1 ⟨us, []⟩ us vs Q _ (hr.mono hk) ng I1.env0 bb r z) fun res s' hq => ?_)
  match res, hq with
  | .error e, hq => exact pass0 pins σ H1 s1 e s' I1 hq
  | .ok (.ret u), hq => exact I1.after hq
  | .ok .next, hq => exact hq.elim
  | .ok .brk, hq => exact hq.elim
  | .ok .cont, hq => exact hq.elim
end
/-! ### repr of data -/
def rReprD (K : PySem.W.Frag) : List V → Hp → VK → Prop := fun xs H Q => ∃ (v : V) (p : PyData), xs = [v] ∧ Dp K H v p ∧ p.showable = true ∧ p.hasDict = false ∧ p.shown.length ≤ sizeLine ∧ p.depth ≤ 60 ∧ Q (.str p.shown) H
theorem call_reprD {X : Cx} {k : Nat} (hr : Room k X.A) (ng : NoG X.A) : CallR X (.builtin "repr") (rReprD X.K) := by
  intro pins s σ H xs us Q I r h
  obtain ⟨v, p, rfl, hd, h1, h2, h3, h4, q⟩ := h
  obtain ⟨u, rfl, ru⟩ := r.one
  obtain ⟨as, ra⟩ := Dp.reads I p v u hd ru
  have hu := hr.units
  by_cases hq : ∃ a, u = .ref a
  · obtain ⟨a, rfl⟩ := hq
    exact repr_of_reads' ra h1 (fun z => by rw [h2] at z; cases z) ng (by omega) (fun _ _ z => z) (fun h' t tk hk => ⟨.str _, H, I.kept (t' := tk) hk, ⟨_, rfl⟩, q⟩) h3
  · cases ra with
    | none => exact PySem.P.repr_of_none ⟨.str _, H, I.tok _, ⟨_, rfl⟩, q⟩
    | bool => exact PySem.P.repr_of_bool ⟨.str _, H, I.tok _, ⟨_, rfl⟩, q⟩
    | int => exact PySem.P.repr_of_int (of_decide_eq_true h1) ⟨.str _, H, I.tok _, ⟨_, rfl⟩, q⟩
    | str => exact PySem.P.repr_of_str ⟨.str _, H, I.tok _, ⟨_, rfl⟩, q⟩ h3
    | _ => exact (hq ⟨_, rfl⟩).elim
/- the data that a thing is, lists of the store read, at any depth -/
mutual
inductive Shw (m : M) : D → PyData → Prop
  | non : Shw m .non .none
  | bl (b : Bool) : Shw m (.bl b) (.bool b)
  | int (i : Int) : Shw m (.int i) (.int i)
  | str (s : Str) : Shw m (.str s) (.str s)
  | tup {ds : List D} {ps : List PyData} (h : Shws m ds ps) : Shw m (.tup ds) (.tuple ps)
  | ktup {ds : List D} {ps : List PyData} (h : Shws m ds ps) : Shw m (.ktup ds) (.tuple ps)
  | lst {a : Addr} {ds : List D} {ps : List PyData} (e : m.mu a = some (.lst ds)) (h : Shws m ds ps) : Shw m (.ref a) (.list ps)
inductive Shws (m : M) : List D → List PyData → Prop
  | nil : Shws m [] []
  | cons {d : D} {p : PyData} {ds : List D} {ps : List PyData} (h : Shw m d p) (t : Shws m ds ps) : Shws m (d :: ds) (p :: ps)
end
mutual
theorem Shw.dp {K : PySem.W.Frag} {H : Hp} {m : M} (rh : RelH K H m) : ∀ {d : D} {p : PyData} {v : V}, Shw m d p → Rep K H d v → Dp K H v p
  | _, _, _, .non, r => by cases r; exact .non
  | _, _, _, .bl b, r => by cases r; exact .bl b
  | _, _, _, .int i, r => by cases r; exact .int i
  | _, _, _, .str s, r => by cases r; exact .str s
  | _, _, _, .tup h, r => by
    cases r with
    | tup e rr => exact .tup (.inl (.inl e)) (Shws.dp rh h rr)
  | _, _, _, .ktup h, r => by
    cases r with
    | ktup e rr => exact .tup e (Shws.dp rh h rr)
  | _, _, _, .lst e h, r => by
    cases r
    obtain ⟨xs, e2, rr⟩ := rh.obj _ _ e
    exact .lst (SqL.of e2) (Shws.dp rh h rr)
theorem Shws.dp {K : PySem.W.Frag} {H : Hp} {m : M} (rh : RelH K H m) : ∀ {ds : List D} {ps : List PyData} {vs : List V}, Shws m ds ps → Reps K H ds vs → DpAll K H vs ps
  | _, _, _, .nil, r => by cases r; exact .nil
  | _, _, _, .cons h t, r => by
    cases r with
    | cons r1 r2 => exact .cons (Shw.dp rh h r1) (Shws.dp rh t r2)
end
mutual
theorem Shw.noDict {m : M} : ∀ {d : D} {p : PyData}, Shw m d p → p.hasDict = false
  | _, _, .non => rfl
  | _, _, .bl b => rfl
  | _, _, .int i => rfl
  | _, _, .str s => rfl
  | _, _, .tup h => Shws.noDict h
  | _, _, .ktup h => Shws.noDict h
  | _, _, .lst e h => Shws.noDict h
theorem Shws.noDict {m : M} : ∀ {ds : List D} {ps : List PyData}, Shws m ds ps → PyData.hasDictAll ps = false
  | _, _, .nil => rfl
  | _, _, .cons (p := p) (ps := ps) h t => by
    show (p.hasDict || PyData.hasDictAll ps) = false
    rw [Shw.noDict h, Shws.noDict t]; rfl
end
def rdRepr : DRA := fun xs m Q => ∃ x p, xs = [x] ∧ Shw m x p ∧ p.showable = true ∧ p.shown.length ≤ sizeLine ∧ p.depth ≤ 60 ∧ Q (.str p.shown) m
theorem argl_repr {K : PySem.W.Frag} : ArgL K (rReprD K) rdRepr := fun xs vs H m Q' Q r rh ⟨x, p, e, hs, h1, h2, h3, q⟩ f => by
  subst e
  obtain ⟨v, rfl, rv⟩ := r.one
  exact ⟨v, p, rfl, hs.dp rh rv, h1, hs.noDict, h2, h3, f _ m q _ H (Ts.refl _ _) (.str _) rh⟩
theorem de_repr {X : Cx} {e : Expr} {t : DTA} {p pos : Pos} {k : Nat} (hr : Room k X.A) (ng : NoG X.A) (hg : Gl X "repr") (hm : X.mg "repr" = none) (hb : bootBuiltins "repr" = some (.builtin "repr")) (ha : DA X [e] t)
    (he : starEach [e] X.env = (false, eval e X.env) :: starEach [] X.env := by rfl) (hpl : (backTo pos (starEach [] X.env)).any (·.1) = false := by rfl) : DE X (.Call (.Name "repr" p) [e] [] pos) (dArgs rdRepr t) :=
  de_blt (call_reprD hr ng) argl_repr hg hm hb ha (by decide) (by decide) he hpl
end DL

namespace DL
open PySem PySem.Spec PyProof.Rows L2 GA GxR
/-! ### a law that is walked where no guard is set -/
section
variable {P : Program} {w : World} {K : PySem.W.Frag} {mg mb : Str → Option Value} {k : Nat} {fa a : Addr} {cs : List (Addr × Addr)} {fd : FuncData} {x : Str} {sp : Sp} {st : Shared} {vs : List Value} {ns : List Int}
abbrev tabO : Obj := { cls := .none, data := .fields #[] }
abbrev lisO (vs : List Value) : Obj := { cls := .type "list", data := .seq vs.toArray }
/-- what is tracked as the law begins: the tables, and the script if it is not a written one -/
def lawH (K : PySem.W.Frag) (cs : List (Addr × Addr)) (a : Addr) (vs : List Value) (ns : List Int) : Hp := fun b =>
  if b ∈ cs.map (·.2) then some (.tbl #[]) else if b = a ∧ (K.lookup a).isNone = true then some (.frz (lisO vs) (.lst (ns.map V.int))) else none
theorem lawH_tab {b : Addr} (h : b ∈ cs.map (·.2)) : lawH K cs a vs ns b = some (.tbl #[]) := if_pos h
theorem lawH_off {b : Addr} (h : b ∉ cs.map (·.2)) (h2 : ¬ (b = a ∧ (K.lookup a).isNone = true)) : lawH K cs a vs ns b = none := by unfold lawH; rw [if_neg h, if_neg h2]
theorem lawH_frz (h : a ∉ cs.map (·.2)) (h2 : (K.lookup a).isNone = true) : lawH K cs a vs ns a = some (.frz (lisO vs) (.lst (ns.map V.int))) := by unfold lawH; rw [if_neg h, if_pos ⟨rfl, h2⟩]
theorem law_runG (KX : K.In st.heap) (hns : st.heap.Ns mainGlobals mg) (hbn : st.heap.Ns builtinsNs mb) (hbb : ∀ x : Str, x ≠ "__name__" → mb x = bootBuiltins x) (hlim : st.heap.NoLimit) (hg : st.gens = #[])
    (hT : ∀ p ∈ cs, st.heap.get? p.2 = some tabO) (nT : ∀ p ∈ cs, K.lookup p.2 = none) (C : ∀ p ∈ cs, PySem.W.CodeHd st.heap p.1 p.2)
    (hbm : ∃ (bm : Addr) (ob : Obj), mg "__builtins__" = some (.ref bm) ∧ bm ≠ builtinsNs ∧ st.heap.get? bm = some ob ∧ ob.cls = .type "module" ∧ ob.dict = some builtinsNs ∧ ob.data = .plain)
    (ha : st.heap.get? a = some (lisO vs)) (hi : IntsAre vs ns) (hl : ns.length ≤ sizeLine) (hr : Room k callerA)
    (F : ∀ base : Heap, K.In base → base.Ns mainGlobals mg → (∀ p ∈ cs, LamX.TabB base mg p.1 p.2) → FnOkG P w K mg base k fa fd [x] sp) (hbind : ∀ (s : Shared) (u : Value), BindsTo s fd ⟨[u], []⟩ [(x, u)])
    (hsp : ∀ H : Hp, (∀ p ∈ cs, H p.2 = some (.tbl #[])) → SqL K H a (ns.map V.int) → sp [.ref a] H (fun v _ => v = .bl true) fun _ _ _ => False) :
    codeAny (model P w) callerA (.call (.ref fa) ⟨[.ref a], []⟩) (fun r s' => r = .ok (.ret (.bool true)) ∧ OldK st.heap s'.heap ∧ s'.os = st.os ∧ AllBare s'.gens) st := by
  have inT : ∀ b, b ∈ cs.map (·.2) → st.heap.get? b = some tabO := fun b hb => by
    obtain ⟨p, hp, rfl⟩ := List.mem_map.mp hb
    exact hT p hp
  have aT : a ∉ cs.map (·.2) := fun z => by have := (inT a z).symm.trans ha; cases this
  have rv := vals_ints hi
  have free : ∀ {b : Addr} {o : Obj}, st.heap.get? b = some o → o ≠ tabO → o ≠ lisO vs → lawH K cs a vs ns b = none := fun {b o} e h1 h2 =>
    lawH_off (fun z => h1 (Option.some.inj (e.symm.trans (inT b z)))) fun z => h2 (by rw [z.1] at e; exact Option.some.inj (e.symm.trans ha))
  have hok : HOk P w (lawH K cs a vs ns) st.heap := fun b u e => by
    by_cases hb : b ∈ cs.map (·.2)
    · rw [lawH_tab hb] at e; cases e; exact inT b hb
    · by_cases h2 : b = a ∧ (K.lookup a).isNone = true
      · obtain ⟨rfl, h3⟩ := h2
        rw [lawH_frz hb h3] at e; cases e
        exact ⟨ha, by rw [List.length_map]; exact hl, vs, _, rv, ha⟩
      · rw [lawH_off hb h2] at e; cases e
  have hS : SqL K (lawH K cs a vs ns) a (ns.map V.int) := by
    cases q : K.lookup a with
    | none => exact .inl (.inr ⟨_, lawH_frz aT (by rw [q]; rfl)⟩)
    | some o =>
      have e := (KX a o q).symm.trans ha
      cases e
      exact .inr ⟨_, vs.toArray, _, q, rfl, rfl, rfl, by rw [List.size_toArray, hi.length]; exact hl, by simpa using rv⟩
  have kb : K.In (hidT st.heap (lawH K cs a vs ns)) := fun b o e => hidT_get (KX b o e) (lawH_off (fun z => by
    obtain ⟨p, hp, rfl⟩ := List.mem_map.mp z
    rw [nT p hp] at e; cases e) fun z => by
    have h3 := z.2
    rw [← z.1, e] at h3; cases h3)
  have nsB : ∀ {b : Addr} {m : Str → Option Value}, st.heap.Ns b m → (hidT st.heap (lawH K cs a vs ns)).Ns b m := fun {b m} ⟨o, es, ep, e, d, r⟩ =>
    ⟨o, es, ep, hidT_get e (free e (fun z => by rw [z] at d; cases d) fun z => by rw [z] at d; cases d), d, r⟩
  have md : L2.Mod K mg (hidT st.heap (lawH K cs a vs ns)) := ⟨kb, nsB hns, ⟨mb, nsB hbn, hbb⟩, let ⟨mc, h1, h2⟩ := hlim; ⟨mc, nsB h1, h2⟩⟩
  have tb : ∀ p ∈ cs, LamX.TabB (hidT st.heap (lawH K cs a vs ns)) mg p.1 p.2 := fun p hp => by
    obtain ⟨o, us, file, tf, flags, tg, inF, text, tt, e1, r1, r2, r3, rest⟩ := C p hp
    obtain ⟨bm, ob, b1, b2, b3, b4, b5, b6⟩ := hbm
    refine ⟨⟨o, us, file, tf, flags, tg, inF, text, tt, hidT_get e1 (free e1 (fun z => ?_) fun z => ?_), r1, r2, r3, rest⟩, ⟨bm, ob, b1, b2, fun z => ?_, fun z => ?_, hidT_get b3 (free b3 (fun z => ?_) fun z => ?_), b4, b5, b6⟩, fun z => ?_⟩
    · rw [z] at r2; cases r2; simp at r3
    · rw [z] at r2; cases r2
    · obtain ⟨o2, es, ep, e2, d2, _⟩ := hns
      rw [z] at b3
      have := b3.symm.trans e2
      cases this
      rw [b6] at d2; cases d2
    · rw [z] at b3
      have := b3.symm.trans (hT p hp)
      cases this; cases b6
    · rw [z] at b6; cases b6
    · rw [z] at b6; cases b6
    · obtain ⟨o2, es, ep, e2, d2, _⟩ := hns
      rw [z] at e2
      have := e2.symm.trans (hT p hp)
      cases this; cases d2
  have env : Env0 P w K mg (hidT st.heap (lawH K cs a vs ns)) callerA [] st (lawH K cs a vs ns) := ⟨rfl, md, fun b o e => of_hidT e, Nat.le_of_eq (hidT_size _ _), trivial, (fun b hb => absurd (show b ∈ ([] : List Addr) from hb) (by simp)), hok, .of_eq hg⟩
  refine codeAny_mono ((F _ kb (nsB hns) tb).run callerA [] st _ ⟨[.ref a], []⟩ [.ref a] [.ref a] _ _ hr rfl env (hbind st (.ref a)) (.cons rfl .nil) (hsp _ (fun p hp => lawH_tab (List.mem_map.mpr ⟨p, hp, rfl⟩)) hS)) fun r s' h => ?_
  match r, h with
  | .error e, h => exact h.elim
  | .ok .next, h => exact h.elim
  | .ok .brk, h => exact h.elim
  | .ok .cont, h => exact h.elim
  | .ok (.ret u), ⟨v, H', os, bare, un, hok', r', q⟩ =>
    have q : v = .bl true := q
    subst q
    cases r'
    have kept : ∀ b o, b ∉ cs.map (·.2) → st.heap.get? b = some o → s'.heap.get? b = some o := fun b o nb e => by
      by_cases h2 : b = a ∧ (K.lookup a).isNone = true
      · obtain ⟨rfl, h3⟩ := h2
        obtain ⟨e2, _⟩ := hok' _ _ (un.frzs _ _ _ (lawH_frz nb h3))
        rw [ha] at e; cases e
        exact e2
      · exact un.keep b o e (lawH_off nb h2) (fun z => absurd (show b ∈ ([] : List Addr) from z) (by simp)) (by simp)
    have grown : ∀ b, b ∈ cs.map (·.2) → ∃ more : Array Value, s'.heap.get? b = some { cls := .none, data := .fields more } := fun b hb => by
      obtain ⟨more, z⟩ := un.tbls b #[] (lawH_tab hb)
      exact ⟨_, hok' b _ z⟩
    refine ⟨rfl, ⟨fun b o e => ?_, fun b o e => ?_⟩, os, bare⟩
    · by_cases hb : b ∈ cs.map (·.2)
      · obtain ⟨more, hm⟩ := grown b hb
        obtain ⟨p, hp, rfl⟩ := List.mem_map.mp hb
        have := e.symm.trans (hT p hp)
        cases this
        exact .inr (.inl ⟨((C p hp).tab (hT p hp)).isCodeTable, rfl, #[], more, rfl, by rw [Array.empty_append]; exact hm⟩)
      · exact .inl (kept b o hb e)
    · by_cases hb : b ∈ cs.map (·.2)
      · obtain ⟨more, hm⟩ := grown b hb
        exact ⟨_, hm⟩
      · exact ⟨o, kept b o hb e⟩
end
end DL
namespace DL
open PySem PySem.Spec PyProof.Rows L2 GA GxR
/-- what is known of the law at the head's heap -/
def LawAtG (l : PySem.W.OpenLaw) (w : World) (K : PySem.W.Frag) (k n : Nat) (x : Str) (mg : Str → Option Value) (fa : Addr) (h : Heap) : Prop :=
  ∃ (fd : FuncData) (cs : List (Addr × Addr)) (sp : Sp), ((∀ p ∈ cs, h.get? p.2 = some tabO) ∧ (∀ p ∈ cs, K.lookup p.2 = none) ∧ ∀ p ∈ cs, PySem.W.CodeHd h p.1 p.2) ∧ (∀ (s : Shared) (u : Value), BindsTo s fd ⟨[u], []⟩ [(x, u)]) ∧
    (∀ (H : Hp) (a : Addr) (ns : List Int), ns.length ≤ n → (∀ z ∈ ns, Builtin.Int.intBits z ≤ 1048576) → (∀ p ∈ cs, H p.2 = some (.tbl #[])) → SqL K H a (ns.map V.int) → sp [.ref a] H (fun v _ => v = .bl true) fun _ _ _ => False) ∧
    ∀ base : Heap, K.In base → base.Ns mainGlobals mg → (∀ p ∈ cs, LamX.TabB base mg p.1 p.2) → FnOkG l.prog w K mg base k fa fd [x] sp
theorem walk_ofG {l : PySem.W.OpenLaw} {n k : Nat} {q : Program} {loose : List Str} {XP : (Str → Option Value) → Heap → Prop} {YP : World → Heap → Prop} {d : DefRec} {x : Str} (hn : l.most = some n) (hn2 : n ≤ sizeLine) (hdf : d.params.defaults = []) (hr : Room k callerA)
    (F : ∀ (w : World) (mg : Str → Option Value) (fa : Addr) (h : Heap), YP w h → h.Ns mainGlobals mg → mg d.name = some (.ref fa) → ∃ K : PySem.W.Frag, K.In h ∧ LawAtG l w K k n x mg fa h) :
    PySem.W.WalkO q loose XP YP l.row.toRowW d [] (fun f vs => PySem.call f vs) := by
  refine Att.attach_callB hn hdf fun w s₀ s₁ mg mb fa o pm cd doc a vs ns G Y ho hd hcd hmg hobj hints hlen hbits hg => ?_
  obtain ⟨K, KX, fd, cs, sp, ⟨hT, nT, C⟩, hb, hsp, hF⟩ := F w mg fa _ Y G.T.g hmg
  exact law_runG KX G.T.g G.T.b G.T.builtins G.T.nolimit hg hT nT C G.T.bmain hobj hints (Nat.le_trans hlen hn2) hr hF hb fun H hH hS => hsp H a ns hlen hbits hH hS
end DL

namespace PL
open PySem PySem.Spec PyProof.Rows L2 GA GxR DL TM
theorem iT_wk {te : DTr} {δ : Sl} {m : M} {xs : List D} (h : ∀ R : DK, (R (.ktup xs) m) → te δ m R) : WkS m xs (iT te) δ := fun R hR => h _ ⟨xs, .inr rfl, hR _ m (Ext.refl m) fun _ _ => trivial⟩
/-- a dict comprehension whose parts change nothing -/
theorem dDC_gen {ws : DTI} {g : Tg} {tt : DTT} {tk te : DTr} {ow : List Nat} {δ : Sl} {m : M} {Q : DK} {xs : List D} (kf : D → Key) (vf : D → D) (hw : WkS m xs ws δ) (hz : xs.length ≤ 1000)
    (he : ∀ d ∈ xs, ∀ m', Ext m m' → ∀ (Ry : D → D → M → Prop) (Rn : M → Prop), Ry (kD (kf d)) (vf d) m' → gD g d (wipeD δ ow) fun δ2 => tt δ2 m' fun b m3 => if b = true then tk δ2 m3 fun y m4 => te δ2 m4 fun z m5 => Ry y z m5 else Rn m3)
    (hq : ∀ p m', m.mu p = none → Ext m m' → m'.mu p = some (.dic (xs.foldl (fun acc d => putD acc (kf d) (vf d)) [])) → Q (.ref p) m') : dDC ws g tt tk te ow δ m Q := by
  refine hw _ fun ok m1 hE hok p hp1 => ?_
  have hp : m.mu p = none := by
    cases e : m.mu p with
    | none => rfl
    | some o => rw [hE.old _ _ e] at hp1; cases hp1
  have flen : ∀ (l : List D) (acc : List (Key × D)), (l.foldl (fun acc d => putD acc (kf d) (vf d)) acc).length ≤ acc.length + l.length := by
    intro l
    induction l with
    | nil => exact fun _ => Nat.le_refl _
    | cons x l ih =>
      intro acc
      have h1 := ih (putD acc (kf x) (vf x))
      have h2 := putD_len (k := kf x) (v := vf x) (kvs := acc)
      rw [List.foldl_cons, List.length_cons]; omega
  refine ⟨fun i m' => Ext m1 m' ∧ m'.mu p = some (.dic ((xs.take i).foldl (fun acc d => putD acc (kf d) (vf d)) [])), ⟨Ext.new hp1, M.set_same⟩, fun i m' h => hok m' h.1, ?_, ?_⟩
  · rintro i d m' hd ⟨h1, h2⟩
    have l1 := flen (xs.take i) []
    rw [List.length_take] at l1
    refine he d (List.mem_of_getElem? hd) m' (hE.trans h1) _ _ ⟨_, kf d, rfl, h2, slk' (by simp at l1; omega), h1.set hp1, ?_⟩
    rw [take_snoc hd, List.foldl_append]; exact M.set_same
  · rintro m' ⟨h1, h2⟩
    rw [List.take_length] at h2
    exact hq p m' hp (hE.trans h1) h2
where
  slk' {n : Nat} (h : n ≤ 1000) : n < sizeLine := Nat.lt_of_le_of_lt h (by decide)
theorem slt {n : Nat} (h : n ≤ 1000) : n < sizeLine := Nat.lt_of_le_of_lt h (by decide)
/-! ### items by name and end -/
def itD (z : (Str × End) × List D) : D := .tup (.str z.1.1 :: endD z.1.2 :: z.2)
def gaI (l : List (Str × End)) : List ((Str × End) × List D) := l.map fun g => (g, [])
def siI (l : List (Str × End × Option Step)) : List ((Str × End) × List D) := l.map fun s => ((s.1, s.2.1), [ovD s.2.2])
theorem gaI_d (l : List (Str × End)) : (gaI l).map itD = l.map gaD := by unfold gaI; rw [List.map_map]; rfl
theorem siI_d (l : List (Str × End × Option Step)) : (siI l).map itD = l.map siD := by unfold siI; rw [List.map_map]; rfl
theorem gaI_1 (l : List (Str × End)) : (gaI l).map (·.1) = l := by unfold gaI; rw [List.map_map]; exact List.map_id l
theorem siI_1 (l : List (Str × End × Option Step)) : (siI l).map (·.1) = l.map fun s => (s.1, s.2.1) := by unfold siI; rw [List.map_map]; rfl
theorem it_ix0 {z : (Str × End) × List D} {m : M} {Q : DK} (q : Q (.str z.1.1) m) : rdIx (itD z) (.int 0) m Q := ⟨.str z.1.1, by
  have : (0 : Int) < ((D.str z.1.1 :: endD z.1.2 :: z.2).length : Int) := by simp only [List.length_cons]; omega
  unfold atI ixN
  rw [if_pos (by decide), if_pos this]; rfl, q⟩
theorem it_ix1 {z : (Str × End) × List D} {m : M} {Q : DK} (q : Q (endD z.1.2) m) : rdIx (itD z) (.int 1) m Q := ⟨endD z.1.2, by
  have : (1 : Int) < ((D.str z.1.1 :: endD z.1.2 :: z.2).length : Int) := by simp only [List.length_cons]; omega
  unfold atI ixN
  rw [if_pos (by decide), if_pos this]; rfl, q⟩
theorem it_cut {z : (Str × End) × List D} {m : M} {Q : DK} (q : Q (.tup [.str z.1.1, endD z.1.2]) m) : rdSlA (itD z) none (some 2) m Q := by
  show Q (.tup (cutL (D.str z.1.1 :: endD z.1.2 :: z.2) none (some 2))) m
  have : cutL (D.str z.1.1 :: endD z.1.2 :: z.2) none (some 2) = [D.str z.1.1, endD z.1.2] := by
    unfold cutL
    have h0 : HT.sIx (D.str z.1.1 :: endD z.1.2 :: z.2).length 0 none = 0 := rfl
    have h2 : HT.sIx (D.str z.1.1 :: endD z.1.2 :: z.2).length (D.str z.1.1 :: endD z.1.2 :: z.2).length (some 2) = 2 := by
      simp [HT.sIx]
    rw [h0, h2]; rfl
  rw [this]; exact q
/-! ### comparisons -/
theorem fine_non : Fine .non := ⟨rfl, Nat.zero_le _, rfl⟩
theorem fine_bl (b : Bool) : Fine (.bl b) := ⟨rfl, Nat.zero_le _, rfl⟩
theorem eqG {x y : D} {m : M} {Q : DK} {neg : Bool} (hx : Fine x) (hy : Fine y) (q : Q (.bl (if neg then !PyData.eqv x.py y.py else PyData.eqv x.py y.py)) m) : rdEqG neg x y m Q := ⟨_, _, .d hx.pure, .d hy.pure, shaped_d hx, shaped_d hy, q⟩
theorem neB {a b : Bool} {m : M} {Q : DK} (q : Q (.bl (!decide (a = b))) m) : rdEq true (.bl a) (.bl b) m Q := eqG (fine_bl a) (fine_bl b) (by
  have : PyData.eqv (D.bl a).py (D.bl b).py = decide (a = b) := by cases a <;> cases b <;> rfl
  rw [this]; exact q)
theorem neS {o : Option Str} {s : Str} {m : M} {Q : DK} (h : PyData.strOk s = true) (q : Q (.bl (!decide (o = some s))) m) : rdEq true (optS o) (.str s) m Q := by
  cases o with
  | none => exact eqG fine_non (Fine.str h) q
  | some t =>
    refine neT ?_
    have : decide (t = s) = decide (some t = some s) := by
      by_cases z : t = s
      · subst z; simp
      · simp [z]
    rw [this]; exact q
theorem fine_end {e : End} (h : endOk e) : Fine (endD e) := end_fine h
theorem neE {o : Option End} {e : End} {m : M} {Q : DK} (he : endOk e) (ho : ∀ f, o = some f → endOk f) (q : Q (.bl (!decide (o = some e))) m) : rdEq true (endD e) (optE o) m Q := by
  cases o with
  | none => exact eqG (end_fine he) fine_non q
  | some f =>
    refine eqG (end_fine he) (end_fine (ho f rfl)) ?_
    have : PyData.eqv (endD e).py (endD f).py = decide (some f = some e) := by
      rw [eqv_end]
      by_cases z : e = f
      · subst z; simp
      · have : ¬ f = e := fun y => z y.symm
        simp [z, this]
    show Q (.bl (!PyData.eqv (endD e).py (endD f).py)) m
    rw [this]; exact q
theorem strOk_plain : PyData.strOk "plain" = true := by decide +kernel
theorem flat_optS (o : Option Str) : flatD (optS o) = true := by cases o <;> rfl
/-- .. not in ("plain", "crossing") -/
def ovKind (o : Option Str) : Bool := decide (o = some ("plain" : Str)) || decide (o = some ("crossing" : Str))
theorem notOv {o : Option Str} {m : M} {Q : DK} (q : Q (.bl (!ovKind o)) m) : rdIn true (optS o) (.ktup [.str "plain", .str "crossing"]) m Q := by
  refine ⟨_, .inr (.inl rfl), flat_optS o, rfl, ?_⟩
  have : ([D.str "plain", D.str "crossing"].any fun d => eqFl d (optS o)) = ovKind o := by
    cases o with
    | none => rfl
    | some s =>
      simp only [List.any_cons, List.any_nil, Bool.or_false, optS, eqFl_str, ovKind, Option.some.injEq]
      have e : ∀ a : Str, (a == s) = decide (s = a) := fun a => by
        by_cases z : s = a
        · subst z; simp
        · have : ¬ a = s := fun y => z y.symm
          simp [z, this]
      rw [e, e]
  show Q (.bl (!([D.str "plain", D.str "crossing"].any fun d => eqFl d (optS o)))) m
  rw [this]; exact q
/-- a step among the ways of a stretch -/
def wayT (n : Str) (w : Int × Int) : D := .tup [.str n, .int w.1, .int w.2]
theorem eqv_way {n : Str} {w : Int × Int} {t : Step} (h : t.1 = n) : PyData.eqv (wayT n w).py (stepD t).py = decide (w = (t.2.1, t.2.2)) := by
  obtain ⟨w1, w2⟩ := w; obtain ⟨t1, t2, t3⟩ := t
  subst h
  show (t1 == t1 && ((w1 == t2) && ((w2 == t3) && true))) = _
  by_cases h1 : w1 = t2
  · subst h1
    by_cases h2 : w2 = t3
    · subst h2; simp
    · simp [h2]
  · simp [h1]
theorem way_fine {n : Str} {w : Int × Int} (h : nameS n = true) : Fine (wayT n w) := Fine.tup (fun d hd => by
  simp only [List.mem_cons, List.not_mem_nil, or_false] at hd
  rcases hd with rfl | rfl | rfl
  · exact Fine.str (name_sok h)
  · exact Fine.int _
  · exact Fine.int _) (fun d hd => by
  simp only [List.mem_cons, List.not_mem_nil, or_false] at hd
  rcases hd with rfl | rfl | rfl <;> exact Nat.zero_le _)
theorem inWays {t : Step} {k : Str} {a : Addr} {m : M} {Q : DK} (ht : stepOk t) (h : m.mu a = some (.lst ((waysK k).map (wayT t.1)))) (q : Q (.bl (decide ((t.2.1, t.2.2) ∈ waysK k))) m) : rdInD false (stepD t) (.ref a) m Q := by
  have hf : ∀ d ∈ (waysK k).map (wayT t.1), Fine d := fun d hd => by
    obtain ⟨w, _, rfl⟩ := List.mem_map.mp hd
    exact way_fine ht.1
  refine ⟨a, _, rfl, h, pures_of fun d hd => (hf d hd).pure, rfl, shaped_d (step_fine ht), shaped_l hf, ?_⟩
  have key : ∀ l : List (Int × Int), ((D.pys (l.map (wayT t.1))).any fun z => PyData.eqv z (stepD t).py) = decide ((t.2.1, t.2.2) ∈ l) := by
    intro l
    induction l with
    | nil => simp [D.pys]
    | cons w l ih =>
      show (PyData.eqv (wayT t.1 w).py (stepD t).py || (D.pys (l.map (wayT t.1))).any fun z => PyData.eqv z (stepD t).py) = _
      rw [ih, eqv_way rfl]
      by_cases z : w = (t.2.1, t.2.2)
      · subst z; simp
      · have : ¬ (t.2.1, t.2.2) = w := fun y => z y.symm
        simp [z, this]
  show Q (.bl ((D.pys ((waysK k).map (wayT t.1))).any fun z => PyData.eqv z (stepD t).py)) m
  rw [key]; exact q
/-! ### the written tables -/
def endsL : List (Str × D) := [("plain", .int 2), ("points", .int 3), ("crossing", .int 4)]
def wayK (w : Int × Int) : D := .ktup [.int w.1, .int w.2]
def pathsL : List (Str × D) := [("plain", .ktup ((waysK "plain").map wayK)), ("points", .ktup ((waysK "points").map wayK)), ("crossing", .ktup ((waysK "crossing").map wayK))]
theorem kind3 {k : Str} (h : kindS k = true) : k = "plain" ∨ k = "points" ∨ k = "crossing" := by
  unfold kindS at h
  simp only [Bool.or_eq_true, beq_iff_eq] at h
  rcases h with (h | h) | h
  · exact .inl h
  · exact .inr (.inl h)
  · exact .inr (.inr h)
theorem endsL_in {k : Str} (h : kindS k = true) : (k, D.int (nEnds k)) ∈ endsL := by
  rcases kind3 h with rfl | rfl | rfl
  · exact .head _
  · exact .tail _ (.head _)
  · exact .tail _ (.tail _ (.head _))
theorem pathsL_in {k : Str} (h : kindS k = true) : (k, D.ktup ((waysK k).map wayK)) ∈ pathsL := by
  rcases kind3 h with rfl | rfl | rfl
  · exact .head _
  · exact .tail _ (.head _)
  · exact .tail _ (.tail _ (.head _))
theorem wayK_inj {a b : Int × Int} (h : wayK a = wayK b) : a = b := by
  obtain ⟨a1, a2⟩ := a; obtain ⟨b1, b2⟩ := b
  unfold wayK at h; cases h; rfl
theorem waysK_len (k : Str) : (waysK k).length ≤ 4 := by
  unfold waysK
  by_cases h1 : k = "plain"
  · rw [if_pos h1]; decide
  · rw [if_neg h1]
    by_cases h2 : k = "points"
    · rw [if_pos h2]; decide
    · rw [if_neg h2]; decide
/-! ### what the checker's defs promise -/
def spWays : DSp := fun ds m Q => ∃ n k, ds = [.tup [.str n, .str k]] ∧ kindS k = true ∧ ∀ a m', m.mu a = none → Ext m m' → m'.mu a = some (.lst ((waysK k).map (wayT n))) → Q (.ref a) m'
def spKinds : DSp := fun ds m Q => ∃ p : Pln, ds = [p.d] ∧ p.Ok ∧ ∀ a m', m.mu a = none → Ext m m' → m'.mu a = some (.dic (kindsKV p.st)) → Q (.ref a) m'
def spParts : DSp := fun ds m Q => ∃ p : Pln, ds = [p.d] ∧ p.Ok ∧ ∀ a m', m.mu a = none → Ext m m' → m'.mu a = some (.dit (partKV p.jo)) → Q (.ref a) m'
def spExists : DSp := fun ds m Q => ∃ (a : Addr) (st : List (Str × Str)) (e : End), ds = [.ref a, endD e] ∧ m.mu a = some (.dic (kindsKV st)) ∧ (∀ s ∈ st, kindS s.2 = true) ∧ Q (.bl (endEx st e)) m
def spPlace : DSp := fun ds m Q => ∃ (p : Pln) (b : Bool) (l : List ((Str × End) × List D)), ds = [p.d, .tup (l.map itD), .bl b] ∧ p.Ok ∧ (∀ z ∈ l, nameS z.1.1 = true ∧ endOk z.1.2) ∧ l.length ≤ 20 ∧ ∀ m', Ext m m' → Q (optS (wpGo p.st p.jo b [] (l.map (·.1)))) m'
def spFits : DSp := fun ds m Q => ∃ (a : Addr) (st : List (Str × Str)) (o : Option End) (t : Step), ds = [.ref a, optE o, stepD t] ∧ m.mu a = some (.dic (kindsKV st)) ∧ (∀ s ∈ st, kindS s.2 = true) ∧ stepOk t ∧ (∀ f, o = some f → endOk f) ∧ ∀ m', Ext m m' → Q (.bl (fitsOv st o t)) m'
theorem getK {m : M} {a : Addr} {st : List (Str × Str)} (h : m.mu a = some (.dic (kindsKV st))) (n : Str) : GetD m a (.str n) ((kindAt st n).map D.str) := .inl ⟨_, .inr n, h, rfl, (kinds_val st n).symm⟩
theorem getP {m : M} {a : Addr} {jo : List (End × End)} (h : m.mu a = some (.dit (partKV jo))) (e : End) : GetD m a (endD e) ((partAt jo e).map endD) := .inr ⟨_, endK e, h, rfl, (part_val jo e).symm⟩
theorem optS_get (o : Option Str) : (o.map D.str).getD .non = optS o := by cases o <;> rfl
theorem optE_get (o : Option End) : (o.map endD).getD .non = optE o := by cases o <;> rfl
theorem partAt_in {jo : List (End × End)} {e f : End} (h : partAt jo e = some f) : ∃ j ∈ jo, (j.2 = e ∧ j.1 = f) ∨ (j.1 = e ∧ j.2 = f) := by
  have key : ∀ (l : List (End × End)) (o : Option End), l.foldl (fun acc j => if j.2 = e then some j.1 else if j.1 = e then some j.2 else acc) o = some f → o = some f ∨ ∃ j ∈ l, (j.2 = e ∧ j.1 = f) ∨ (j.1 = e ∧ j.2 = f) := by
    intro l
    induction l with
    | nil => exact fun _ h => .inl h
    | cons x l ih =>
      intro o h
      rw [List.foldl_cons] at h
      rcases ih _ h with z | ⟨j, hj, z⟩
      · by_cases e2 : x.2 = e
        · rw [if_pos e2] at z; cases z
          exact .inr ⟨x, List.mem_cons_self, .inl ⟨e2, rfl⟩⟩
        · rw [if_neg e2] at z
          by_cases e1 : x.1 = e
          · rw [if_pos e1] at z; cases z
            exact .inr ⟨x, List.mem_cons_self, .inr ⟨e1, rfl⟩⟩
          · rw [if_neg e1] at z; exact .inl z
      · exact .inr ⟨j, List.mem_cons_of_mem _ hj, z⟩
  rcases key jo none h with z | z
  · cases z
  · exact z
theorem partAt_ok {p : Pln} (hp : p.Ok) {e f : End} (h : partAt p.jo e = some f) : endOk f := by
  obtain ⟨j, hj, z⟩ := partAt_in h
  rcases z with ⟨_, rfl⟩ | ⟨_, rfl⟩
  · exact (hp.jo j hj).1
  · exact (hp.jo j hj).2
end PL
namespace PL
open PySem PySem.Spec PyProof.Rows L2 GA GxR DL TM
def kfS : D → Key
  | .tup (.str s :: _) => .inr s
  | _ => .inl 0
def vfS : D → D
  | .tup [_, v] => v
  | d => d
/-! ### items by name -/
def nmD (z : Str × List D) : D := .tup (.str z.1 :: z.2)
def allI (p : Pln) : List (Str × List D) := p.st.map (fun s => (s.1, [D.str s.2])) ++ p.ga.map (fun g => (g.1, [endD g.2])) ++ p.si.map fun s => (s.1, [endD s.2.1, ovD s.2.2])
theorem allI_d (p : Pln) : (allI p).map nmD = p.st.map strD ++ p.ga.map gaD ++ p.si.map siD := by
  unfold allI; rw [List.map_append, List.map_append, List.map_map, List.map_map, List.map_map]; rfl
theorem allI_1 (p : Pln) : (allI p).map (·.1) = p.nms := by
  unfold allI Pln.nms; rw [List.map_append, List.map_append, List.map_map, List.map_map, List.map_map]; rfl
theorem its_1 (p : Pln) : (gaI p.ga ++ siI p.si).map (·.1) = p.gs := by rw [List.map_append, gaI_1, siI_1]; rfl
theorem nm_ix0 {z : Str × List D} {m : M} {Q : DK} (q : Q (.str z.1) m) : rdIx (nmD z) (.int 0) m Q := ⟨.str z.1, by
  have : (0 : Int) < ((D.str z.1 :: z.2).length : Int) := by simp only [List.length_cons]; omega
  unfold atI ixN
  rw [if_pos (by decide), if_pos this]; rfl, q⟩
theorem drop_get {α : Type} {l : List α} {i : Nat} {x : α} (h : l[i]? = some x) : l.drop i = x :: l.drop (i + 1) := by
  obtain ⟨hi, e⟩ := List.getElem?_eq_some_iff.mp h
  rw [List.drop_eq_getElem_cons hi, e]
theorem drop_map {α β : Type} {l : List α} {f : α → β} {i : Nat} {x : α} (h : l[i]? = some x) : (l.map f).drop i = f x :: (l.map f).drop (i + 1) := drop_get (by rw [List.getElem?_map, h]; rfl)
theorem mem_inr {n : Str} {ks : List Str} (h : hasS (.inr n) (ks.map Sum.inr) = true) : n ∈ ks := by
  obtain ⟨y, hy, e⟩ := List.mem_map.mp (hasS_iff.mp h)
  rw [← key_str_inj e]; exact hy
theorem inr_mem {n : Str} {ks : List Str} (h : n ∈ ks) : hasS (.inr n) (ks.map Sum.inr) = true := hasS_iff.mpr (List.mem_map.mpr ⟨n, h, rfl⟩)
theorem mem_endK {e : End} {ks : List End} (h : hasL (endK e) (ks.map endK) = true) : e ∈ ks := by
  obtain ⟨y, hy, e'⟩ := List.mem_map.mp (hasL_iff.mp h)
  rw [← endK_inj e']; exact hy
theorem endK_mem {e : End} {ks : List End} (h : e ∈ ks) : hasL (endK e) (ks.map endK) = true := hasL_iff.mpr (List.mem_map.mpr ⟨e, h, rfl⟩)
theorem gaI_ok {p : Pln} (h : p.Ok) : ∀ z ∈ gaI p.ga, nameS z.1.1 = true ∧ endOk z.1.2 := fun z hz => by
  obtain ⟨g, hg, rfl⟩ := List.mem_map.mp hz
  exact h.ga g hg
theorem siI_ok {p : Pln} (h : p.Ok) : ∀ z ∈ siI p.si, nameS z.1.1 = true ∧ endOk z.1.2 := fun z hz => by
  obtain ⟨g, hg, rfl⟩ := List.mem_map.mp hz
  exact ⟨(h.si g hg).1, (h.si g hg).2.1⟩
def tagD (z : Str × Option Str) : D := .tup [.str z.1, optS z.2]
/-- asked of a plan, where the tables stand beside the store -/
def spPlT (Ok : M → Prop) (f : Pln → D) : DSp := fun ds m Q => ∃ p : Pln, ds = [p.d] ∧ (p.Ok ∧ Ok m) ∧ ∀ m', Ext m m' → Q (f p) m'
end PL
namespace PL
open PySem PySem.Spec PyProof.Rows L2 GA GxR DL TM
theorem dupGo_hit {ks l : List Str} {x : Str} (h : x ∈ ks) : dupGo ks (x :: l) = some x := by rw [dupGo]; exact if_pos h
theorem dupGo_miss {ks l : List Str} {x : Str} (h : x ∉ ks) : dupGo ks (x :: l) = dupGo (x :: ks) l := by rw [dupGo]; exact if_neg h
theorem wjGo_hit {ks : List End} {j : End × End} {l : List (End × End)} (h : j.1.1 = j.2.1 ∨ j.1 ∈ ks ∨ j.2 ∈ ks) : wjGo ks (j :: l) = some j.1.1 := by rw [wjGo]; exact if_pos h
theorem wjGo_miss {ks : List End} {j : End × End} {l : List (End × End)} (h : ¬ (j.1.1 = j.2.1 ∨ j.1 ∈ ks ∨ j.2 ∈ ks)) : wjGo ks (j :: l) = wjGo (j.2 :: j.1 :: ks) l := by rw [wjGo]; exact if_neg h
theorem wpGo_hit {st : List (Str × Str)} {jo : List (End × End)} {b : Bool} {ks : List End} {g : Str × End} {l : List (Str × End)} (h : (partAt jo g.2).isSome ≠ b ∨ g.2 ∈ ks ∨ kindAt st g.2.1 ≠ some ("plain" : Str)) : wpGo st jo b ks (g :: l) = some g.1 := by rw [wpGo]; exact if_pos h
theorem wpGo_miss {st : List (Str × Str)} {jo : List (End × End)} {b : Bool} {ks : List End} {g : Str × End} {l : List (Str × End)} (h : ¬ ((partAt jo g.2).isSome ≠ b ∨ g.2 ∈ ks ∨ kindAt st g.2.1 ≠ some ("plain" : Str))) : wpGo st jo b ks (g :: l) = wpGo st jo b (g.2 :: ks) l := by rw [wpGo]; exact if_neg h
theorem step_cut {t : Step} {m : M} {Q : DK} (q : Q (endD (t.1, t.2.1)) m) : rdSlA (stepD t) none (some 2) m Q := q
end PL

namespace PL
open PySem PySem.Spec PyProof.Rows L2 GA GxR DL TM
/-! ### plans without fault -/
def jends (jo : List (End × End)) : List End := jo.flatMap fun j => [j.1, j.2]
theorem mem_jends {jo : List (End × End)} {e : End} : e ∈ jends jo ↔ ∃ j ∈ jo, e = j.1 ∨ e = j.2 := by simp [jends]
theorem jends_cons (j : End × End) (l : List (End × End)) : jends (j :: l) = j.1 :: j.2 :: jends l := rfl
theorem jends_app (a b : List (End × End)) : jends (a ++ b) = jends a ++ jends b := by simp [jends]
structure Chk (p : Pln) : Prop where
  nd : p.nms.Nodup
  jex : ∀ j ∈ p.jo, endEx p.st j.1 = true ∧ endEx p.st j.2 = true
  gex : ∀ g ∈ p.gs, endEx p.st g.2 = true
  jne : ∀ j ∈ p.jo, j.1.1 ≠ j.2.1
  jnd : (jends p.jo).Nodup
  gend : ∀ g ∈ p.ga, g.2 ∉ jends p.jo ∧ kindAt p.st g.2.1 = some ("plain" : Str)
  gnd : (p.ga.map (·.2)).Nodup
  send : ∀ g ∈ p.gs2, g.2 ∈ jends p.jo ∧ kindAt p.st g.2.1 = some ("plain" : Str)
  snd : (p.gs2.map (·.2)).Nodup
  ov : ∀ s ∈ p.si, badOv p s = false
theorem dup_none {ks l : List Str} : dupGo ks l = none ↔ l.Nodup ∧ ∀ x ∈ l, x ∉ ks := by
  induction l generalizing ks with
  | nil => simp [dupGo]
  | cons x l ih =>
    by_cases h : x ∈ ks
    · rw [dupGo_hit h]; simp [h]
    · rw [dupGo_miss h, ih, List.nodup_cons]
      constructor
      · rintro ⟨h1, h2⟩
        refine ⟨⟨fun z => (h2 x z) List.mem_cons_self, h1⟩, fun y hy => ?_⟩
        rcases List.mem_cons.mp hy with rfl | hy
        · exact h
        · exact fun z => h2 y hy (List.mem_cons_of_mem _ z)
      · rintro ⟨⟨h1, h2⟩, h3⟩
        refine ⟨h2, fun y hy z => ?_⟩
        rcases List.mem_cons.mp z with rfl | z
        · exact h1 hy
        · exact h3 y (List.mem_cons_of_mem _ hy) z
theorem wj_none {ks : List End} {l : List (End × End)} : wjGo ks l = none ↔ (∀ j ∈ l, j.1.1 ≠ j.2.1) ∧ (jends l).Nodup ∧ ∀ e ∈ jends l, e ∉ ks := by
  induction l generalizing ks with
  | nil => simp [wjGo, jends]
  | cons j l ih =>
    by_cases h : j.1.1 = j.2.1 ∨ j.1 ∈ ks ∨ j.2 ∈ ks
    · rw [wjGo_hit h, jends_cons]
      refine ⟨fun z => (by cases z), fun ⟨h1, _, h3⟩ => ?_⟩
      rcases h with h | h | h
      · exact absurd h (h1 j List.mem_cons_self)
      · exact absurd h (h3 _ List.mem_cons_self)
      · exact absurd h (h3 _ (List.mem_cons_of_mem _ List.mem_cons_self))
    · rw [wjGo_miss h, ih, jends_cons]
      have n1 : j.1.1 ≠ j.2.1 := fun z => h (.inl z)
      have n2 : j.1 ∉ ks := fun z => h (.inr (.inl z))
      have n3 : j.2 ∉ ks := fun z => h (.inr (.inr z))
      have n4 : j.1 ≠ j.2 := fun z => n1 (by rw [z])
      simp only [List.forall_mem_cons]
      simp only [List.nodup_cons, List.mem_cons, not_or]
      constructor
      · rintro ⟨h1, h2, h3⟩
        exact ⟨⟨n1, h1⟩, ⟨⟨n4, fun z => (h3 _ z).2.1 rfl⟩, fun z => (h3 _ z).1 rfl, h2⟩, n2, n3, fun e he => (h3 e he).2.2⟩
      · rintro ⟨⟨_, h1⟩, ⟨⟨_, h2⟩, h3, h4⟩, _, _, h5⟩
        exact ⟨h1, h4, fun e he => ⟨fun z => h3 (z ▸ he), fun z => h2 (z ▸ he), h5 e he⟩⟩
theorem wp_none {st : List (Str × Str)} {jo : List (End × End)} {b : Bool} {ks : List End} {l : List (Str × End)} : wpGo st jo b ks l = none ↔ (∀ g ∈ l, (partAt jo g.2).isSome = b ∧ kindAt st g.2.1 = some ("plain" : Str)) ∧ (l.map (·.2)).Nodup ∧ ∀ g ∈ l, g.2 ∉ ks := by
  induction l generalizing ks with
  | nil => simp [wpGo]
  | cons g l ih =>
    by_cases h : (partAt jo g.2).isSome ≠ b ∨ g.2 ∈ ks ∨ kindAt st g.2.1 ≠ some ("plain" : Str)
    · rw [wpGo_hit h]
      refine ⟨fun z => (by cases z), fun ⟨h1, _, h3⟩ => ?_⟩
      rcases h with h | h | h
      · exact absurd (h1 g List.mem_cons_self).1 h
      · exact absurd h (h3 _ List.mem_cons_self)
      · exact absurd (h1 g List.mem_cons_self).2 h
    · rw [wpGo_miss h, ih]
      have n1 : (partAt jo g.2).isSome = b := Classical.byContradiction fun z => h (.inl z)
      have n2 : g.2 ∉ ks := fun z => h (.inr (.inl z))
      have n3 : kindAt st g.2.1 = some ("plain" : Str) := Classical.byContradiction fun z => h (.inr (.inr z))
      rw [List.map_cons, List.nodup_cons]
      constructor
      · rintro ⟨h1, h2, h3⟩
        refine ⟨fun x hx => ?_, ⟨fun z => ?_, h2⟩, fun x hx => ?_⟩
        · rcases List.mem_cons.mp hx with rfl | hx
          · exact ⟨n1, n3⟩
          · exact h1 x hx
        · obtain ⟨x, hx, e⟩ := List.mem_map.mp z
          exact h3 x hx (by rw [e]; exact List.mem_cons_self)
        · rcases List.mem_cons.mp hx with rfl | hx
          · exact n2
          · exact fun z => h3 x hx (List.mem_cons_of_mem _ z)
      · rintro ⟨h1, ⟨h2, h3⟩, h4⟩
        refine ⟨fun x hx => h1 x (List.mem_cons_of_mem _ hx), h3, fun x hx z => ?_⟩
        rcases List.mem_cons.mp z with z | z
        · exact h2 (List.mem_map.mpr ⟨x, hx, z⟩)
        · exact h4 x (List.mem_cons_of_mem _ hx) z
theorem part_some {jo : List (End × End)} {e : End} : (partAt jo e).isSome = true ↔ e ∈ jends jo := by
  have key : ∀ (l : List (End × End)) (o : Option End), (l.foldl (fun acc j => if j.2 = e then some j.1 else if j.1 = e then some j.2 else acc) o).isSome = true ↔ o.isSome = true ∨ e ∈ jends l := by
    intro l
    induction l with
    | nil => intro o; simp [jends]
    | cons j l ih =>
      intro o
      rw [List.foldl_cons, ih, jends_cons, List.mem_cons, List.mem_cons]
      by_cases h2 : j.2 = e
      · rw [if_pos h2]; simp [h2]
      · rw [if_neg h2]
        by_cases h1 : j.1 = e
        · rw [if_pos h1]; simp [h1]
        · rw [if_neg h1]
          have h1' : ¬ e = j.1 := fun z => h1 z.symm
          have h2' : ¬ e = j.2 := fun z => h2 z.symm
          simp [h1', h2']
  have := key jo none
  simpa [partAt] using this
theorem part_none {jo : List (End × End)} {e : End} : (partAt jo e).isSome = false ↔ e ∉ jends jo := by
  rw [← part_some (jo := jo)]; simp
theorem or_none {α : Type} {a b : Option α} : a.or b = none ↔ a = none ∧ b = none := by cases a <;> simp
theorem miss_none {p : Pln} : missEnd p = none ↔ (∀ j ∈ p.jo, endEx p.st j.1 = true ∧ endEx p.st j.2 = true) ∧ ∀ g ∈ p.gs, endEx p.st g.2 = true := by
  unfold missEnd
  rw [or_none, Option.map_eq_none_iff, Option.map_eq_none_iff, List.find?_eq_none, List.find?_eq_none]
  simp
theorem ov_none {p : Pln} : wrongOv p = none ↔ ∀ s ∈ p.si, badOv p s = false := by
  unfold wrongOv
  rw [Option.map_eq_none_iff, List.find?_eq_none]; simp
theorem fault_none {p : Pln} : faultP p = none ↔ dupGo [] p.nms = none ∧ missEnd p = none ∧ wjGo [] p.jo = none ∧ wpGo p.st p.jo false [] p.ga = none ∧ wpGo p.st p.jo true [] p.gs2 = none ∧ wrongOv p = none := by
  unfold faultP
  cases dupGo [] p.nms with
  | some _ => simp [firstTag]
  | none =>
    cases missEnd p with
    | some _ => simp [firstTag]
    | none =>
      cases wjGo [] p.jo with
      | some _ => simp [firstTag]
      | none =>
        cases wpGo p.st p.jo false [] p.ga with
        | some _ => simp [firstTag]
        | none =>
          cases wpGo p.st p.jo true [] p.gs2 with
          | some _ => simp [firstTag]
          | none => cases wrongOv p <;> simp [firstTag]
theorem chk_iff {p : Pln} : faultP p = none ↔ Chk p := by
  rw [fault_none, dup_none, miss_none, wj_none, wp_none, wp_none, ov_none]
  constructor
  · rintro ⟨⟨a1, _⟩, ⟨b1, b2⟩, ⟨c1, c2, _⟩, ⟨d1, d2, _⟩, ⟨e1, e2, _⟩, f⟩
    exact ⟨a1, b1, b2, c1, c2, fun g hg => ⟨part_none.mp (d1 g hg).1, (d1 g hg).2⟩, d2, fun g hg => ⟨part_some.mp (e1 g hg).1, (e1 g hg).2⟩, e2, f⟩
  · rintro ⟨a1, b1, b2, c1, c2, d1, d2, e1, e2, f⟩
    exact ⟨⟨a1, by simp⟩, ⟨b1, b2⟩, ⟨c1, c2, by simp⟩, ⟨fun g hg => ⟨part_none.mpr (d1 g hg).1, (d1 g hg).2⟩, d2, by simp⟩, ⟨fun g hg => ⟨part_some.mpr (e1 g hg).1, (e1 g hg).2⟩, e2, by simp⟩, f⟩
/-! ### the fault is of the first kind that has one -/
theorem f_name {p : Pln} {n : Str} (h : dupGo [] p.nms = some n) : faultP p = some (("name" : Str), n) := by unfold faultP; rw [h]; rfl
theorem f_end {p : Pln} {n : Str} (h0 : dupGo [] p.nms = none) (h : missEnd p = some n) : faultP p = some (("end" : Str), n) := by unfold faultP; rw [h0, h]; rfl
theorem f_joint {p : Pln} {n : Str} (h0 : dupGo [] p.nms = none) (h1 : missEnd p = none) (h : wjGo [] p.jo = some n) : faultP p = some (("joint" : Str), n) := by unfold faultP; rw [h0, h1, h]; rfl
theorem f_gate {p : Pln} {n : Str} (h0 : dupGo [] p.nms = none) (h1 : missEnd p = none) (h2 : wjGo [] p.jo = none) (h : wpGo p.st p.jo false [] p.ga = some n) : faultP p = some (("gate" : Str), n) := by unfold faultP; rw [h0, h1, h2, h]; rfl
theorem f_signal {p : Pln} {n : Str} (h0 : dupGo [] p.nms = none) (h1 : missEnd p = none) (h2 : wjGo [] p.jo = none) (h3 : wpGo p.st p.jo false [] p.ga = none) (h : wpGo p.st p.jo true [] p.gs2 = some n) : faultP p = some (("signal" : Str), n) := by unfold faultP; rw [h0, h1, h2, h3, h]; rfl
theorem f_overlap {p : Pln} {n : Str} (h0 : dupGo [] p.nms = none) (h1 : missEnd p = none) (h2 : wjGo [] p.jo = none) (h3 : wpGo p.st p.jo false [] p.ga = none) (h4 : wpGo p.st p.jo true [] p.gs2 = none) (h : wrongOv p = some n) : faultP p = some (("overlap" : Str), n) := by unfold faultP; rw [h0, h1, h2, h3, h4, h]; rfl
/-! ### walks over what has something more -/
theorem wp_app {st : List (Str × Str)} {jo : List (End × End)} {b : Bool} {l1 l2 : List (Str × End)} : ∀ {ks : List End}, wpGo st jo b ks l1 = none → wpGo st jo b ks (l1 ++ l2) = wpGo st jo b ((l1.map (·.2)).reverse ++ ks) l2 := by
  induction l1 with
  | nil => intro ks _; rfl
  | cons g l ih =>
    intro ks h
    by_cases hc : (partAt jo g.2).isSome ≠ b ∨ g.2 ∈ ks ∨ kindAt st g.2.1 ≠ some ("plain" : Str)
    · rw [wpGo_hit hc] at h; cases h
    · rw [wpGo_miss hc] at h
      rw [List.cons_append, wpGo_miss hc, ih h, List.map_cons, List.reverse_cons, List.append_assoc]; rfl
theorem wp_more {st : List (Str × Str)} {jo : List (End × End)} {b : Bool} {e : End} {l : List (Str × End)} : ∀ {ks : List End}, wpGo st jo b ks l = none → ∀ ks' : List End, (∀ x, x ∈ ks' ↔ x = e ∨ x ∈ ks) → wpGo st jo b ks' l = (l.find? fun g => decide (g.2 = e)).map (·.1) := by
  induction l with
  | nil => intro ks _ ks' _; rfl
  | cons g l ih =>
    intro ks h ks' hk
    by_cases hc : (partAt jo g.2).isSome ≠ b ∨ g.2 ∈ ks ∨ kindAt st g.2.1 ≠ some ("plain" : Str)
    · rw [wpGo_hit hc] at h; cases h
    · rw [wpGo_miss hc] at h
      by_cases he : g.2 = e
      · rw [wpGo_hit (.inr (.inl ((hk _).mpr (.inl he)))), List.find?_cons, decide_eq_true he]; rfl
      · have hc' : ¬ ((partAt jo g.2).isSome ≠ b ∨ g.2 ∈ ks' ∨ kindAt st g.2.1 ≠ some ("plain" : Str)) := by
          rintro (z | z | z)
          · exact hc (.inl z)
          · rcases (hk _).mp z with z | z
            · exact he z
            · exact hc (.inr (.inl z))
          · exact hc (.inr (.inr z))
        rw [wpGo_miss hc', List.find?_cons, decide_eq_false he]
        refine ih h _ fun x => ?_
        simp only [List.mem_cons, hk]
        constructor
        · rintro (z | z | z)
          · exact .inr (.inl z)
          · exact .inl z
          · exact .inr (.inr z)
        · rintro (z | z | z)
          · exact .inr (.inl z)
          · exact .inl z
          · exact .inr (.inr z)
/-- one more at place k -/
def insA {α : Type} (l : List α) (k : Nat) (x : α) : List α := l.take k ++ x :: l.drop k
theorem insA_mem {α : Type} {l : List α} {k : Nat} {x y : α} : y ∈ insA l k x ↔ y = x ∨ y ∈ l := by
  unfold insA
  rw [List.mem_append, List.mem_cons]
  constructor
  · rintro (h | h | h)
    · exact .inr (List.mem_of_mem_take h)
    · exact .inl h
    · exact .inr (List.mem_of_mem_drop h)
  · rintro (h | h)
    · exact .inr (.inl h)
    · have h : y ∈ l.take k ++ l.drop k := by rw [List.take_append_drop]; exact h
      rcases List.mem_append.mp h with h | h
      · exact .inl h
      · exact .inr (.inr h)
theorem insA_perm {α : Type} (l : List α) (k : Nat) (x : α) : (insA l k x).Perm (x :: l) := by
  have h : (l.take k ++ x :: l.drop k).Perm (x :: (l.take k ++ l.drop k)) := List.perm_middle
  rw [List.take_append_drop] at h; exact h
theorem insA_map {α β : Type} (f : α → β) (l : List α) (k : Nat) (x : α) : (insA l k x).map f = insA (l.map f) k (f x) := by
  unfold insA; rw [List.map_append, List.map_cons, List.map_take, List.map_drop]
theorem insA_len {α : Type} (l : List α) (k : Nat) (x : α) : (insA l k x).length = l.length + 1 := (insA_perm l k x).length_eq
theorem wp_ins {st : List (Str × Str)} {jo : List (End × End)} {b : Bool} {l : List (Str × End)} (h : wpGo st jo b [] l = none) (k : Nat) (n : Str) (e : End) :
    wpGo st jo b [] (insA l k (n, e)) = if (partAt jo e).isSome ≠ b ∨ e ∈ (l.take k).map (·.2) ∨ kindAt st e.1 ≠ some ("plain" : Str) then some n else ((l.drop k).find? fun g => decide (g.2 = e)).map (·.1) := by
  have h1 : wpGo st jo b [] (l.take k) = none := by
    rw [wp_none] at h ⊢
    exact ⟨fun g hg => h.1 g (List.mem_of_mem_take hg), by rw [List.map_take]; exact h.2.1.sublist (List.take_sublist _ _), by simp⟩
  have h2 : wpGo st jo b (((l.take k).map (·.2)).reverse ++ []) (l.drop k) = none := by
    rw [← wp_app h1, List.take_append_drop]; exact h
  unfold insA
  rw [wp_app h1]
  by_cases hc : (partAt jo e).isSome ≠ b ∨ e ∈ (l.take k).map (·.2) ∨ kindAt st e.1 ≠ some ("plain" : Str)
  · rw [if_pos hc, wpGo_hit]
    simpa using hc
  · rw [if_neg hc, wpGo_miss (by simpa using hc)]
    exact wp_more (e := e) h2 _ fun x => by simp
theorem wj_app {l1 l2 : List (End × End)} : ∀ {ks : List End}, wjGo ks l1 = none → ∃ ks', (∀ x, x ∈ ks' ↔ x ∈ jends l1 ∨ x ∈ ks) ∧ wjGo ks (l1 ++ l2) = wjGo ks' l2 := by
  induction l1 with
  | nil => intro ks _; exact ⟨ks, by simp [jends], rfl⟩
  | cons j l ih =>
    intro ks h
    by_cases hc : j.1.1 = j.2.1 ∨ j.1 ∈ ks ∨ j.2 ∈ ks
    · rw [wjGo_hit hc] at h; cases h
    · rw [wjGo_miss hc] at h
      obtain ⟨ks', h1, h2⟩ := ih h
      refine ⟨ks', fun x => ?_, by rw [List.cons_append, wjGo_miss hc, h2]⟩
      rw [h1, jends_cons]
      simp only [List.mem_cons]
      constructor
      · rintro (z | z | z | z)
        · exact .inl (.inr (.inr z))
        · exact .inl (.inr (.inl z))
        · exact .inl (.inl z)
        · exact .inr z
      · rintro ((z | z | z) | z)
        · exact .inr (.inr (.inl z))
        · exact .inr (.inl z)
        · exact .inl z
        · exact .inr (.inr (.inr z))
theorem wj_more {a b : End} {l : List (End × End)} : ∀ {ks : List End}, wjGo ks l = none → ∀ ks' : List End, (∀ x, x ∈ ks' ↔ x = a ∨ x = b ∨ x ∈ ks) → wjGo ks' l = (l.find? fun j => decide (j.1 = a ∨ j.2 = a ∨ j.1 = b ∨ j.2 = b)).map fun j => j.1.1 := by
  induction l with
  | nil => intro ks _ ks' _; rfl
  | cons j l ih =>
    intro ks h ks' hk
    by_cases hc : j.1.1 = j.2.1 ∨ j.1 ∈ ks ∨ j.2 ∈ ks
    · rw [wjGo_hit hc] at h; cases h
    · rw [wjGo_miss hc] at h
      by_cases he : j.1 = a ∨ j.2 = a ∨ j.1 = b ∨ j.2 = b
      · rw [wjGo_hit, List.find?_cons, decide_eq_true he]
        · rfl
        · rcases he with z | z | z | z
          · exact .inr (.inl ((hk _).mpr (.inl z)))
          · exact .inr (.inr ((hk _).mpr (.inl z)))
          · exact .inr (.inl ((hk _).mpr (.inr (.inl z))))
          · exact .inr (.inr ((hk _).mpr (.inr (.inl z))))
      · have hc' : ¬ (j.1.1 = j.2.1 ∨ j.1 ∈ ks' ∨ j.2 ∈ ks') := by
          rintro (z | z | z)
          · exact hc (.inl z)
          · rcases (hk _).mp z with z | z | z
            · exact he (.inl z)
            · exact he (.inr (.inr (.inl z)))
            · exact hc (.inr (.inl z))
          · rcases (hk _).mp z with z | z | z
            · exact he (.inr (.inl z))
            · exact he (.inr (.inr (.inr z)))
            · exact hc (.inr (.inr z))
        rw [wjGo_miss hc', List.find?_cons, decide_eq_false he]
        refine ih h _ fun x => ?_
        simp only [List.mem_cons, hk]
        constructor
        · rintro (z | z | z | z | z)
          · exact .inr (.inr (.inl z))
          · exact .inr (.inr (.inr (.inl z)))
          · exact .inl z
          · exact .inr (.inl z)
          · exact .inr (.inr (.inr (.inr z)))
        · rintro (z | z | z | z | z)
          · exact .inr (.inr (.inl z))
          · exact .inr (.inr (.inr (.inl z)))
          · exact .inl z
          · exact .inr (.inl z)
          · exact .inr (.inr (.inr (.inr z)))
theorem wj_ins {l : List (End × End)} (h : wjGo [] l = none) (k : Nat) (a b : End) :
    wjGo [] (insA l k (a, b)) = if a.1 = b.1 ∨ a ∈ jends (l.take k) ∨ b ∈ jends (l.take k) then some a.1 else ((l.drop k).find? fun j => decide (j.1 = a ∨ j.2 = a ∨ j.1 = b ∨ j.2 = b)).map fun j => j.1.1 := by
  have e : jends l = jends (l.take k) ++ jends (l.drop k) := by rw [← jends_app, List.take_append_drop]
  have h1 : wjGo [] (l.take k) = none := by
    rw [wj_none] at h ⊢
    rw [e] at h
    exact ⟨fun g hg => h.1 g (List.mem_of_mem_take hg), (List.nodup_append.mp h.2.1).1, by simp⟩
  obtain ⟨ks', k1, k2⟩ := wj_app (l2 := l.drop k) h1
  obtain ⟨ks2, k3, k4⟩ := wj_app (l2 := (a, b) :: l.drop k) h1
  rw [List.take_append_drop, h] at k2
  unfold insA
  rw [k4]
  by_cases hc : a.1 = b.1 ∨ a ∈ jends (l.take k) ∨ b ∈ jends (l.take k)
  · rw [if_pos hc, wjGo_hit]
    rcases hc with z | z | z
    · exact .inl z
    · exact .inr (.inl ((k3 _).mpr (.inl z)))
    · exact .inr (.inr ((k3 _).mpr (.inl z)))
  · rw [if_neg hc, wjGo_miss]
    · refine wj_more (a := a) (b := b) k2.symm _ fun x => ?_
      simp only [List.mem_cons, k3, k1]
      constructor
      · rintro (z | z | z | z)
        · exact .inr (.inl z)
        · exact .inl z
        · exact .inr (.inr (.inl z))
        · cases z
      · rintro (z | z | z | z)
        · exact .inr (.inl z)
        · exact .inl z
        · exact .inr (.inr (.inl z))
        · cases z
    · rintro (z | z | z)
      · exact hc (.inl z)
      · rcases (k3 _).mp z with z | z
        · exact hc (.inr (.inl z))
        · cases z
      · rcases (k3 _).mp z with z | z
        · exact hc (.inr (.inr z))
        · cases z
end PL

namespace PL
open PySem PySem.Spec PyProof.Rows L2 GA GxR DL TM
theorem Chk.stnd {p : Pln} (h : Chk p) : (p.st.map (·.1)).Nodup := by
  have := h.nd
  unfold Pln.nms at this
  rw [List.append_assoc] at this
  exact (List.nodup_append.mp this).1
theorem kind_iff {st : List (Str × Str)} (nd : (st.map (·.1)).Nodup) {n k : Str} : kindAt st n = some k ↔ (n, k) ∈ st := by
  refine ⟨kindAt_ok, fun h => ?_⟩
  have key : ∀ (l : List (Str × Str)) (o : Option Str), (l.map (·.1)).Nodup → (n, k) ∈ l → l.foldl (fun acc x => if x.1 = n then some x.2 else acc) o = some k := by
    intro l
    induction l with
    | nil => intro o _ h; cases h
    | cons x l ih =>
      intro o nd h
      rw [List.map_cons, List.nodup_cons] at nd
      rw [List.foldl_cons]
      rcases List.mem_cons.mp h with h | h
      · subst h
        rw [if_pos rfl]
        have : ∀ (l : List (Str × Str)) (o : Option Str), n ∉ l.map (·.1) → l.foldl (fun acc x => if x.1 = n then some x.2 else acc) o = o := by
          intro l
          induction l with
          | nil => intro o _; rfl
          | cons y l ih =>
            intro o hn
            rw [List.map_cons, List.mem_cons, not_or] at hn
            rw [List.foldl_cons, if_neg fun z => hn.1 z.symm]
            exact ih _ hn.2
        exact this l _ nd.1
      · exact ih _ nd.2 h
  exact key st none nd h
theorem kind_congr {st st' : List (Str × Str)} (nd : (st.map (·.1)).Nodup) (nd' : (st'.map (·.1)).Nodup) {n : Str} (h : ∀ k, (n, k) ∈ st ↔ (n, k) ∈ st') : kindAt st n = kindAt st' n := by
  apply Option.ext
  intro k
  rw [kind_iff nd, kind_iff nd', h]
theorem endEx_congr {st st' : List (Str × Str)} {e : End} (h : kindAt st e.1 = kindAt st' e.1) : endEx st e = endEx st' e := by unfold endEx; rw [h]
theorem gs_eq (p : Pln) : p.gs = p.ga ++ p.gs2 := rfl
theorem gs2_map (p : Pln) : p.gs2.map (·.1) = p.si.map (·.1) := by unfold Pln.gs2; rw [List.map_map]; rfl
/-! ### fewer gates, fewer signals -/
theorem Chk.sub {p : Pln} (h : Chk p) {ga' : List (Str × End)} {si' : List (Str × End × Option Step)} (h1 : ga'.Sublist p.ga) (h2 : si'.Sublist p.si) : Chk ⟨p.st, p.jo, ga', si'⟩ where
  nd := h.nd.sublist ((List.Sublist.append ((List.Sublist.refl _).append (h1.map _)) (h2.map _)))
  jex := h.jex
  gex := fun g hg => h.gex g ((h1.append (h2.map fun s => (s.1, s.2.1))).subset hg)
  jne := h.jne
  jnd := h.jnd
  gend := fun g hg => h.gend g (h1.subset hg)
  gnd := h.gnd.sublist (h1.map _)
  send := fun g hg => h.send g ((h2.map fun s => (s.1, s.2.1)).subset hg)
  snd := h.snd.sublist ((h2.map fun s : Str × End × Option Step => (s.1, s.2.1)).map _)
  ov := fun s hs => h.ov s (h2.subset hs)
/-! ### a joint less -/
theorem jends_erase {jo : List (End × End)} {i : Nat} {j : End × End} (hj : jo[i]? = some j) (nd : (jends jo).Nodup) {e : End} : e ∈ jends (jo.eraseIdx i) ↔ e ∈ jends jo ∧ e ≠ j.1 ∧ e ≠ j.2 := by
  obtain ⟨hi, ej⟩ := List.getElem?_eq_some_iff.mp hj
  have e1 : jo = jo.take i ++ j :: jo.drop (i + 1) := by
    conv => lhs; rw [← List.take_append_drop i jo, List.drop_eq_getElem_cons hi, ej]
  have e2 : jo.eraseIdx i = jo.take i ++ jo.drop (i + 1) := List.eraseIdx_eq_take_drop_succ ..
  rw [e2]
  have e3 : jends jo = jends (jo.take i) ++ (j.1 :: j.2 :: jends (jo.drop (i + 1))) := by conv => lhs; rw [e1, jends_app, jends_cons]
  rw [e3] at nd ⊢
  rw [jends_app]
  obtain ⟨n1, n2, n3⟩ := List.nodup_append.mp nd
  rw [List.nodup_cons, List.nodup_cons, List.mem_cons, not_or] at n2
  simp only [List.mem_append, List.mem_cons]
  constructor
  · rintro (h | h)
    · exact ⟨.inl h, n3 e h _ List.mem_cons_self, n3 e h _ (List.mem_cons_of_mem _ List.mem_cons_self)⟩
    · exact ⟨.inr (.inr (.inr h)), fun z => n2.1.2 (z ▸ h), fun z => n2.2.1 (z ▸ h)⟩
  · rintro ⟨h | h | h | h, h1, h2⟩
    · exact .inl h
    · exact (h1 h).elim
    · exact (h2 h).elim
    · exact .inr h
theorem part_iff {jo : List (End × End)} (nd : (jends jo).Nodup) {e f : End} : partAt jo e = some f ↔ ∃ j ∈ jo, (j.2 = e ∧ j.1 = f) ∨ (j.1 = e ∧ j.2 = f) := by
  refine ⟨partAt_in, fun ⟨j, hj, hz⟩ => ?_⟩
  have hs : (partAt jo e).isSome = true := part_some.mpr (mem_jends.mpr ⟨j, hj, by rcases hz with ⟨z, _⟩ | ⟨z, _⟩ <;> simp [z]⟩)
  obtain ⟨f', hf⟩ := Option.isSome_iff_exists.mp hs
  obtain ⟨j', hj', hz'⟩ := partAt_in hf
  have uniq : ∀ (l : List (End × End)), (jends l).Nodup → j ∈ l → j' ∈ l → ∀ x : End, (x = j.1 ∨ x = j.2) → (x = j'.1 ∨ x = j'.2) → j = j' := by
    intro l
    induction l with
    | nil => intro _ h; cases h
    | cons y l ih =>
      intro nd h1 h2 x x1 x2
      rw [jends_cons, List.nodup_cons, List.nodup_cons, List.mem_cons, not_or] at nd
      have notin : ∀ z ∈ l, ∀ x : End, (x = y.1 ∨ x = y.2) → (x = z.1 ∨ x = z.2) → False := fun z hz x a b => by
        have : x ∈ jends l := mem_jends.mpr ⟨z, hz, b⟩
        rcases a with rfl | rfl
        · exact nd.1.2 this
        · exact nd.2.1 this
      rcases List.mem_cons.mp h1 with e1 | k1
      · rcases List.mem_cons.mp h2 with e2 | k2
        · rw [e1, e2]
        · exact (notin j' k2 x (by rw [← e1]; exact x1) x2).elim
      · rcases List.mem_cons.mp h2 with e2 | k2
        · exact (notin j k1 x (by rw [← e2]; exact x2) x1).elim
        · exact ih nd.2.2 k1 k2 x x1 x2
  have ej : j = j' := uniq jo nd hj hj' e (by rcases hz with ⟨z, _⟩ | ⟨z, _⟩ <;> simp [z]) (by rcases hz' with ⟨z, _⟩ | ⟨z, _⟩ <;> simp [z])
  subst ej
  have hne : j.1 ≠ j.2 := by
    intro z
    have : ∀ l : List (End × End), (jends l).Nodup → j ∈ l → False := by
      intro l
      induction l with
      | nil => intro _ h; cases h
      | cons y l ih =>
        intro nd h
        rw [jends_cons, List.nodup_cons, List.nodup_cons, List.mem_cons, not_or] at nd
        rcases List.mem_cons.mp h with h | h
        · subst h; exact nd.1.1 z
        · exact ih nd.2.2 h
    exact this jo nd hj
  rw [hf]
  rcases hz with ⟨a, b⟩ | ⟨a, b⟩ <;> rcases hz' with ⟨c, d⟩ | ⟨c, d⟩
  · rw [← d, b]
  · exact (hne (c.trans a.symm)).elim
  · exact (hne (a.trans c.symm)).elim
  · rw [← d, b]
theorem jends_sub {jo jo' : List (End × End)} (h : ∀ j ∈ jo', j ∈ jo) {e : End} (he : e ∈ jends jo') : e ∈ jends jo := by
  obtain ⟨j, hj, z⟩ := mem_jends.mp he
  exact mem_jends.mpr ⟨j, h j hj, z⟩
theorem part_sub {jo jo' : List (End × End)} (nd : (jends jo).Nodup) (nd' : (jends jo').Nodup) (h : ∀ j ∈ jo', j ∈ jo) {e : End} (he : e ∈ jends jo') : partAt jo e = partAt jo' e := by
  obtain ⟨f, hf⟩ := Option.isSome_iff_exists.mp (part_some.mpr he)
  rw [hf, part_iff nd]
  obtain ⟨j, hj, z⟩ := (part_iff nd').mp hf
  exact ⟨j, h j hj, z⟩
theorem jends_subl {jo jo' : List (End × End)} (h : jo'.Sublist jo) : (jends jo').Sublist (jends jo) := by
  unfold jends
  induction h with
  | slnil => exact List.Sublist.refl _
  | cons a h ih => rw [List.flatMap_cons]; exact ih.trans (List.sublist_append_right _ _)
  | cons_cons a h ih => rw [List.flatMap_cons, List.flatMap_cons]; exact (List.Sublist.refl _).append ih
theorem jends_nodup_sub {jo jo' : List (End × End)} (h : jo'.Sublist jo) (nd : (jends jo).Nodup) : (jends jo').Nodup := nd.sublist (jends_subl h)
theorem badOv_congr {p p' : Pln} {s : Str × End × Option Step} (h1 : ∀ t, s.2.2 = some t → kindAt p.st t.1 = kindAt p'.st t.1) (h2 : partAt p.jo s.2.1 = partAt p'.jo s.2.1) : badOv p s = badOv p' s := by
  unfold badOv
  cases h : s.2.2 with
  | none => rfl
  | some t => dsimp only; unfold fitsOv; rw [h1 t h, h2]
theorem wp_find {st : List (Str × Str)} {jo jo' : List (End × End)} {l : List (Str × End)} (bad : Str × End → Bool) : ∀ {ks : List End}, wpGo st jo true ks l = none → (∀ g ∈ l, (partAt jo' g.2).isSome = !bad g) → wpGo st jo' true ks l = (l.find? bad).map (·.1) := by
  induction l with
  | nil => intro ks _ _; rfl
  | cons g l ih =>
    intro ks h hb
    by_cases hc : (partAt jo g.2).isSome ≠ true ∨ g.2 ∈ ks ∨ kindAt st g.2.1 ≠ some ("plain" : Str)
    · rw [wpGo_hit hc] at h; cases h
    · rw [wpGo_miss hc] at h
      have hg := hb g List.mem_cons_self
      cases e : bad g with
      | true =>
        rw [e] at hg
        rw [wpGo_hit (.inl (by rw [hg]; decide)), List.find?_cons, e]; rfl
      | false =>
        rw [e] at hg
        rw [wpGo_miss, List.find?_cons, e]
        · exact ih h fun x hx => hb x (List.mem_cons_of_mem _ hx)
        · rintro (z | z | z)
          · exact z (by rw [hg]; rfl)
          · exact hc (.inr (.inl z))
          · exact hc (.inr (.inr z))
def tag (w : Str) (o : Option Str) : Option (Str × Str) := o.map fun n => (w, n)
theorem Chk.cutj {p : Pln} (h : Chk p) {i : Nat} {j : End × End} (hj : p.jo[i]? = some j) :
    faultP ⟨p.st, p.jo.eraseIdx i, p.ga, p.si⟩ = tag "signal" ((p.gs2.find? fun g => decide (g.2 = j.1 ∨ g.2 = j.2)).map (·.1)) := by
  have hsub : (p.jo.eraseIdx i).Sublist p.jo := List.eraseIdx_sublist _ _
  have hf := fault_none.mp (chk_iff.mpr h)
  have nd' := jends_nodup_sub hsub h.jnd
  have f1 : missEnd ⟨p.st, p.jo.eraseIdx i, p.ga, p.si⟩ = none := miss_none.mpr ⟨fun x hx => h.jex x (hsub.subset hx), h.gex⟩
  have f2 : wjGo [] (p.jo.eraseIdx i) = none := wj_none.mpr ⟨fun x hx => h.jne x (hsub.subset hx), nd', by simp⟩
  have f3 : wpGo p.st (p.jo.eraseIdx i) false [] p.ga = none := wp_none.mpr ⟨fun g hg => ⟨part_none.mpr fun z => (h.gend g hg).1 (jends_sub (fun x hx => hsub.subset hx) z), (h.gend g hg).2⟩, h.gnd, by simp⟩
  have f4 := wp_find (jo' := p.jo.eraseIdx i) (fun g => decide (g.2 = j.1 ∨ g.2 = j.2)) hf.2.2.2.2.1 fun g hg => by
    have m := (h.send g hg).1
    by_cases z : g.2 = j.1 ∨ g.2 = j.2
    · rw [decide_eq_true z, Bool.not_true, part_none, jends_erase hj h.jnd]
      rintro ⟨_, a, b⟩
      exact z.elim a b
    · rw [decide_eq_false z, Bool.not_false, part_some, jends_erase hj h.jnd]
      exact ⟨m, fun y => z (.inl y), fun y => z (.inr y)⟩
  cases e : p.gs2.find? fun g => decide (g.2 = j.1 ∨ g.2 = j.2) with
  | some g => rw [e] at f4; exact f_signal hf.1 f1 f2 f3 f4
  | none =>
    rw [e] at f4
    refine fault_none.mpr ⟨hf.1, f1, f2, f3, f4, ov_none.mpr fun s hs => ?_⟩
    have hg : (s.1, s.2.1) ∈ p.gs2 := List.mem_map.mpr ⟨s, hs, rfl⟩
    have hn := List.find?_eq_none.mp e _ hg
    have hn : ¬ (s.2.1 = j.1 ∨ s.2.1 = j.2) := by simpa using hn
    rw [← h.ov s hs]
    refine badOv_congr (p := ⟨p.st, p.jo.eraseIdx i, p.ga, p.si⟩) (p' := p) (fun _ _ => rfl) ?_
    refine (part_sub h.jnd nd' (fun x hx => hsub.subset hx) ?_).symm
    rw [jends_erase hj h.jnd]
    exact ⟨(h.send _ hg).1, fun y => hn (.inl y), fun y => hn (.inr y)⟩
/-! ### a stretch less -/
theorem endEx_kind {st : List (Str × Str)} {e : End} (h : endEx st e = true) : ∃ k, kindAt st e.1 = some k := by
  unfold endEx at h
  cases z : kindAt st e.1 with
  | none => rw [z] at h; cases h
  | some k => exact ⟨k, rfl⟩
theorem find_map {α β : Type} (f : α → β) (p : α → Bool) (l : List α) : (l.find? p).map f = ((l.filter p).map f).head? := by
  rw [List.head?_map, List.head?_filter]
theorem fits_kind {st : List (Str × Str)} {o : Option End} {t : Step} (h : fitsOv st o t = true) : o = some (t.1, t.2.1) := by
  unfold fitsOv at h
  simp only [Bool.and_eq_true, decide_eq_true_eq] at h
  exact h.1
theorem Chk.cuts {p : Pln} (h : Chk p) {i : Nat} {s : Str × Str} (hs : p.st[i]? = some s) :
    faultP ⟨p.st.eraseIdx i, p.jo, p.ga, p.si⟩ = tag "end" (((p.jo.filter fun j => decide (s.1 = j.1.1 ∨ s.1 = j.2.1)).map (fun j => j.1.1) ++ (p.ga.filter fun g => decide (g.2.1 = s.1)).map (·.1)).head?) := by
  have hsub : (p.st.eraseIdx i).Sublist p.st := List.eraseIdx_sublist _ _
  have hf := fault_none.mp (chk_iff.mpr h)
  have nd := h.stnd
  have nd' : ((p.st.eraseIdx i).map (·.1)).Nodup := nd.sublist (hsub.map _)
  have mem : ∀ x : Str × Str, x ∈ p.st.eraseIdx i ↔ x ∈ p.st ∧ x.1 ≠ s.1 := by
    obtain ⟨hi, es⟩ := List.getElem?_eq_some_iff.mp hs
    have e1 : p.st = p.st.take i ++ s :: p.st.drop (i + 1) := by
      conv => lhs; rw [← List.take_append_drop i p.st, List.drop_eq_getElem_cons hi, es]
    have e2 : p.st.eraseIdx i = p.st.take i ++ p.st.drop (i + 1) := List.eraseIdx_eq_take_drop_succ ..
    intro x
    rw [e1, List.map_append, List.map_cons] at nd
    obtain ⟨_, n2, n3⟩ := List.nodup_append.mp nd
    rw [List.nodup_cons] at n2
    rw [e2]
    conv => rhs; rw [e1]
    simp only [List.mem_append, List.mem_cons]
    constructor
    · rintro (z | z)
      · exact ⟨.inl z, n3 _ (List.mem_map.mpr ⟨x, z, rfl⟩) _ List.mem_cons_self⟩
      · exact ⟨.inr (.inr z), fun y => n2.1 (y ▸ List.mem_map.mpr ⟨x, z, rfl⟩)⟩
    · rintro ⟨z | z | z, y⟩
      · exact .inl z
      · exact (y (by rw [z])).elim
      · exact .inr z
  have kn : ∀ n, n ≠ s.1 → kindAt (p.st.eraseIdx i) n = kindAt p.st n := fun n hn => kind_congr nd' nd fun k => by
    rw [mem]; exact ⟨fun z => z.1, fun z => ⟨z, hn⟩⟩
  have ks : kindAt (p.st.eraseIdx i) s.1 = none := by
    cases z : kindAt (p.st.eraseIdx i) s.1 with
    | none => rfl
    | some k => exact (((mem _).mp (kindAt_ok z)).2 rfl).elim
  have ex : ∀ e : End, endEx p.st e = true → endEx (p.st.eraseIdx i) e = !decide (e.1 = s.1) := fun e he => by
    by_cases z : e.1 = s.1
    · rw [decide_eq_true z]; unfold endEx; rw [z, ks]; rfl
    · rw [decide_eq_false z, endEx_congr (kn _ z), he]; rfl
  have f0 : dupGo [] (Pln.nms ⟨p.st.eraseIdx i, p.jo, p.ga, p.si⟩) = none := dup_none.mpr ⟨h.nd.sublist (((hsub.map _).append (List.Sublist.refl _)).append (List.Sublist.refl _)), by simp⟩
  have fj : (p.jo.find? fun j => !endEx (p.st.eraseIdx i) j.1 || !endEx (p.st.eraseIdx i) j.2) = p.jo.find? fun j => decide (s.1 = j.1.1 ∨ s.1 = j.2.1) := by
    refine find_congr fun j hj => ?_
    have := h.jex j hj
    rw [ex _ this.1, ex _ this.2]
    rw [Bool.not_not, Bool.not_not, Bool.eq_iff_iff]
    simp only [Bool.or_eq_true, decide_eq_true_eq]
    exact ⟨fun z => z.imp Eq.symm Eq.symm, fun z => z.imp Eq.symm Eq.symm⟩
  have fme : missEnd ⟨p.st.eraseIdx i, p.jo, p.ga, p.si⟩ = ((p.jo.find? fun j => decide (s.1 = j.1.1 ∨ s.1 = j.2.1)).map fun j => j.1.1).or ((p.gs.find? fun g => decide (g.2.1 = s.1)).map (·.1)) := by
    unfold missEnd
    dsimp only
    rw [fj]
    congr 2
    refine find_congr fun g hg => ?_
    rw [ex _ (h.gex g hg), Bool.not_not]
  cases ej : p.jo.find? fun j => decide (s.1 = j.1.1 ∨ s.1 = j.2.1) with
  | some j =>
    rw [ej] at fme
    rw [f_end f0 (show missEnd _ = some j.1.1 from fme)]
    have := find_map (fun j : End × End => j.1.1) (fun j => decide (s.1 = j.1.1 ∨ s.1 = j.2.1)) p.jo
    rw [ej] at this
    rw [List.head?_append, ← this]; rfl
  | none =>
    rw [ej] at fme
    have hnoj := List.find?_eq_none.mp ej
    have hno : ∀ e ∈ jends p.jo, e.1 ≠ s.1 := fun e he z => by
      obtain ⟨j, hj, w⟩ := mem_jends.mp he
      refine hnoj j hj (decide_eq_true ?_)
      rcases w with rfl | rfl
      · exact .inl z.symm
      · exact .inr z.symm
    have e0 := find_map (fun j : End × End => j.1.1) (fun j => decide (s.1 = j.1.1 ∨ s.1 = j.2.1)) p.jo
    rw [ej] at e0
    rw [List.head?_append, ← e0]
    show _ = tag "end" ((p.ga.filter fun g => decide (g.2.1 = s.1)).map (·.1)).head?
    rw [← find_map]
    have egs : p.gs.find? (fun g => decide (g.2.1 = s.1)) = p.ga.find? fun g => decide (g.2.1 = s.1) := by
      rw [gs_eq, List.find?_append]
      have : p.gs2.find? (fun g => decide (g.2.1 = s.1)) = none := List.find?_eq_none.mpr fun g hg => by
        have := hno _ (h.send g hg).1
        simpa using this
      rw [this, Option.or_none]
    rw [egs] at fme
    cases eg : p.ga.find? fun g => decide (g.2.1 = s.1) with
    | some g =>
      rw [eg] at fme
      exact f_end f0 fme
    | none =>
      rw [eg] at fme
      have hnog := List.find?_eq_none.mp eg
      refine fault_none.mpr ⟨f0, fme, hf.2.2.1, wp_none.mpr ⟨fun g hg => ⟨part_none.mpr (h.gend g hg).1, ?_⟩, h.gnd, by simp⟩, wp_none.mpr ⟨fun g hg => ⟨part_some.mpr (h.send g hg).1, ?_⟩, h.snd, by simp⟩, ov_none.mpr fun x hx => ?_⟩
      · have : g.2.1 ≠ s.1 := by simpa using hnog g hg
        show kindAt (p.st.eraseIdx i) _ = _
        rw [kn _ this]; exact (h.gend g hg).2
      · show kindAt (p.st.eraseIdx i) _ = _
        rw [kn _ (hno _ (h.send g hg).1)]; exact (h.send g hg).2
      · have hb := h.ov x hx
        cases ho : x.2.2 with
        | none => unfold badOv; rw [ho]
        | some t =>
          rw [← hb]
          refine badOv_congr (p := ⟨p.st.eraseIdx i, p.jo, p.ga, p.si⟩) (p' := p) (fun t' ht' => ?_) rfl
          rw [ho] at ht'; cases ht'
          unfold badOv at hb
          rw [ho] at hb
          have hb : fitsOv p.st (partAt p.jo x.2.1) t = true := by simpa using hb
          obtain ⟨j, hj, z⟩ := partAt_in (fits_kind hb)
          have : ((t.1, t.2.1) : End) ∈ jends p.jo := mem_jends.mpr ⟨j, hj, by rcases z with ⟨_, z⟩ | ⟨_, z⟩ <;> simp [z]⟩
          exact kn _ (hno _ this)
where
  find_congr {α : Type} {l : List α} {f g : α → Bool} (h : ∀ x ∈ l, f x = g x) : l.find? f = l.find? g := by
    induction l with
    | nil => rfl
    | cons x l ih =>
      rw [List.find?_cons, List.find?_cons, h x List.mem_cons_self, ih fun y hy => h y (List.mem_cons_of_mem _ hy)]
end PL

namespace PL
open PySem PySem.Spec PyProof.Rows L2 GA GxR DL TM
/-! ### a name that stands twice -/
theorem dup_at {l : List Str} : ∀ {ks : List Str} {y : Str}, dupGo ks l = some y → y ∈ ks ∧ y ∈ l ∨ 2 ≤ l.count y := by
  induction l with
  | nil => intro ks y h; cases h
  | cons x l ih =>
    intro ks y h
    by_cases hx : x ∈ ks
    · rw [dupGo_hit hx] at h; cases h
      exact .inl ⟨hx, List.mem_cons_self⟩
    · rw [dupGo_miss hx] at h
      rcases ih h with ⟨a, b⟩ | c
      · rcases List.mem_cons.mp a with rfl | a
        · refine .inr ?_
          rw [List.count_cons_self]
          have := List.one_le_count_iff.mpr b
          omega
        · exact .inl ⟨a, List.mem_cons_of_mem _ b⟩
      · refine .inr ?_
        rw [List.count_cons]; omega
theorem dup_ins {l l' : List Str} {x : Str} (nd : l.Nodup) (hp : l'.Perm (x :: l)) (hx : x ∈ l) : dupGo [] l' = some x := by
  cases e : dupGo [] l' with
  | none =>
    have := (dup_none.mp e).1
    rw [hp.nodup_iff, List.nodup_cons] at this
    exact (this.1 hx).elim
  | some y =>
    rcases dup_at e with ⟨a, _⟩ | c
    · cases a
    · rw [hp.count_eq, List.count_cons] at c
      have h1 := List.nodup_iff_count.mp nd y
      by_cases z : x = y
      · rw [z]
      · have : (x == y) = false := by simpa using z
        rw [this] at c
        simp at c; omega
theorem nms_perm0 (p : Pln) (k : Nat) (s : Str × Str) : (Pln.nms ⟨insA p.st k s, p.jo, p.ga, p.si⟩).Perm (s.1 :: p.nms) := by
  unfold Pln.nms
  exact (((insA_perm p.st k s).map (·.1)).append_right _).append_right _
theorem nms_perm2 (p : Pln) (k : Nat) (s : Str × End) : (Pln.nms ⟨p.st, p.jo, insA p.ga k s, p.si⟩).Perm (s.1 :: p.nms) := by
  unfold Pln.nms
  have h := (((insA_perm p.ga k s).map (·.1)).append_left (p.st.map (·.1)))
  refine (h.append_right (p.si.map (·.1))).trans ?_
  rw [List.map_cons, List.append_assoc, List.cons_append]
  exact List.perm_middle.trans (by rw [List.append_assoc])
theorem nms_perm3 (p : Pln) (k : Nat) (s : Str × End × Option Step) : (Pln.nms ⟨p.st, p.jo, p.ga, insA p.si k s⟩).Perm (s.1 :: p.nms) := by
  unfold Pln.nms
  refine (((insA_perm p.si k s).map (·.1)).append_left _).trans ?_
  rw [List.map_cons]
  exact List.perm_middle
theorem Chk.newN {p : Pln} (h : Chk p) {n : Str} (hn : n ∉ p.nms) {l : List Str} (hp : l.Perm (n :: p.nms)) : dupGo [] l = none := dup_none.mpr ⟨hp.nodup_iff.mpr (List.nodup_cons.mpr ⟨hn, h.nd⟩), by simp⟩
theorem Chk.oldN {p : Pln} (h : Chk p) {n : Str} (hn : n ∈ p.nms) {l : List Str} (hp : l.Perm (n :: p.nms)) : dupGo [] l = some n := dup_ins h.nd hp hn
/-! ### a stretch more -/
theorem Chk.inst {p : Pln} (h : Chk p) {n : Str} (hn : n ∉ p.nms) (kd : Str) (k : Nat) : Chk ⟨insA p.st k (n, kd), p.jo, p.ga, p.si⟩ := by
  have f0 := h.newN hn (nms_perm0 p k (n, kd))
  have nd' : ((insA p.st k (n, kd)).map (·.1)).Nodup := by
    have := (dup_none.mp f0).1
    unfold Pln.nms at this
    rw [List.append_assoc] at this
    exact (List.nodup_append.mp this).1
  have hf := fault_none.mp (chk_iff.mpr h)
  have ne_of : ∀ {m kk : Str}, kindAt p.st m = some kk → m ≠ n := fun {m kk} hm z => hn (by
    subst z
    unfold Pln.nms
    exact List.mem_append_left _ (List.mem_append_left _ (List.mem_map.mpr ⟨_, kindAt_ok hm, rfl⟩)))
  have kn : ∀ {m kk : Str}, kindAt p.st m = some kk → kindAt (insA p.st k (n, kd)) m = kindAt p.st m := fun {m kk} hm => kind_congr nd' h.stnd fun y => by
    rw [insA_mem]
    exact ⟨fun z => z.elim (fun z => (ne_of hm (by cases z; rfl)).elim) id, .inr⟩
  have ex : ∀ e : End, endEx p.st e = true → endEx (insA p.st k (n, kd)) e = true := fun e he => by
    obtain ⟨kk, hk⟩ := endEx_kind he
    rw [endEx_congr (kn hk)]; exact he
  refine chk_iff.mp (fault_none.mpr ⟨f0, miss_none.mpr ⟨fun j hj => ⟨ex _ (h.jex j hj).1, ex _ (h.jex j hj).2⟩, fun g hg => ex _ (h.gex g hg)⟩, hf.2.2.1, wp_none.mpr ⟨fun g hg => ⟨part_none.mpr (h.gend g hg).1, ?_⟩, h.gnd, by simp⟩, wp_none.mpr ⟨fun g hg => ⟨part_some.mpr (h.send g hg).1, ?_⟩, h.snd, by simp⟩, ov_none.mpr fun x hx => ?_⟩)
  · exact (kn (h.gend g hg).2).trans (h.gend g hg).2
  · exact (kn (h.send g hg).2).trans (h.send g hg).2
  · have hb := h.ov x hx
    cases ho : x.2.2 with
    | none => unfold badOv; rw [ho]
    | some t =>
      rw [← hb]
      refine badOv_congr (p := ⟨insA p.st k (n, kd), p.jo, p.ga, p.si⟩) (p' := p) (fun t' ht' => ?_) rfl
      rw [ho] at ht'; cases ht'
      unfold badOv at hb
      rw [ho] at hb
      have hb : fitsOv p.st (partAt p.jo x.2.1) t = true := by simpa using hb
      unfold fitsOv at hb
      cases hk : kindAt p.st t.1 with
      | none => rw [hk] at hb; simp at hb
      | some kk => exact (kn hk).trans hk
/-! ### a joint more -/
theorem jends_ins (l : List (End × End)) (k : Nat) (a b : End) {e : End} : e ∈ jends (insA l k (a, b)) ↔ e = a ∨ e = b ∨ e ∈ jends l := by
  simp only [mem_jends, insA_mem]
  constructor
  · rintro ⟨j, rfl | hj, z⟩
    · exact z.elim .inl fun z => .inr (.inl z)
    · exact .inr (.inr ⟨j, hj, z⟩)
  · rintro (rfl | rfl | ⟨j, hj, z⟩)
    · exact ⟨_, .inl rfl, .inl rfl⟩
    · exact ⟨_, .inl rfl, .inr rfl⟩
    · exact ⟨j, .inr hj, z⟩
def joinFault (p : Pln) (k : Nat) (a b : End) : Option (Str × Str) :=
  if a.1 = b.1 ∨ a ∈ jends (p.jo.take k) ∨ b ∈ jends (p.jo.take k) then some (("joint" : Str), a.1)
  else match (p.jo.drop k).find? fun j => decide (j.1 = a ∨ j.2 = a ∨ j.1 = b ∨ j.2 = b) with
    | some j => some (("joint" : Str), j.1.1)
    | none => tag "gate" ((p.ga.find? fun g => decide (g.2 = a ∨ g.2 = b)).map (·.1))
theorem wp_findF {st : List (Str × Str)} {jo jo' : List (End × End)} {l : List (Str × End)} (bad : Str × End → Bool) : ∀ {ks : List End}, wpGo st jo false ks l = none → (∀ g ∈ l, (partAt jo' g.2).isSome = bad g) → wpGo st jo' false ks l = (l.find? bad).map (·.1) := by
  induction l with
  | nil => intro ks _ _; rfl
  | cons g l ih =>
    intro ks h hb
    by_cases hc : (partAt jo g.2).isSome ≠ false ∨ g.2 ∈ ks ∨ kindAt st g.2.1 ≠ some ("plain" : Str)
    · rw [wpGo_hit hc] at h; cases h
    · rw [wpGo_miss hc] at h
      have hg := hb g List.mem_cons_self
      cases e : bad g with
      | true =>
        rw [e] at hg
        rw [wpGo_hit (.inl (by rw [hg]; decide)), List.find?_cons, e]; rfl
      | false =>
        rw [e] at hg
        rw [wpGo_miss, List.find?_cons, e]
        · exact ih h fun x hx => hb x (List.mem_cons_of_mem _ hx)
        · rintro (z | z | z)
          · exact z hg
          · exact hc (.inr (.inl z))
          · exact hc (.inr (.inr z))
theorem Chk.injo {p : Pln} (h : Chk p) (k : Nat) {a b : End} (ha : endEx p.st a = true) (hb : endEx p.st b = true) : faultP ⟨p.st, insA p.jo k (a, b), p.ga, p.si⟩ = joinFault p k a b := by
  have hf := fault_none.mp (chk_iff.mpr h)
  have f1 : missEnd ⟨p.st, insA p.jo k (a, b), p.ga, p.si⟩ = none := miss_none.mpr ⟨fun j hj => by
    rcases insA_mem.mp hj with rfl | hj
    · exact ⟨ha, hb⟩
    · exact h.jex j hj, h.gex⟩
  have f2 := wj_ins hf.2.2.1 k a b
  unfold joinFault
  by_cases hc : a.1 = b.1 ∨ a ∈ jends (p.jo.take k) ∨ b ∈ jends (p.jo.take k)
  · rw [if_pos hc] at f2 ⊢
    exact f_joint hf.1 f1 f2
  · rw [if_neg hc] at f2 ⊢
    cases e : (p.jo.drop k).find? fun j => decide (j.1 = a ∨ j.2 = a ∨ j.1 = b ∨ j.2 = b) with
    | some j => rw [e] at f2; exact f_joint hf.1 f1 f2
    | none =>
      rw [e] at f2
      have hab : a ∉ jends p.jo ∧ b ∉ jends p.jo := by
        have key : ∀ x : End, x = a ∨ x = b → x ∉ jends p.jo := fun x hx z => by
          have e2 : jends p.jo = jends (p.jo.take k) ++ jends (p.jo.drop k) := by rw [← jends_app, List.take_append_drop]
          rw [e2] at z
          rcases List.mem_append.mp z with z | z
          · rcases hx with rfl | rfl
            · exact hc (.inr (.inl z))
            · exact hc (.inr (.inr z))
          · obtain ⟨j, hj, w⟩ := mem_jends.mp z
            refine List.find?_eq_none.mp e j hj (decide_eq_true ?_)
            rcases hx with rfl | rfl <;> rcases w with w | w <;> simp [w]
        exact ⟨key a (.inl rfl), key b (.inr rfl)⟩
      have f3 := wp_findF (jo' := insA p.jo k (a, b)) (fun g => decide (g.2 = a ∨ g.2 = b)) hf.2.2.2.1 fun g hg => by
        rw [Bool.eq_iff_iff, part_some, jends_ins, decide_eq_true_eq]
        exact ⟨fun z => z.elim .inl fun z => z.elim .inr fun z => ((h.gend g hg).1 z).elim, fun z => z.elim .inl fun z => .inr (.inl z)⟩
      dsimp only
      cases eg : p.ga.find? fun g => decide (g.2 = a ∨ g.2 = b) with
      | some g => rw [eg] at f3; exact f_gate hf.1 f1 f2 f3
      | none =>
        rw [eg] at f3
        have nd' : (jends (insA p.jo k (a, b))).Nodup := (wj_none.mp f2).2.1
        refine fault_none.mpr ⟨hf.1, f1, f2, f3, wp_none.mpr ⟨fun g hg => ⟨part_some.mpr ((jends_ins ..).mpr (.inr (.inr (h.send g hg).1))), (h.send g hg).2⟩, h.snd, by simp⟩, ov_none.mpr fun x hx => ?_⟩
        rw [← h.ov x hx]
        exact badOv_congr (p := ⟨p.st, insA p.jo k (a, b), p.ga, p.si⟩) (p' := p) (fun _ _ => rfl) (part_sub nd' h.jnd (fun j hj => insA_mem.mpr (.inr hj)) (h.send _ (List.mem_map.mpr ⟨x, hx, rfl⟩)).1)
/-! ### a gate more -/
def gateFault (p : Pln) (k : Nat) (n : Str) (e : End) : Option (Str × Str) :=
  if e ∈ jends p.jo ∨ e ∈ (p.ga.take k).map (·.2) ∨ kindAt p.st e.1 ≠ some ("plain" : Str) then some (("gate" : Str), n)
  else tag "gate" (((p.ga.drop k).find? fun g => decide (g.2 = e)).map (·.1))
theorem Chk.inga {p : Pln} (h : Chk p) (k : Nat) {n : Str} {e : End} (hn : n ∉ p.nms) (he : endEx p.st e = true) : faultP ⟨p.st, p.jo, insA p.ga k (n, e), p.si⟩ = gateFault p k n e := by
  have hf := fault_none.mp (chk_iff.mpr h)
  have f0 := h.newN hn (nms_perm2 p k (n, e))
  have f1 : missEnd ⟨p.st, p.jo, insA p.ga k (n, e), p.si⟩ = none := miss_none.mpr ⟨h.jex, fun g hg => by
    have hg : g ∈ insA p.ga k (n, e) ++ p.gs2 := hg
    rcases List.mem_append.mp hg with hg | hg
    · rcases insA_mem.mp hg with rfl | hg
      · exact he
      · exact h.gex g (List.mem_append_left _ hg)
    · exact h.gex g (List.mem_append_right _ hg)⟩
  have f3 := wp_ins hf.2.2.2.1 k n e
  have hc' : ((partAt p.jo e).isSome ≠ false ∨ e ∈ (p.ga.take k).map (·.2) ∨ kindAt p.st e.1 ≠ some ("plain" : Str)) ↔ (e ∈ jends p.jo ∨ e ∈ (p.ga.take k).map (·.2) ∨ kindAt p.st e.1 ≠ some ("plain" : Str)) := by
    have : (partAt p.jo e).isSome ≠ false ↔ e ∈ jends p.jo := by rw [← part_some]; cases partAt p.jo e <;> simp
    rw [this]
  unfold gateFault
  by_cases hc : e ∈ jends p.jo ∨ e ∈ (p.ga.take k).map (·.2) ∨ kindAt p.st e.1 ≠ some ("plain" : Str)
  · rw [if_pos (hc'.mpr hc)] at f3
    rw [if_pos hc]
    exact f_gate f0 f1 hf.2.2.1 f3
  · rw [if_neg fun z => hc (hc'.mp z)] at f3
    rw [if_neg hc]
    cases eg : (p.ga.drop k).find? fun g => decide (g.2 = e) with
    | some g => rw [eg] at f3; exact f_gate f0 f1 hf.2.2.1 f3
    | none =>
      rw [eg] at f3
      exact fault_none.mpr ⟨f0, f1, hf.2.2.1, f3, hf.2.2.2.2.1, hf.2.2.2.2.2⟩
/-! ### a signal more -/
def signalFault (p : Pln) (k : Nat) (n : Str) (e : End) (o : Option Step) : Option (Str × Str) :=
  if e ∉ jends p.jo ∨ e ∈ (p.gs2.take k).map (·.2) ∨ kindAt p.st e.1 ≠ some ("plain" : Str) then some (("signal" : Str), n)
  else match (p.gs2.drop k).find? fun g => decide (g.2 = e) with
    | some g => some (("signal" : Str), g.1)
    | none => if badOv p (n, e, o) = true then some (("overlap" : Str), n) else none
theorem Chk.insi {p : Pln} (h : Chk p) (k : Nat) {n : Str} {e : End} (o : Option Step) (hn : n ∉ p.nms) (he : endEx p.st e = true) : faultP ⟨p.st, p.jo, p.ga, insA p.si k (n, e, o)⟩ = signalFault p k n e o := by
  have hf := fault_none.mp (chk_iff.mpr h)
  have f0 := h.newN hn (nms_perm3 p k (n, e, o))
  have eg : (Pln.gs2 ⟨p.st, p.jo, p.ga, insA p.si k (n, e, o)⟩) = insA p.gs2 k (n, e) := insA_map (fun s : Str × End × Option Step => (s.1, s.2.1)) p.si k (n, e, o)
  have f1 : missEnd ⟨p.st, p.jo, p.ga, insA p.si k (n, e, o)⟩ = none := miss_none.mpr ⟨h.jex, fun g hg => by
    rw [gs_eq, eg] at hg
    rcases List.mem_append.mp hg with hg | hg
    · exact h.gex g (List.mem_append_left _ hg)
    · rcases insA_mem.mp hg with rfl | hg
      · exact he
      · exact h.gex g (List.mem_append_right _ hg)⟩
  have f3 := wp_ins hf.2.2.2.2.1 k n e
  have hc' : ((partAt p.jo e).isSome ≠ true ∨ e ∈ (p.gs2.take k).map (·.2) ∨ kindAt p.st e.1 ≠ some ("plain" : Str)) ↔ (e ∉ jends p.jo ∨ e ∈ (p.gs2.take k).map (·.2) ∨ kindAt p.st e.1 ≠ some ("plain" : Str)) := by
    have : (partAt p.jo e).isSome ≠ true ↔ e ∉ jends p.jo := by rw [← part_some]
    rw [this]
  rw [← eg] at f3
  unfold signalFault
  by_cases hc : e ∉ jends p.jo ∨ e ∈ (p.gs2.take k).map (·.2) ∨ kindAt p.st e.1 ≠ some ("plain" : Str)
  · rw [if_pos (hc'.mpr hc)] at f3
    rw [if_pos hc]
    exact f_signal f0 f1 hf.2.2.1 hf.2.2.2.1 f3
  · rw [if_neg fun z => hc (hc'.mp z)] at f3
    rw [if_neg hc]
    cases eg2 : (p.gs2.drop k).find? fun g => decide (g.2 = e) with
    | some g => rw [eg2] at f3; exact f_signal f0 f1 hf.2.2.1 hf.2.2.2.1 f3
    | none =>
      rw [eg2] at f3
      dsimp only
      have hbo : ∀ s, badOv ⟨p.st, p.jo, p.ga, insA p.si k (n, e, o)⟩ s = badOv p s := fun s => badOv_congr (p := ⟨p.st, p.jo, p.ga, insA p.si k (n, e, o)⟩) (p' := p) (fun _ _ => rfl) rfl
      by_cases hb : badOv p (n, e, o) = true
      · rw [if_pos hb]
        refine f_overlap f0 f1 hf.2.2.1 hf.2.2.2.1 f3 ?_
        unfold wrongOv
        dsimp only
        have : (insA p.si k (n, e, o)).find? (badOv ⟨p.st, p.jo, p.ga, insA p.si k (n, e, o)⟩) = some (n, e, o) := by
          unfold insA at hbo ⊢
          rw [List.find?_append, List.find?_eq_none.mpr, List.find?_cons, hbo, hb]
          · rfl
          · intro x hx
            rw [hbo, h.ov x (List.mem_of_mem_take hx)]; decide
        rw [this]; rfl
      · rw [if_neg hb]
        refine fault_none.mpr ⟨f0, f1, hf.2.2.1, hf.2.2.2.1, f3, ov_none.mpr fun s hs => ?_⟩
        rw [hbo]
        rcases insA_mem.mp hs with rfl | hs
        · simpa using hb
        · exact h.ov s hs
/-! ### the empty plan, and what is put into it -/
theorem Chk.empty {p : Pln} (h : Chk p) (hn : p.nms = []) : p = ⟨[], [], [], []⟩ := by
  unfold Pln.nms at hn
  rw [List.append_eq_nil_iff, List.append_eq_nil_iff, List.map_eq_nil_iff, List.map_eq_nil_iff, List.map_eq_nil_iff] at hn
  obtain ⟨⟨h1, h2⟩, h3⟩ := hn
  have h4 : p.jo = [] := by
    cases e : p.jo with
    | nil => rfl
    | cons j l =>
      have := (h.jex j (by rw [e]; exact List.mem_cons_self)).1
      rw [h1] at this; cases this
  obtain ⟨a, b, c, d⟩ := p
  dsimp only at h1 h2 h3 h4
  rw [h1, h2, h3, h4]
end PL

namespace PL
open PySem PySem.Spec PyProof.Rows L2 GA GxR DL TM
/-! ### drawn plans are without fault -/
def stEnds (kvs : List (Str × Str)) : List End := kvs.flatMap fun s => (List.range (nEnds s.2).toNat).map fun i : Nat => (s.1, (i : Int))
theorem stEnds_snoc (kvs : List (Str × Str)) (s k : Str) : stEnds (kvs ++ [(s, k)]) = stEnds kvs ++ (List.range (nEnds k).toNat).map fun i : Nat => (s, (i : Int)) := by simp [stEnds]
theorem mem_stEnds {kvs : List (Str × Str)} {e : End} : e ∈ stEnds kvs ↔ ∃ s ∈ kvs, e.1 = s.1 ∧ 0 ≤ e.2 ∧ e.2 < nEnds s.2 := by
  unfold stEnds
  rw [List.mem_flatMap]
  constructor
  · rintro ⟨s, hs, h⟩
    obtain ⟨i, hi, rfl⟩ := List.mem_map.mp h
    have := List.mem_range.mp hi
    exact ⟨s, hs, rfl, by dsimp only; omega, by dsimp only; omega⟩
  · rintro ⟨s, hs, h1, h2, h3⟩
    refine ⟨s, hs, List.mem_map.mpr ⟨e.2.toNat, List.mem_range.mpr (by omega), ?_⟩⟩
    obtain ⟨a, b⟩ := e
    dsimp only at h1 h2 h3 ⊢
    rw [h1, show ((b.toNat : Nat) : Int) = b by omega]
theorem stEnds_nd : ∀ {kvs : List (Str × Str)}, (kvs.map (·.1)).Nodup → (stEnds kvs).Nodup
  | [], _ => List.nodup_nil
  | s :: kvs, nd => by
    rw [List.map_cons, List.nodup_cons] at nd
    have ih := stEnds_nd nd.2
    have e : stEnds (s :: kvs) = ((List.range (nEnds s.2).toNat).map fun i : Nat => (s.1, (i : Int))) ++ stEnds kvs := rfl
    rw [e]
    refine List.nodup_append.mpr ⟨?_, ih, fun a ha b hb z => ?_⟩
    · refine List.Nodup.map_on' (fun i _ j _ h => ?_) List.nodup_range
      have h2 := congrArg Prod.snd h
      dsimp only at h2; omega
    · obtain ⟨i, _, rfl⟩ := List.mem_map.mp ha
      obtain ⟨t, ht, h1, _⟩ := mem_stEnds.mp hb
      refine nd.1 (List.mem_map.mpr ⟨t, ht, ?_⟩)
      rw [← h1, ← z]
where
  List.Nodup.map_on' {α β : Type} {f : α → β} : ∀ {l : List α}, (∀ x ∈ l, ∀ y ∈ l, f x = f y → x = y) → l.Nodup → (l.map f).Nodup
    | [], _, _ => List.nodup_nil
    | a :: l, H, nd => by
      rw [List.nodup_cons] at nd
      rw [List.map_cons, List.nodup_cons]
      refine ⟨fun z => ?_, map_on' (fun x hx y hy => H x (List.mem_cons_of_mem _ hx) y (List.mem_cons_of_mem _ hy)) nd.2⟩
      obtain ⟨b, hb, e⟩ := List.mem_map.mp z
      have := H b (List.mem_cons_of_mem _ hb) a List.mem_cons_self e
      exact nd.1 (this ▸ hb)
  map_on' {α β : Type} {f : α → β} : ∀ {l : List α}, (∀ x ∈ l, ∀ y ∈ l, f x = f y → x = y) → l.Nodup → (l.map f).Nodup := fun {l} H nd => by
    have h : l.Pairwise (fun x y => f x ≠ f y) := by
      refine List.Pairwise.imp_of_mem ?_ nd
      intro x y hx hy hne e
      exact hne (H x hx y hy e)
    exact List.pairwise_map.mpr h
theorem stEnds_ex {kvs : List (Str × Str)} (nd : (kvs.map (·.1)).Nodup) {e : End} (h : e ∈ stEnds kvs) : endEx kvs e = true := by
  obtain ⟨s, hs, h1, h2, h3⟩ := mem_stEnds.mp h
  have : kindAt kvs e.1 = some s.2 := (kind_iff nd).mpr (by rw [h1]; exact hs)
  unfold endEx
  rw [this]; exact decide_eq_true h3
theorem perm_erase {α : Type} {l : List α} {i : Nat} {x : α} (h : l[i]? = some x) : (x :: l.eraseIdx i).Perm l := by
  obtain ⟨hi, e⟩ := List.getElem?_eq_some_iff.mp h
  have e1 : l = l.take i ++ x :: l.drop (i + 1) := by
    conv => lhs; rw [← List.take_append_drop i l, List.drop_eq_getElem_cons hi, e]
  have e2 : l.eraseIdx i = l.take i ++ l.drop (i + 1) := List.eraseIdx_eq_take_drop_succ ..
  rw [e2]
  conv => rhs; rw [e1]
  exact List.perm_middle.symm
/-- names drawn one by one -/
structure NV (us0 us l : List Str) : Prop where
  eq : us = us0 ++ l
  nd : l.Nodup
  new : ∀ n ∈ l, n ∉ us0
theorem NV.init (us0 : List Str) : NV us0 us0 [] := ⟨by simp, List.nodup_nil, fun n h => nomatch h⟩
theorem NV.step {us0 us l : List Str} (h : NV us0 us l) {s : Str} (hs : s ∉ us) : NV us0 (us ++ [s]) (l ++ [s]) where
  eq := by rw [h.eq, List.append_assoc]
  nd := List.nodup_append.mpr ⟨h.nd, by simp, fun a ha b hb e => by
    have hb : b = s := by simpa using hb
    rw [h.eq] at hs
    exact hs (List.mem_append_right _ (by rw [← hb, ← e]; exact ha))⟩
  new := fun n hn => by
    rcases List.mem_append.mp hn with hn | hn
    · exact h.new n hn
    · have hn : n = s := by simpa using hn
      subst hn
      rw [h.eq] at hs
      exact fun z => hs (List.mem_append_left _ z)
theorem many_val2 {kind : Str} (h : kindS kind = true) : ∃ n : Int, n = nEnds kind ∧ valD manyD (.inr kind) = some (.int n) ∧ 0 < n ∧ n ≤ 4 ∧ (kind = "plain" → n ≤ 2) := by
  rcases kind3 h with rfl | rfl | rfl
  · exact ⟨2, rfl, by with_unfolding_all rfl, by decide, by decide, fun _ => by decide⟩
  · exact ⟨3, rfl, by with_unfolding_all rfl, by decide, by decide, fun z => absurd z (by decide)⟩
  · exact ⟨4, rfl, by with_unfolding_all rfl, by decide, by decide, fun z => absurd z (by decide)⟩
/-! ### joints -/
def jpairs (js : List (End × End)) : List (End × End) := js.flatMap fun x => [(x.1, x.2), (x.2, x.1)]
theorem jpairs_keys (js : List (End × End)) : (jpairs js).map (·.1) = jends js := by
  induction js with
  | nil => rfl
  | cons x l ih =>
    have e : jpairs (x :: l) = (x.1, x.2) :: (x.2, x.1) :: jpairs l := rfl
    rw [e, jends_cons, List.map_cons, List.map_cons, ih]
theorem jpairs_snoc (js : List (End × End)) (a b : End) : jpairs (js ++ [(a, b)]) = jpairs js ++ [(a, b)] ++ [(b, a)] := by simp [jpairs]
theorem mem_jpairs {js : List (End × End)} {e f : End} : (e, f) ∈ jpairs js ↔ ∃ j ∈ js, (j.2 = e ∧ j.1 = f) ∨ (j.1 = e ∧ j.2 = f) := by
  unfold jpairs
  simp only [List.mem_flatMap, List.mem_cons, List.not_mem_nil, or_false, Prod.mk.injEq]
  constructor
  · rintro ⟨j, hj, ⟨rfl, rfl⟩ | ⟨rfl, rfl⟩⟩
    · exact ⟨j, hj, .inr ⟨rfl, rfl⟩⟩
    · exact ⟨j, hj, .inl ⟨rfl, rfl⟩⟩
  · rintro ⟨j, hj, ⟨rfl, rfl⟩ | ⟨rfl, rfl⟩⟩
    · exact ⟨j, hj, .inr ⟨rfl, rfl⟩⟩
    · exact ⟨j, hj, .inl ⟨rfl, rfl⟩⟩
structure JX (es : List End) (js : List (End × End)) (es' : List End) (kvs : List (End × End)) : Prop where
  kv : kvs = jpairs js
  pm : (es' ++ jends js).Perm es
  ne : ∀ x ∈ js, x.1.1 ≠ x.2.1
theorem JX.init (es : List End) : JX es [] es [] := ⟨rfl, by simp [jends], fun x h => nomatch h⟩
theorem JX.nd {es : List End} {js : List (End × End)} {es' : List End} {kvs : List (End × End)} (h : JX es js es' kvs) (nd : es.Nodup) : es'.Nodup ∧ (jends js).Nodup ∧ ∀ e ∈ es', e ∉ jends js := by
  have := h.pm.nodup_iff.mpr nd
  obtain ⟨n1, n2, n3⟩ := List.nodup_append.mp this
  exact ⟨n1, n2, fun e he z => n3 e he e z rfl⟩
theorem JX.keys {es : List End} {js : List (End × End)} {es' : List End} {kvs : List (End × End)} (h : JX es js es' kvs) : kvs.map (·.1) = jends js := by rw [h.kv, jpairs_keys]
theorem JX.sub {es : List End} {js : List (End × End)} {es' : List End} {kvs : List (End × End)} (h : JX es js es' kvs) {e : End} (he : e ∈ jends js) : e ∈ es := h.pm.mem_iff.mp (List.mem_append_right _ he)
theorem JX.step {es : List End} {js : List (End × End)} {es' : List End} {kvs : List (End × End)} (h : JX es js es' kvs) {a b : End} {i1 i2 : Nat} (h1 : es'[i1]? = some a) (h2 : (es'.eraseIdx i1)[i2]? = some b) (hne : a.1 ≠ b.1) :
    JX es (js ++ [(a, b)]) ((es'.eraseIdx i1).eraseIdx i2) (kvs ++ [(a, b)] ++ [(b, a)]) where
  kv := by rw [h.kv, jpairs_snoc]
  pm := by
    refine List.Perm.trans ?_ h.pm
    have p1 := perm_erase h1
    have p2 := perm_erase h2
    rw [jends_app]
    have e : jends [(a, b)] = [a, b] := rfl
    rw [e, ← List.append_assoc]
    refine List.perm_append_comm.trans ?_
    show ([a, b] ++ (((es'.eraseIdx i1).eraseIdx i2) ++ jends js)).Perm _
    rw [← List.append_assoc]
    refine List.Perm.append_right _ ?_
    show (a :: b :: (es'.eraseIdx i1).eraseIdx i2).Perm es'
    exact (p2.cons a).trans p1
  ne := fun x hx => by
    rcases List.mem_append.mp hx with hx | hx
    · exact h.ne x hx
    · have hx : x = (a, b) := by simpa using hx
      rw [hx]; exact hne
theorem putJo2 {e e' : End} {kvs : List (End × End)} (h : e ∉ kvs.map (·.1)) : ∃ kvs', putD (joKV kvs) (eKey e) (endD e') = joKV kvs' ∧ (∀ p ∈ kvs', p ∈ kvs ∨ p = (e, e')) ∧ kvs'.length ≤ kvs.length + 1 ∧ kvs' = kvs ++ [(e, e')] := by
  refine ⟨kvs ++ [(e, e')], ?_, fun p hp => ?_, by rw [List.length_append]; exact Nat.le_refl _, rfl⟩
  · unfold putD
    have : ((joKV kvs).any fun kv => decide (kv.1 = eKey e)) = false := by
      rw [Bool.eq_false_iff]
      intro z
      obtain ⟨p, hp, hq⟩ := List.any_eq_true.mp z
      obtain ⟨x, hx, rfl⟩ := List.mem_map.mp hp
      have hq : eKey x.1 = eKey e := of_decide_eq_true hq
      exact h (List.mem_map.mpr ⟨x, hx, eKey_inj hq⟩)
    rw [this, if_neg Bool.false_ne_true]
    unfold joKV; rw [List.map_append]; rfl
  · rcases List.mem_append.mp hp with hp | hp
    · exact .inl hp
    · exact .inr (List.mem_singleton.mp hp)
def spJoints2 : DSp := fun ds m Q => ∃ (Pe : End → Prop) (d : D) (f j : Addr) (es : List End), ds = [d, .ref f, .ref j] ∧ Dk m d ∧ f ≠ j ∧ m.mu f = some (.lst (es.map endD)) ∧ m.mu j = some (.dit []) ∧ es.length ≤ 100 ∧ es.Nodup ∧ (∀ e ∈ es, Pe e) ∧ (∀ e, Pe e → endOk e) ∧
  ∀ (a : Addr) (m' : M) (js : List (End × End)) (es' : List End) (kvs : List (End × End)), Chg2 f j m m' → m.mu a = none → m'.mu f = some (.lst (es'.map endD)) → m'.mu j = some (.dit (joKV kvs)) → m'.mu a = some (.lst (js.map joD)) → (∀ x ∈ js, joOk x) → js.length ≤ 16 → (∀ e ∈ es', Pe e) → es'.length ≤ es.length → (∀ p ∈ kvs, Pe p.1 ∧ Pe p.2) → kvs.length ≤ 32 → JX es js es' kvs → Q (.ref a) m'
/-! ### overlaps -/
def ovOk (kvs : List (Str × Str)) (e : End) (t : Step) : Prop := t.1 = e.1 ∧ t.2.1 = e.2 ∧ ∃ kind, (e.1, kind) ∈ kvs ∧ (kind = "plain" ∨ kind = "crossing") ∧ (t.2.1, t.2.2) ∈ waysK kind
def spOver2 : DSp := fun ds m Q => ∃ (d : D) (k : Addr) (kvs : List (Str × Str)) (e : End), ds = [d, .ref k, endD e] ∧ Dk m d ∧ m.mu k = some (.dic (strKV kvs)) ∧ (kvs.map (·.1)).Nodup ∧ (endOk e ∧ ∃ kind, (e.1, kind) ∈ kvs ∧ kindS kind = true ∧ e.2 < nEnds kind) ∧ ∀ o, (∀ t, o = some t → stepOk t ∧ ovOk kvs e t) → Q (ovD o) m
theorem way_plain {i : Int} (h0 : 0 ≤ i) (h1 : i < nEnds "plain") : (i, 1 - i) ∈ waysK "plain" := by
  have e : nEnds "plain" = 2 := rfl
  have : i = 0 ∨ i = 1 := by omega
  rcases this with rfl | rfl <;> decide
theorem way_cross {i : Int} (h0 : 0 ≤ i) (h1 : i ≤ 3) : (i, Builtin.bitXor i 1) ∈ waysK "crossing" := by
  have : i = 0 ∨ i = 1 ∨ i = 2 ∨ i = 3 := by omega
  rcases this with rfl | rfl | rfl | rfl <;> decide +kernel
/-! ### the drawn plan -/
def plainAt (kvs : List (Str × Str)) (e : End) : Bool := decide (kindAt kvs e.1 = some ("plain" : Str))
def spChecked2 : DSp := fun ds m Q => ∃ (d : D) (u : Addr) (us : List Str) (k : Nat), ds = [d, .ref u, .int k] ∧ Dk m d ∧ m.mu u = some (.lst (us.map D.str)) ∧ us.length ≤ 20 ∧ k ≤ 12 ∧
  ∀ (p : Pln) m', p.Ok → Chk p → p.st.length ≤ k → (∀ n ∈ p.nms, n ∉ us) → Chg u m m' → m'.mu u = some (.lst ((us ++ p.nms).map D.str)) → Q p.d m'
theorem Outs.filterOf {α : Type} {f : α → D} {P : α → Prop} {b : α → Bool} (inj : ∀ a b, f a = f b → a = b) : ∀ {l : List α} {ys : List D}, Outs (fun d o => ∃ a, d = f a ∧ P a ∧ o = if b a = true then some (f a) else none) (l.map f) ys → ys = (l.filter b).map f
  | [], _, o => by cases o; rfl
  | a :: l, _, o => by
    cases o with
    | keep r t =>
      obtain ⟨c, e, _, e2⟩ := r
      have := inj _ _ e
      subst this
      by_cases z : b a = true
      · rw [if_pos z] at e2; cases e2
        rw [List.filter_cons_of_pos z, Outs.filterOf inj t]; rfl
      · rw [if_neg z] at e2; cases e2
    | skip r t =>
      obtain ⟨c, e, _, e2⟩ := r
      have := inj _ _ e
      subst this
      by_cases z : b a = true
      · rw [if_pos z] at e2; cases e2
      · rw [List.filter_cons_of_neg z, Outs.filterOf inj t]
theorem chk_drawn {kvs : List (Str × Str)} {js : List (End × End)} {es2 : List End} {jkv : List (End × End)} {ga : List (Str × End)} {ss : List (Str × End × Option Step)} {fs fs' : List End} (nd : (kvs.map (·.1) ++ ga.map (·.1) ++ ss.map (·.1)).Nodup)
    (J : JX (stEnds kvs) js es2 jkv) (hg : (ga.map (·.2) ++ fs).Perm (es2.filter (plainAt kvs))) (hs : (ss.map (·.2.1) ++ fs').Perm ((jkv.map (·.1)).filter (plainAt kvs))) (ho : ∀ s ∈ ss, ∀ t, s.2.2 = some t → ∃ e', (s.2.1, e') ∈ jkv ∧ ovOk kvs e' t) : Chk ⟨kvs, js, ga, ss⟩ := by
  have nk : (kvs.map (·.1)).Nodup := by rw [List.append_assoc] at nd; exact (List.nodup_append.mp nd).1
  obtain ⟨n1, n2, n3⟩ := J.nd (stEnds_nd nk)
  have ex : ∀ e ∈ es2 ++ jends js, endEx kvs e = true := fun e he => stEnds_ex nk (J.pm.mem_iff.mp he)
  have gm : ∀ g ∈ ga, g.2 ∈ es2 ∧ plainAt kvs g.2 = true := fun g hgm => by
    have := hg.mem_iff.mp (List.mem_append_left _ (List.mem_map.mpr ⟨g, hgm, rfl⟩))
    exact List.mem_filter.mp this
  have sm : ∀ s ∈ ss, s.2.1 ∈ jends js ∧ plainAt kvs s.2.1 = true := fun s hsm => by
    have := hs.mem_iff.mp (List.mem_append_left _ (List.mem_map.mpr ⟨s, hsm, rfl⟩))
    rw [J.keys] at this
    exact List.mem_filter.mp this
  have g2 : ∀ g ∈ (Pln.mk kvs js ga ss).gs2, ∃ s ∈ ss, g = (s.1, s.2.1) := fun g h => by
    obtain ⟨s, h1, h2⟩ := List.mem_map.mp h
    exact ⟨s, h1, h2.symm⟩
  refine ⟨nd, fun j hj => ⟨ex _ (List.mem_append_right _ (mem_jends.mpr ⟨j, hj, .inl rfl⟩)), ex _ (List.mem_append_right _ (mem_jends.mpr ⟨j, hj, .inr rfl⟩))⟩, fun g hgm => ?_, J.ne, n2, fun g hgm => ⟨n3 _ (gm g hgm).1, of_decide_eq_true (gm g hgm).2⟩, ?_, fun g hgm => ?_, ?_, fun s hsm => ?_⟩
  · rcases List.mem_append.mp hgm with hgm | hgm
    · exact ex _ (List.mem_append_left _ (gm g hgm).1)
    · obtain ⟨s, h1, rfl⟩ := List.mem_map.mp hgm
      exact ex _ (List.mem_append_right _ (sm s h1).1)
  · have := hg.nodup_iff.mpr (n1.filter _)
    exact (List.nodup_append.mp this).1
  · obtain ⟨s, h1, rfl⟩ := g2 g hgm
    exact ⟨(sm s h1).1, of_decide_eq_true (sm s h1).2⟩
  · have := hs.nodup_iff.mpr (by rw [J.keys]; exact n2.filter _)
    have e : (Pln.mk kvs js ga ss).gs2.map (·.2) = ss.map (·.2.1) := by unfold Pln.gs2; rw [List.map_map]; rfl
    rw [e]
    exact (List.nodup_append.mp this).1
  · unfold badOv
    cases ht : s.2.2 with
    | none => rfl
    | some t =>
      obtain ⟨e', h1, h2, h3, kind, h4, h5, h6⟩ := ho s hsm t ht
      rw [J.kv, mem_jpairs] at h1
      have hp : partAt js s.2.1 = some e' := (part_iff n2).mpr h1
      have hk : kindAt kvs t.1 = some kind := (kind_iff nk).mpr (by rw [h2]; exact h4)
      have hee : e' = (t.1, t.2.1) := by rw [h2, h3]
      have : fitsOv kvs (partAt js s.2.1) t = true := by
        unfold fitsOv
        rw [hp, hk, hee]
        have hd : (decide (kind = "plain") || decide (kind = "crossing")) = true := by
          rcases h5 with rfl | rfl
          · rfl
          · rfl
        simp [hd, h6]
      show (!fitsOv kvs (partAt js s.2.1) t) = false
      rw [this]; rfl
end PL

namespace PL
open PySem PySem.Spec PyProof.Rows L2 GA GxR DL TM
/-! ### plans without fault, in another order, side by side -/
theorem opt_ext {α : Type} {a b : Option α} (h : ∀ x, a = some x ↔ b = some x) : a = b := by
  cases a with
  | none => cases b with
    | none => rfl
    | some y => exact ((h y).mpr rfl)
  | some x => exact ((h x).mp rfl).symm
theorem jends_perm {a b : List (End × End)} (h : a.Perm b) : (jends a).Perm (jends b) := List.Perm.flatMap_right _ h
theorem part_perm {a b : List (End × End)} (h : a.Perm b) (nd : (jends b).Nodup) (e : End) : partAt a e = partAt b e := opt_ext fun f => by
  rw [part_iff nd, part_iff ((jends_perm h).nodup_iff.mpr nd)]
  constructor
  · rintro ⟨j, hj, z⟩; exact ⟨j, h.mem_iff.mp hj, z⟩
  · rintro ⟨j, hj, z⟩; exact ⟨j, h.mem_iff.mpr hj, z⟩
theorem kind_perm {a b : List (Str × Str)} (h : a.Perm b) (nd : (b.map (·.1)).Nodup) (n : Str) : kindAt a n = kindAt b n := opt_ext fun k => by
  rw [kind_iff nd, kind_iff ((h.map _).nodup_iff.mpr nd), h.mem_iff]
theorem endEx_perm {a b : List (Str × Str)} (h : a.Perm b) (nd : (b.map (·.1)).Nodup) (e : End) : endEx a e = endEx b e := endEx_congr (kind_perm h nd e.1)
theorem Chk.perm {p : Pln} (h : Chk p) {p' : Pln} (h1 : p'.st.Perm p.st) (h2 : p'.jo.Perm p.jo) (h3 : p'.ga.Perm p.ga) (h4 : p'.si.Perm p.si) : Chk p' := by
  have nd := h.stnd
  have ex : ∀ e, endEx p'.st e = endEx p.st e := endEx_perm h1 nd
  have kn : ∀ n, kindAt p'.st n = kindAt p.st n := kind_perm h1 nd
  have pt : ∀ e, partAt p'.jo e = partAt p.jo e := part_perm h2 h.jnd
  have hg : p'.gs.Perm p.gs := h3.append (h4.map _)
  have hg2 : p'.gs2.Perm p.gs2 := h4.map _
  have hj : ∀ e, e ∈ jends p'.jo ↔ e ∈ jends p.jo := fun e => (jends_perm h2).mem_iff
  refine ⟨?_, fun j hj' => ?_, fun g hg' => ?_, fun j hj' => h.jne j (h2.mem_iff.mp hj'), (jends_perm h2).nodup_iff.mpr h.jnd, fun g hg' => ?_, (h3.map _).nodup_iff.mpr h.gnd, fun g hg' => ?_, (hg2.map _).nodup_iff.mpr h.snd, fun s hs => ?_⟩
  · exact ((((h1.map _).append (h3.map _)).append (h4.map _)).nodup_iff).mpr h.nd
  · rw [ex, ex]; exact h.jex j (h2.mem_iff.mp hj')
  · rw [ex]; exact h.gex g (hg.mem_iff.mp hg')
  · rw [hj, kn]; exact h.gend g (h3.mem_iff.mp hg')
  · rw [hj, kn]; exact h.send g (hg2.mem_iff.mp hg')
  · rw [← h.ov s (h4.mem_iff.mp hs)]
    exact badOv_congr (fun t _ => kn t.1) (pt _)
theorem endEx_in {st : List (Str × Str)} {e : End} (h : endEx st e = true) : e.1 ∈ st.map (·.1) := by
  obtain ⟨k, hk⟩ := endEx_kind h
  exact List.mem_map.mpr ⟨_, kindAt_ok hk, rfl⟩
theorem kind_app {a b : List (Str × Str)} (nd : ((a ++ b).map (·.1)).Nodup) {n k : Str} : kindAt (a ++ b) n = some k ↔ kindAt a n = some k ∨ kindAt b n = some k := by
  have nd2 := nd
  rw [List.map_append] at nd2
  obtain ⟨na, nb, _⟩ := List.nodup_append.mp nd2
  rw [kind_iff nd, kind_iff na, kind_iff nb, List.mem_append]
theorem Chk.app {p q : Pln} (hp : Chk p) (hq : Chk q) (hd : ∀ n ∈ p.nms, n ∉ q.nms) : Chk ⟨p.st ++ q.st, p.jo ++ q.jo, p.ga ++ q.ga, p.si ++ q.si⟩ := by
  have sub : ∀ {x : Pln} {n : Str}, n ∈ x.st.map (·.1) → n ∈ x.nms := fun {x n} h => by
    unfold Pln.nms; exact List.mem_append_left _ (List.mem_append_left _ h)
  have ndA : (Pln.nms ⟨p.st ++ q.st, p.jo ++ q.jo, p.ga ++ q.ga, p.si ++ q.si⟩).Nodup := by
    have e : (Pln.nms ⟨p.st ++ q.st, p.jo ++ q.jo, p.ga ++ q.ga, p.si ++ q.si⟩).Perm (p.nms ++ q.nms) := by
      unfold Pln.nms
      simp only [List.map_append]
      refine List.perm_iff_count.mpr fun a => ?_
      simp only [List.count_append]; omega
    rw [e.nodup_iff]
    exact List.nodup_append.mpr ⟨hp.nd, hq.nd, fun a ha b hb z => hd a ha (z ▸ hb)⟩
  have ndS : ((p.st ++ q.st).map (·.1)).Nodup := by
    unfold Pln.nms at ndA
    rw [List.append_assoc] at ndA
    exact (List.nodup_append.mp ndA).1
  have kp : ∀ {n k : Str}, kindAt p.st n = some k → kindAt (p.st ++ q.st) n = some k := fun h => (kind_app ndS).mpr (.inl h)
  have kq : ∀ {n k : Str}, kindAt q.st n = some k → kindAt (p.st ++ q.st) n = some k := fun h => (kind_app ndS).mpr (.inr h)
  have ep : ∀ {e : End}, endEx p.st e = true → endEx (p.st ++ q.st) e = true := fun {e} h => by
    obtain ⟨k, hk⟩ := endEx_kind h
    rw [endEx_congr ((kp hk).trans hk.symm)]; exact h
  have eq : ∀ {e : End}, endEx q.st e = true → endEx (p.st ++ q.st) e = true := fun {e} h => by
    obtain ⟨k, hk⟩ := endEx_kind h
    rw [endEx_congr ((kq hk).trans hk.symm)]; exact h
  have jep : ∀ {e : End}, e ∈ jends p.jo → e.1 ∈ p.nms := fun {e} h => by
    obtain ⟨j, hj, z⟩ := mem_jends.mp h
    rcases z with rfl | rfl
    · exact sub (endEx_in (hp.jex j hj).1)
    · exact sub (endEx_in (hp.jex j hj).2)
  have jeq : ∀ {e : End}, e ∈ jends q.jo → e.1 ∈ q.nms := fun {e} h => by
    obtain ⟨j, hj, z⟩ := mem_jends.mp h
    rcases z with rfl | rfl
    · exact sub (endEx_in (hq.jex j hj).1)
    · exact sub (endEx_in (hq.jex j hj).2)
  have jnd : (jends (p.jo ++ q.jo)).Nodup := by
    rw [jends_app]
    exact List.nodup_append.mpr ⟨hp.jnd, hq.jnd, fun a ha b hb z => hd _ (jep ha) (z ▸ jeq hb)⟩
  have gp : ∀ g ∈ p.gs, g.2.1 ∈ p.nms := fun g hg => sub (endEx_in (hp.gex g hg))
  have gq : ∀ g ∈ q.gs, g.2.1 ∈ q.nms := fun g hg => sub (endEx_in (hq.gex g hg))
  have g2 : (Pln.mk (p.st ++ q.st) (p.jo ++ q.jo) (p.ga ++ q.ga) (p.si ++ q.si)).gs2 = p.gs2 ++ q.gs2 := List.map_append ..
  refine ⟨ndA, fun j hj => ?_, fun g hg => ?_, fun j hj => ?_, jnd, fun g hg => ?_, ?_, fun g hg => ?_, ?_, fun s hs => ?_⟩
  · rcases List.mem_append.mp hj with hj | hj
    · exact ⟨ep (hp.jex j hj).1, ep (hp.jex j hj).2⟩
    · exact ⟨eq (hq.jex j hj).1, eq (hq.jex j hj).2⟩
  · have hg : g ∈ (p.ga ++ q.ga) ++ ((p.si ++ q.si).map fun s => (s.1, s.2.1)) := hg
    rw [List.map_append] at hg
    rcases List.mem_append.mp hg with hg | hg <;> rcases List.mem_append.mp hg with hg | hg
    · exact ep (hp.gex g (List.mem_append_left _ hg))
    · exact eq (hq.gex g (List.mem_append_left _ hg))
    · exact ep (hp.gex g (List.mem_append_right _ hg))
    · exact eq (hq.gex g (List.mem_append_right _ hg))
  · rcases List.mem_append.mp hj with hj | hj
    · exact hp.jne j hj
    · exact hq.jne j hj
  · rcases List.mem_append.mp hg with hg | hg
    · refine ⟨fun z => ?_, kp (hp.gend g hg).2⟩
      rw [jends_app] at z
      rcases List.mem_append.mp z with z | z
      · exact (hp.gend g hg).1 z
      · exact hd _ (gp g (List.mem_append_left _ hg)) (jeq z)
    · refine ⟨fun z => ?_, kq (hq.gend g hg).2⟩
      rw [jends_app] at z
      rcases List.mem_append.mp z with z | z
      · exact hd _ (jep z) (gq g (List.mem_append_left _ hg))
      · exact (hq.gend g hg).1 z
  · rw [List.map_append]
    refine List.nodup_append.mpr ⟨hp.gnd, hq.gnd, fun a ha b hb z => ?_⟩
    obtain ⟨x, hx, rfl⟩ := List.mem_map.mp ha
    obtain ⟨y, hy, rfl⟩ := List.mem_map.mp hb
    exact hd _ (gp x (List.mem_append_left _ hx)) (by rw [z]; exact gq y (List.mem_append_left _ hy))
  · rw [g2] at hg
    rcases List.mem_append.mp hg with hg | hg
    · exact ⟨by rw [jends_app]; exact List.mem_append_left _ (hp.send g hg).1, kp (hp.send g hg).2⟩
    · exact ⟨by rw [jends_app]; exact List.mem_append_right _ (hq.send g hg).1, kq (hq.send g hg).2⟩
  · rw [g2, List.map_append]
    refine List.nodup_append.mpr ⟨hp.snd, hq.snd, fun a ha b hb z => ?_⟩
    obtain ⟨x, hx, rfl⟩ := List.mem_map.mp ha
    obtain ⟨y, hy, rfl⟩ := List.mem_map.mp hb
    exact hd _ (gp x (List.mem_append_right _ hx)) (by rw [z]; exact gq y (List.mem_append_right _ hy))
  · have key : ∀ (x : Pln) (hx : Chk x), s ∈ x.si → (∀ j ∈ x.jo, j ∈ p.jo ++ q.jo) → (∀ {n k : Str}, kindAt x.st n = some k → kindAt (p.st ++ q.st) n = some k) → badOv ⟨p.st ++ q.st, p.jo ++ q.jo, p.ga ++ q.ga, p.si ++ q.si⟩ s = false := fun x hx hs hj hk => by
      have hb := hx.ov s hs
      cases ho : s.2.2 with
      | none => unfold badOv; rw [ho]
      | some t =>
        rw [← hb]
        refine badOv_congr (p := ⟨p.st ++ q.st, p.jo ++ q.jo, p.ga ++ q.ga, p.si ++ q.si⟩) (p' := x) (fun t' ht' => ?_) ?_
        · rw [ho] at ht'; cases ht'
          unfold badOv at hb
          rw [ho] at hb
          have hb : fitsOv x.st (partAt x.jo s.2.1) t = true := by simpa using hb
          unfold fitsOv at hb
          cases hkk : kindAt x.st t.1 with
          | none => rw [hkk] at hb; simp at hb
          | some kk => exact hk hkk
        · exact part_sub jnd hx.jnd hj (hx.send _ (List.mem_map.mpr ⟨s, hs, rfl⟩)).1
    rcases List.mem_append.mp hs with hs | hs
    · exact key p hp hs (fun j hj => List.mem_append_left _ hj) kp
    · exact key q hq hs (fun j hj => List.mem_append_right _ hj) kq
end PL

namespace DL
open PySem PySem.Spec PyProof.Rows L2 GA GxR TM
section
variable {X : Cx}
/-! ### x in t, t a tuple of data -/
def rInDT (K : PySem.W.Frag) (neg : Bool) : R2 := fun x y H Q => ∃ d ds, Dp K H x d ∧ Dp K H y (.tuple ds) ∧ SeqAt.shaped d = true ∧ SeqAt.shaped (.tuple ds) = true ∧ Q (.bl (if neg then !ds.any fun z => PyData.eqv z d else ds.any fun z => PyData.eqv z d)) H
theorem op_inDT (hu : X.A.units + 65 < cLine) : OpR X (compareOp .In) (rInDT X.K false) := by
  intro pins s σ H x y v u Q I rx ry ⟨d, ds, hd, he, sd, se, q⟩
  obtain ⟨as, r1⟩ := Dp.reads I d x v hd rx
  obtain ⟨bs, r2⟩ := Dp.reads I (.tuple ds) y u he ry
  exact SeqAt.in_tuple_reads r2 r1 (SeqAt.canLay_of_shaped se) (SeqAt.canLay_of_shaped sd) (room_in_shaped sd hu) ⟨.bl _, H, I, rfl, q⟩
theorem op_notInDT (hu : X.A.units + 65 < cLine) : OpR X (compareOp .NotIn) (rInDT X.K true) := by
  intro pins s σ H x y v u Q I rx ry ⟨d, ds, hd, he, sd, se, q⟩
  obtain ⟨as, r1⟩ := Dp.reads I d x v hd rx
  obtain ⟨bs, r2⟩ := Dp.reads I (.tuple ds) y u he ry
  exact SeqAt.notIn_tuple_reads r2 r1 (SeqAt.canLay_of_shaped se) (SeqAt.canLay_of_shaped sd) (room_in_shaped sd hu) ⟨.bl _, H, I, rfl, q⟩
def rdInP (neg : Bool) : DR2 := fun x y m Q => ∃ ds, y = .tup ds ∧ D.pures ds = true ∧ x.pure = true ∧ SeqAt.shaped x.py = true ∧ SeqAt.shaped (.tuple (D.pys ds)) = true ∧ Q (.bl (if neg then !(D.pys ds).any fun z => PyData.eqv z x.py else (D.pys ds).any fun z => PyData.eqv z x.py)) m
theorem opl_inP {K : PySem.W.Frag} (neg : Bool) : OpL K (rInDT K neg) (rdInP neg) := fun x y vx vy H m Q' Q rx ry rh ⟨ds, ey, p1, p2, s1, s2, q⟩ f => by
  subst ey
  exact ⟨_, _, Rep.dp _ _ p2 rx, Rep.dp (.tup ds) _ p1 ry, s1, s2, f _ m q _ H (Ts.refl _ _) (.bl _) rh⟩
theorem dc_inP {k : Nat} (hr : Room k X.A) : DC X .In (rdInP false) := ⟨_, op_inDT (by have := hr.un; omega), opl_inP false⟩
theorem dc_notInP {k : Nat} (hr : Room k X.A) : DC X .NotIn (rdInP true) := ⟨_, op_notInDT (by have := hr.un; omega), opl_inP true⟩
/-! ### is True, is False -/
def rdIsB (neg : Bool) : DR2 := fun x y m Q => match x, y with
  | .bl a, .bl b => Q (.bl (if neg then !decide (a = b) else decide (a = b))) m
  | _, _ => False
theorem dc_isB : DC X .Is (rdIsB false) := ⟨_, op_isBl, fun x y vx vy H m Q' Q rx ry rh h f => by
  cases x <;> cases y <;> first | exact h.elim | skip
  cases rx; cases ry
  exact ⟨_, _, rfl, rfl, f _ m h _ H (Ts.refl _ _) (.bl _) rh⟩⟩
theorem dc_notB : DC X .IsNot (rdIsB true) := ⟨_, op_notBl, fun x y vx vy H m Q' Q rx ry rh h f => by
  cases x <;> cases y <;> first | exact h.elim | skip
  cases rx; cases ry
  exact ⟨_, _, rfl, rfl, f _ m h _ H (Ts.refl _ _) (.bl _) rh⟩⟩
end
end DL

namespace DL
open PySem PySem.Spec PyProof.Rows L2 GA GxR PL
/-- a part of a list that stands beside the store -/
def dSlG (K : PySem.W.Frag) (te : DTr) (tl th : DTO) : DTr := fun δ m Q => te δ m fun x m1 => tl δ m1 fun l m2 => th δ m2 fun h m3 => ∃ (a : Addr) (ns : List Int), x = .ref a ∧ (∀ H, m3.gh.inv H → SqL K H a (ns.map V.int)) ∧ ∀ p, m3.mu p = none → Q (.ref p) (m3.set p (.lst (cutL (ns.map D.int) l h)))
theorem de_sliceG {X : Cx} {e : Expr} {te : DTr} {pos : Pos} {lo hi : Option Expr} {tl th : DTO} {p2 : Pos} (he : DE X e te) (hl : DPo X lo tl) (hu : DPo X hi th) : DE X (.Subscript e (.Slice lo hi none p2) pos) (dSlG X.K te tl th) := by
  refine (pe_slice sl_list he hl hu).imp fun σ H Q ⟨δ, m, Q', rs, rh, q, f⟩ => ?_
  refine ⟨δ, m, _, rs, rh, q, fun x m1 q1 v H1 t1 r1 rh1 => ⟨δ, m1, _, rs.mono t1, rh1, q1, fun l m2 q2 H2 t2 rh2 => ⟨δ, m2, _, rs.mono (t1.trans t2), rh2, q2, fun h m3 q3 H3 t3 rh3 => ?_⟩⟩⟩
  have r3 := Rep.mono (t2.trans t3) _ _ r1
  have f3 := f.mono ((t1.trans t2).trans t3)
  obtain ⟨a, ns, rfl, hS, q⟩ := q3
  cases r3
  exact ⟨_, ns.map V.int, rfl, hS H3 rh3.inv, fun p hp => f3 _ _ (q p (rh3.fresh hp)) _ _ (Ts.new hp) (.ref p) (rh3.newO hp ⟨_, upd_same, cut_rep l h (rep_ints ns)⟩)⟩
/-- from here on the deck stands beside the store -/
def dHide (t : DTS) : DTS := fun E δ m => ∃ aD aC, DeckAt m aD aC ∧ (¬ m.gh.own aD → ¬ m.gh.own aC → aD ≠ aC → t E δ (PL.hide m aD aC))
theorem dss_hide {X : Cx} {st : List Stmt} {t : DTS} (h : DSs X st t) : DSs X st (dHide t) := PSs.imp h fun E σ H ⟨δ, m, E', rs, rh, ⟨aD, aC, hd, q⟩, f⟩ => by
  refine ⟨δ, PL.hide m aD aC, E', rs, PL.RelH.hide rh hd, q (fun z => ?_) (fun z => ?_) (fun z => ?_), f⟩
  · obtain ⟨x, k, ns, e1, e2, r⟩ := hd.ex
    rw [rh.sep _ z] at e1; cases e1
  · obtain ⟨x, k, ns, e1, e2, r⟩ := hd.ex
    rw [rh.sep _ z] at e2; cases e2
  · obtain ⟨x, k, ns, e1, e2, r⟩ := hd.ex
    subst z; rw [e1] at e2; cases e2
theorem Tab.gh {m m' : M} {P : Addr} (h : Tab m P) (e : m'.gh = m.gh) : Tab m' P := by
  obtain ⟨mu, g⟩ := m
  obtain ⟨mu', g'⟩ := m'
  cases e
  exact ⟨h.own, h.is, h.grow⟩
theorem Tab.hide {m : M} {P aD aC : Addr} (h : Tab m P) (h1 : ¬ m.gh.own aD) (h2 : ¬ m.gh.own aC) : Tab (PL.hide m aD aC) P where
  own := .inl h.own
  is := fun H i => h.is H i.1
  grow := fun H H2 i t => ⟨h.grow H H2 i.1 t, by
    obtain ⟨x, k, ns, e1, e2, r⟩ := i.2.ex
    have n1 : aD ≠ P := fun z => h1 (z ▸ h.own)
    have n2 : aC ≠ P := fun z => h2 (z ▸ h.own)
    exact ⟨x, k, ns, (t.2 _ n1).trans e1, (t.2 _ n2).trans e2, r⟩⟩
theorem Dk.hide {m : M} {aD aC : Addr} (h1 : ¬ m.gh.own aD) (h2 : ¬ m.gh.own aC) (ne : aD ≠ aC) : Dk (PL.hide m aD aC) (.ref aD) := ⟨aD, aC, m.gh, rfl, rfl, h1, h2, ne⟩
end DL

namespace PL
open PySem PySem.Spec PyProof.Rows L2 GA GxR DL
theorem outs4 {Rel : D → Option D → Prop} {a b c d : D} {ys : List D} (hn : ∀ x, ¬ Rel x none) (h : Outs Rel [a, b, c, d] ys) : ∃ a' b' c' d', ys = [a', b', c', d'] ∧ Rel a (some a') ∧ Rel b (some b') ∧ Rel c (some c') ∧ Rel d (some d') := by
  cases h with
  | skip h _ => exact (hn _ h).elim
  | keep h1 t =>
    cases t with
    | skip h _ => exact (hn _ h).elim
    | keep h2 t =>
      cases t with
      | skip h _ => exact (hn _ h).elim
      | keep h3 t =>
        cases t with
        | skip h _ => exact (hn _ h).elim
        | keep h4 t =>
          cases t
          exact ⟨_, _, _, _, rfl, h1, h2, h3, h4⟩
theorem subL {α : Type} {f : α → D} {l : List α} {ys : List D} (h : ∀ y ∈ ys, y ∈ l.map f) : ∃ l' : List α, ys = l'.map f ∧ ∀ a ∈ l', a ∈ l := listOf fun y hy => by
  obtain ⟨a, ha, e⟩ := List.mem_map.mp (h y hy)
  exact ⟨a, e.symm, ha⟩
def P0 : Pln := ⟨[], [], [], []⟩
theorem P0_ok : P0.Ok := ⟨(fun _ h => nomatch h), (fun _ h => nomatch h), (fun _ h => nomatch h), (fun _ h => nomatch h), Nat.zero_le _, Nat.zero_le _, Nat.zero_le _, Nat.zero_le _⟩
theorem P0_text : Txt.join "\n" P0.lines = "" := by decide +kernel
/-- the parts for which b holds -/
def Pln.part (p : Pln) (b0 b1 b2 b3 : Bool) : Pln := ⟨if b0 then p.st else [], if b1 then p.jo else [], if b2 then p.ga else [], if b3 then p.si else []⟩
theorem Pln.part_ok {p : Pln} (h : p.Ok) (b0 b1 b2 b3 : Bool) : (p.part b0 b1 b2 b3).Ok := by
  unfold Pln.part
  refine ⟨?_, ?_, ?_, ?_, ?_, ?_, ?_, ?_⟩
  · cases b0
    · intro s hs; cases hs
    · exact h.st
  · cases b1
    · intro s hs; cases hs
    · exact h.jo
  · cases b2
    · intro s hs; cases hs
    · exact h.ga
  · cases b3
    · intro s hs; cases hs
    · exact h.si
  · cases b0
    · exact Nat.zero_le _
    · exact h.n1
  · cases b1
    · exact Nat.zero_le _
    · exact h.n2
  · cases b2
    · exact Nat.zero_le _
    · exact h.n3
  · cases b3
    · exact Nat.zero_le _
    · exact h.n4
theorem Pln.part_d (p : Pln) (b0 b1 b2 b3 : Bool) : (p.part b0 b1 b2 b3).d = .tup [if b0 then .tup (p.st.map strD) else .tup [], if b1 then .tup (p.jo.map joD) else .tup [], if b2 then .tup (p.ga.map gaD) else .tup [], if b3 then .tup (p.si.map siD) else .tup []] := by
  cases b0 <;> cases b1 <;> cases b2 <;> cases b3 <;> rfl
theorem iEn_w {te : DTr} {δ : Sl} {m : M} {xs : List D} (h : ∀ R : DK, (R (.tup xs) m) → te δ m R) : WkS m (enumD 0 xs) (iEn te) δ := fun R hR => h _ ⟨xs, .inl rfl, hR _ m (Ext.refl m) fun _ _ => trivial⟩
def spLaw (K : PySem.W.Frag) (P1 P2 : Addr) : DSp := fun ds m Q => ∃ (aS : Addr) (ns : List Int), ds = [.ref aS] ∧ (∀ H, m.gh.inv H → SqL K H aS (ns.map V.int)) ∧ ns.length ≤ 63 ∧ Tab m P1 ∧ Tab m P2 ∧ ∀ m', Q (.bl true) m'
def spDeck (K : PySem.W.Frag) : DSp := fun ds m Q => ∃ (aS : Addr) (ns : List Int), ds = [.ref aS] ∧ (∀ H, m.gh.inv H → SqL K H aS (ns.map V.int)) ∧ ns.length ≤ 63 ∧ ∀ aD aC m', Ext m m' → m.mu aD = none → m.mu aC = none → aD ≠ aC → DeckAt m' aD aC → Q (.ref aD) m'
theorem dfn {P : Program} {w : World} {K : PySem.W.Frag} {mg : Str → Option Value} {base : Heap} {x : Str} {st : Stmt} {f : Addr} {fd : FuncData} {N ps : List Str} {k : Nat} {sp : DSp} (F : Fun K x x st f fd)
    (S : FnScope N ps (defScope st)) (hl : ∀ ds m Q, sp ds m Q → ds.length = ps.length)
    (hbody : ∀ (cdv : Value) (A : Around) (outer : List Env) (s : Shared) (H : Hp) (E : XK), Room k (A.deeper (envOfC x (defScope st) s.heap.objs.size f cdv)) →
      ∃ t, DSs (cxOf CX0 P w K mg base N x (defScope st) f cdv A outer s H E).nox (defBody st) t ∧ ∀ ds m Q, sp ds m Q → t { nx := fun _ m' => Q .non m', rt := Q } (startD N ds) m) : FnOk P w K mg base CX0 (k + 1) f fd ps (spUp K sp) :=
  F.ok S (fun vs H Q E ⟨ds, m, Q', r, rh, q, f⟩ => by rw [← r.length]; exact hl ds m Q' q) fun cdv A outer s H vs Q E hr hsp => by
    obtain ⟨ds, m, Q', r, rh, q, f⟩ := hsp
    obtain ⟨t, ht, h⟩ := hbody cdv A outer s H E hr
    exact ⟨_, ht, startD N ds, m, _, start_rel r, rh, h ds m Q' q, ⟨fun δ' m' q' σ' H' t' rs' rh' => f .non m' q' .non H' t' .non rh', f, fun _ _ z => z.elim, fun _ _ z => z.elim⟩⟩
end PL

namespace PL
open PySem PySem.Spec PyProof.Rows L2 GA GxR DL TM
/-! ### parts of tuples -/
theorem cut_take {α : Type} (xs : List α) (k : Nat) : cutL xs none (some (k : Int)) = xs.take k := by
  unfold cutL
  rw [HT.sIx_none, HT.sIx_nat, List.drop_zero, Nat.sub_zero]
  by_cases h : k ≤ xs.length
  · rw [Nat.min_eq_left h]
  · rw [Nat.min_eq_right (by omega), List.take_length, List.take_of_length_le (by omega)]
theorem cut_drop {α : Type} (xs : List α) (k : Nat) : cutL xs (some (k : Int)) none = xs.drop k := by
  unfold cutL
  rw [HT.sIx_none, HT.sIx_nat]
  by_cases h : k ≤ xs.length
  · rw [Nat.min_eq_left h, List.take_of_length_le (by rw [List.length_drop]; omega)]
  · rw [Nat.min_eq_right (by omega), List.drop_length, List.drop_of_length_le (by omega)]; simp
theorem set_cut {α : Type} {l : List α} {i : Nat} {x y : α} (h : l[i]? = some x) : l.take i ++ y :: l.drop (i + 1) = l.set i y := by
  obtain ⟨hi, _⟩ := List.getElem?_eq_some_iff.mp h
  rw [List.set_eq_take_append_cons_drop, if_pos hi]
theorem erase_cut {α : Type} (l : List α) (k : Nat) : l.take k ++ l.drop (k + 1) = l.eraseIdx k := (List.eraseIdx_eq_take_drop_succ ..).symm
def spPut : DSp := fun ds m Q => ∃ (L : List (List D)) (i k : Nat) (x : D), ds = [.tup (L.map D.tup), .int i, .int k, x] ∧ L.length = 4 ∧ (∀ l ∈ L, l.length ≤ 100) ∧ ∃ l, L[i]? = some l ∧ Q (.tup ((L.set i (insA l k x)).map D.tup)) m
def spWo : DSp := fun ds m Q => ∃ (L : List (List D)) (i k : Nat), ds = [.tup (L.map D.tup), .int i, .int k] ∧ L.length = 4 ∧ (∀ l ∈ L, l.length ≤ 100) ∧ ∃ l, L[i]? = some l ∧ Q (.tup ((L.set i (l.eraseIdx k)).map D.tup)) m
theorem ix_tups {L : List (List D)} {i : Nat} {l : List D} {m : M} {Q : DK} (h : L[i]? = some l) (q : Q (.tup l) m) : rdIx (.tup (L.map D.tup)) (.int (i : Int)) m Q := ⟨.tup l, by
  have hi := (List.getElem?_eq_some_iff.mp h).1
  unfold atI ixN
  rw [if_pos (by omega), if_pos (by rw [List.length_map]; omega)]
  show (L.map D.tup)[(i : Int).toNat]? = _
  rw [Int.toNat_natCast, List.getElem?_map, h]; rfl, q⟩
/-! ### repr of what is told -/
def okW (s : Str) : Prop := s.length ≤ 100 ∧ ∀ c ∈ s.cps.toList, c < 16 ^ 8
def okF (o : Option (Str × Str)) : Prop := ∀ f, o = some f → okW f.1 ∧ okW f.2
theorem nameS_okW {s : Str} (h : nameS s = true) : okW s := by
  refine ⟨by have := (nameS_len h).2; omega, fun c hc => ?_⟩
  unfold nameS at h
  simp only [Bool.and_eq_true] at h
  have h5 := List.all_eq_true.mp h.2 c hc
  have h6 : c ∈ lettersDS.cps.toList := by simpa using h5
  have h7 : lettersDS.cps.toList.all (fun c => decide (c < 16 ^ 8)) = true := by decide +kernel
  simpa using List.all_eq_true.mp h7 c h6
def pyF : Option (Str × Str) → PyData
  | none => .none
  | some f => .tuple [.str f.1, .str f.2]
theorem reprF {o : Option (Str × Str)} {m : M} {Q : DK} (h : okF o) (q : Q (.str (pyF o).shown) m) : rdRepr [optF o] m Q := by
  cases o with
  | none => exact ⟨_, .none, rfl, .non, rfl, by decide +kernel, by decide, q⟩
  | some f =>
    refine ⟨_, .tuple [.str f.1, .str f.2], rfl, .tup (.cons (.str _) (.cons (.str _) .nil)), rfl, ?_, Nat.le_trans (Nat.le_refl 1) (by decide), q⟩
    obtain ⟨⟨a1, a2⟩, b1, b2⟩ := h f rfl
    have h1 := StrLaws.reprText_len f.1 a2
    have h2 := StrLaws.reprText_len f.2 b2
    have e : (PyData.tuple [.str f.1, .str f.2]).shown = ("(" : Str) ++ (reprText f.1 ++ ", " ++ reprText f.2) ++ ")" := rfl
    rw [e, len_app, len_app, len_app, len_app]
    have e1 : ("(" : Str).length = 1 := rfl
    have e2 : (", " : Str).length = 2 := rfl
    have e3 : (")" : Str).length = 1 := rfl
    rw [e1, e2, e3, sizeLine_eq]
    omega
theorem okF_none : okF none := fun f h => nomatch h
theorem okF_some {w n : Str} (hw : okW w) (hn : nameS n = true) : okF (some (w, n)) := fun f h => by cases h; exact ⟨hw, nameS_okW hn⟩
theorem okW_of {s : Str} (h : (decide (s.length ≤ 100) && s.cps.toList.all fun c => decide (c < 16 ^ 8)) = true) : okW s := by
  simp only [Bool.and_eq_true, decide_eq_true_eq] at h
  exact ⟨h.1, fun c hc => by simpa using List.all_eq_true.mp h.2 c hc⟩
theorem okW_words : okW "name" ∧ okW "end" ∧ okW "joint" ∧ okW "gate" ∧ okW "signal" ∧ okW "overlap" := ⟨okW_of (by decide +kernel), okW_of (by decide +kernel), okW_of (by decide +kernel), okW_of (by decide +kernel), okW_of (by decide +kernel), okW_of (by decide +kernel)⟩
def spIs (Ok : M → Prop) : DSp := fun ds m Q => ∃ (p : Pln) (due : Option (Str × Str)), ds = [p.d, optF due] ∧ (p.Ok ∧ Ok m) ∧ okF due ∧ faultP p = due ∧ ∀ m', Ext m m' → Q (.bl true) m'
def spEnds : DSp := fun ds m Q => ∃ p : Pln, ds = [p.d] ∧ p.Ok ∧ ∀ a m', m.mu a = none → Ext m m' → m'.mu a = some (.lst ((stEnds p.st).map endD)) → Q (.ref a) m'
theorem stEnds_len {kvs : List (Str × Str)} (h : ∀ s ∈ kvs, kindS s.2 = true) : (stEnds kvs).length ≤ 4 * kvs.length := by
  induction kvs with
  | nil => exact Nat.le_refl _
  | cons s l ih =>
    have e : stEnds (s :: l) = ((List.range (nEnds s.2).toNat).map fun i : Nat => (s.1, (i : Int))) ++ stEnds l := rfl
    have h1 := ih fun x hx => h x (List.mem_cons_of_mem _ hx)
    obtain ⟨n, hn, _, _, h4, _⟩ := many_val2 (h s List.mem_cons_self)
    rw [e, List.length_append, List.length_map, List.length_range, List.length_cons]
    omega
/-- asked of a plan without fault -/
def spAll (Ok : M → Prop) : DSp := fun ds m Q => ∃ p : Pln, ds = [p.d] ∧ p.Ok ∧ Chk p ∧ Ok m ∧ ∀ m', Ext m m' → Q (.bl true) m'
/-! ### ends among ends -/
theorem eqv_ends {e : End} : ∀ {l : List End}, ((D.pys (l.map endD)).any fun z => PyData.eqv z (endD e).py) = decide (e ∈ l)
  | [] => by simp [D.pys]
  | a :: l => by
    show (PyData.eqv (endD a).py (endD e).py || (D.pys (l.map endD)).any fun z => PyData.eqv z (endD e).py) = _
    rw [eqv_ends, eqv_end]
    by_cases z : a = e
    · subst z; simp
    · have : ¬ e = a := fun y => z y.symm
      simp [z, this]
theorem inEnds {e : End} {l : List End} {m : M} {Q : DK} (he : endOk e) (hl : ∀ x ∈ l, endOk x) (q : Q (.bl (decide (e ∈ l))) m) : rdInP false (endD e) (.tup (l.map endD)) m Q := by
  have hf : ∀ d ∈ l.map endD, Fine d := fun d hd => by
    obtain ⟨x, hx, rfl⟩ := List.mem_map.mp hd
    exact end_fine (hl x hx)
  have h1 : ∀ d ∈ l.map endD, d.dep ≤ 50 := fun d hd => by
    obtain ⟨x, hx, rfl⟩ := List.mem_map.mp hd
    exact Nat.le_trans (Nat.le_refl 1) (by decide)
  refine ⟨_, rfl, pures_of fun d hd => (hf d hd).pure, rfl, shaped_d (end_fine he), shaped_d (Fine.tup hf h1), ?_⟩
  show Q (.bl ((D.pys (l.map endD)).any fun z => PyData.eqv z (endD e).py)) m
  rw [eqv_ends]; exact q
theorem inPair {e a b : End} {m : M} {Q : DK} (he : endOk e) (ha : endOk a) (hb : endOk b) (q : Q (.bl (decide (e = a ∨ e = b))) m) : rdInP false (endD e) (.tup [endD a, endD b]) m Q :=
  inEnds (l := [a, b]) he (fun x hx => by
    simp only [List.mem_cons, List.not_mem_nil, or_false] at hx
    rcases hx with rfl | rfl
    · exact ha
    · exact hb) (by
    have : decide (e ∈ [a, b]) = decide (e = a ∨ e = b) := by simp
    rw [this]; exact q)
/-- xs != [] with a new list -/
theorem Fine.ofStr {s : Str} (h : nameS s = true) : Fine (.str s) := Fine.str (name_sok h)
/-! ### walks over the items with their places -/
theorem enumD_map {α : Type} (f : α → D) : ∀ (n : Nat) (l : List α), enumD n (l.map f) = (l.zipIdx n).map fun z => D.tup [.int (z.2 : Int), f z.1]
  | _, [] => rfl
  | n, a :: l => by
    rw [List.map_cons, List.zipIdx_cons, List.map_cons]
    show D.tup [.int (n : Int), f a] :: enumD (n + 1) (l.map f) = _
    rw [enumD_map f (n + 1) l]
/-- the places of the items for which b holds -/
def ixs {α : Type} (b : α → Bool) : Nat → List α → List Nat
  | _, [] => []
  | n, a :: l => if b a = true then n :: ixs b (n + 1) l else ixs b (n + 1) l
theorem Outs.ixs {α : Type} {f : α → D} {b : α → Bool} (inj : ∀ x y, f x = f y → x = y) : ∀ {l : List α} {n : Nat} {ys : List D}, Outs (fun d o => ∃ (j : Nat) (a : α), d = D.tup [.int (j : Int), f a] ∧ o = if b a = true then some (D.int (j : Int)) else none) (enumD n (l.map f)) ys → ys = (PL.ixs b n l).map fun j : Nat => D.int (j : Int)
  | [], _, _, o => by cases o; rfl
  | a :: l, n, _, o => by
    have key : ∀ {o : Option D}, (∃ (j : Nat) (a' : α), D.tup [.int (n : Int), f a] = D.tup [.int (j : Int), f a'] ∧ o = if b a' = true then some (D.int (j : Int)) else none) → o = if b a = true then some (D.int (n : Int)) else none := fun ⟨j, a', e, e2⟩ => by
      injection e with e
      injection e with e1 e3
      injection e3 with e3 _
      rw [inj _ _ e3]
      injection e1 with e1
      rw [e2, e1]
    cases o with
    | keep r t =>
      have r := key r
      by_cases z : b a = true
      · rw [if_pos z] at r; cases r
        rw [Outs.ixs inj t]
        unfold PL.ixs
        conv => rhs; rw [PL.ixs.eq_def]
        simp [z]
      · rw [if_neg z] at r; cases r
    | skip r t =>
      have r := key r
      by_cases z : b a = true
      · rw [if_pos z] at r; cases r
      · rw [Outs.ixs inj t]
        conv => rhs; rw [PL.ixs.eq_def]
        simp [z]
end PL
namespace PL
open PySem PySem.Spec PyProof.Rows L2 GA GxR DL TM
theorem Ext.fr {x y : M} {p : Addr} (hE : Ext x y) (hp : y.mu p = none) : x.mu p = none := by
  cases e : x.mu p with
  | none => rfl
  | some o => rw [hE.old _ _ e] at hp; cases hp
theorem iR_new {te : DTr} {δ : Sl} {m : M} {j : Int} (h : ∀ R : DK, (∀ m1, Ext m m1 → R (.int j) m1) → te δ m R) (h1 : -(2 ^ 62) ≤ j) (h2 : j < 2 ^ 62) : WkS m (rangeD j.toNat) (iR1 te) δ := fun R hR => h _ fun m1 hE => ⟨j, rfl, h1, h2, hR _ m1 hE fun _ _ => trivial⟩
theorem slT_take {ds : List D} {k : Nat} {m : M} {Q : DK} (q : Q (.tup (ds.take k)) m) : rdSlA (.tup ds) none (some (k : Int)) m Q := by
  show Q (.tup (cutL ds none (some (k : Int)))) m
  rw [cut_take]; exact q
theorem slT_drop {ds : List D} {k : Nat} {m : M} {Q : DK} (q : Q (.tup (ds.drop k)) m) : rdSlA (.tup ds) (some (k : Int)) none m Q := by
  show Q (.tup (cutL ds (some (k : Int)) none)) m
  rw [cut_drop]; exact q
theorem slT_drop1 {ds : List D} {k : Nat} {m : M} {Q : DK} (q : Q (.tup (ds.drop (k + 1))) m) : rdSlA (.tup ds) (some ((k : Int) + 1)) none m Q := slT_drop (k := k + 1) q
theorem adT {xs ys : List D} {m : M} {Q : DK} (h : xs.length + ys.length ≤ 1000) (q : Q (.tup (xs ++ ys)) m) : rdAddA (.tup xs) (.tup ys) m Q := ⟨slk h, q⟩
theorem put_eq {L : List (List D)} {i : Nat} {l l2 : List D} (h : L[i]? = some l) : ((L.map D.tup).take i ++ [D.tup l2]) ++ (L.map D.tup).drop (i + 1) = (L.set i l2).map D.tup := by
  have h2 : (L.map D.tup)[i]? = some (D.tup l) := by rw [List.getElem?_map, h]; rfl
  rw [List.append_assoc, List.map_set]
  exact set_cut h2
end PL

namespace PL
open PySem PySem.Spec PyProof.Rows L2 GA GxR DL TM
/-! ### loops whose steps keep a condition -/
theorem dFor_T {te : DTr} {g : Tg} {tb : DTS} {E : DEnds} {δ : Sl} {m : M} {xs : List D} (hw : ∀ R : DK, R (.tup xs) m → te δ m R) (P : Nat → Sl → M → Prop) (h0 : P 0 δ m)
    (hs : ∀ i d δ m', xs[i]? = some d → P i δ m' → gD g d δ fun δ2 => tb { E with nx := P (i + 1), ct := P (i + 1), bk := E.nx } δ2 m') (hd : ∀ δ m', P xs.length δ m' → E.nx δ m') : dFor (iT te) g tb E δ m :=
  hw _ ⟨xs, .inl rfl, P, h0, fun _ _ _ _ => trivial, hs, hd⟩
theorem dFor_En {te : DTr} {g : Tg} {tb : DTS} {E : DEnds} {δ : Sl} {m : M} {α : Type} {f : α → D} {l : List α} (hw : ∀ R : DK, R (.tup (l.map f)) m → te δ m R) (P : Nat → Sl → M → Prop) (h0 : P 0 δ m)
    (hs : ∀ (i : Nat) (x : α) δ m', l[i]? = some x → P i δ m' → gD g (.tup [.int (i : Int), f x]) δ fun δ2 => tb { E with nx := P (i + 1), ct := P (i + 1), bk := E.nx } δ2 m') (hd : ∀ δ m', P l.length δ m' → E.nx δ m') : dFor (iEn te) g tb E δ m :=
  hw _ ⟨l.map f, .inl rfl, P, h0, fun _ _ _ _ => trivial, fun i d δ2 m' h hP => by
    have hi := (List.getElem?_eq_some_iff.mp h).1
    rw [enumD_len, List.length_map] at hi
    have hx : l[i]? = some l[i] := List.getElem?_eq_getElem hi
    have h2 := enumD_get (n := 0) (i := i) (ds := l.map f) (d := f l[i]) (by rw [List.getElem?_map, hx]; rfl)
    rw [h2] at h; cases h
    rw [Nat.zero_add]
    exact hs i _ δ2 m' hx hP, fun δ m' h => hd δ m' (by rw [enumD_len, List.length_map] at h; exact h)⟩
theorem dFor_R {te : DTr} {g : Tg} {tb : DTS} {E : DEnds} {δ : Sl} {m : M} {n : Nat} (hw : ∀ R : DK, R (.int (n : Int)) m → te δ m R) (hn : n ≤ 1000) (P : Nat → Sl → M → Prop) (h0 : P 0 δ m)
    (hs : ∀ (i : Nat) δ m', i < n → P i δ m' → gD g (.int (i : Int)) δ fun δ2 => tb { E with nx := P (i + 1), ct := P (i + 1), bk := E.nx } δ2 m') (hd : ∀ δ m', P n δ m' → E.nx δ m') : dFor (iR1 te) g tb E δ m :=
  hw _ ⟨(n : Int), rfl, by omega, by omega, P, h0, fun _ _ _ _ => trivial, fun i d δ2 m' h hP => by
    have hi := (List.getElem?_eq_some_iff.mp h).1
    rw [rangeD_len, Int.toNat_natCast] at hi
    rw [Int.toNat_natCast, rangeD_get hi] at h; cases h
    exact hs i δ2 m' hi hP, fun δ m' h => hd δ m' (by rw [rangeD_len, Int.toNat_natCast] at h; exact h)⟩
/-! ### Chosen among -/
theorem Outs.mapFilter {α : Type} {f h : α → D} {b : α → Bool} (inj : ∀ x y, f x = f y → x = y) : ∀ {l : List α} {ys : List D}, Outs (fun d o => ∃ a, d = f a ∧ o = if b a = true then some (h a) else none) (l.map f) ys → ys = (l.filter b).map h
  | [], _, o => by cases o; rfl
  | a :: l, _, o => by
    cases o with
    | keep r t =>
      obtain ⟨c, e, e2⟩ := r
      have := inj _ _ e
      subst this
      by_cases z : b a = true
      · rw [if_pos z] at e2; cases e2
        rw [List.filter_cons_of_pos z, Outs.mapFilter inj t]; rfl
      · rw [if_neg z] at e2; cases e2
    | skip r t =>
      obtain ⟨c, e, e2⟩ := r
      have := inj _ _ e
      subst this
      by_cases z : b a = true
      · rw [if_pos z] at e2; cases e2
      · rw [List.filter_cons_of_neg z, Outs.mapFilter inj t]
/-- [h x for x in xs if ..], xs a tuple of data -/
theorem lcT {te te2 : DTr} {tt : DTT} {g : Tg} {ow : List Nat} {δ : Sl} {m : M} {Q : DK} {α : Type} {f h : α → D} {l : List α} (b : α → Bool) (inj : ∀ x y, f x = f y → x = y) (hw : ∀ R : DK, R (.tup (l.map f)) m → te δ m R) (hl : l.length ≤ 1000)
    (he : ∀ x ∈ l, ∀ m', Ext m m' → ∀ (Ry : D → M → Prop) (Rn : M → Prop), (∀ m4, Ext m' m4 → if b x = true then Ry (h x) m4 else Rn m4) → gD g (f x) (wipeD δ ow) fun δ2 => tt δ2 m' fun c m3 => if c = true then te2 δ2 m3 Ry else Rn m3)
    (hq : ∀ p m', m.mu p = none → Ext m m' → m'.mu p = some (.lst ((l.filter b).map h)) → Q (.ref p) m') : dLC (iT te) g tt te2 ow δ m Q := by
  refine dLC_gen (I := fun _ => True) (Rel := fun d o => ∃ a, d = f a ∧ o = if b a = true then some (h a) else none) trivial (fun _ _ _ _ => trivial) (iT_w (xs := l.map f) hw) (slk (by rw [List.length_map]; exact hl)) (fun d hd m' hE _ Ry Rn hy hn => ?_) (fun p m' ys hp hE _ hm ho => ?_)
  · obtain ⟨x, hx, rfl⟩ := List.mem_map.mp hd
    refine he x hx m' hE Ry Rn fun m4 hE4 => ?_
    by_cases z : b x = true
    · rw [if_pos z]; exact hy _ _ ⟨x, rfl, by rw [if_pos z]⟩ hE4
    · rw [if_neg z]; exact hn _ ⟨x, rfl, by rw [if_neg z]⟩ hE4
  · rw [Outs.mapFilter inj ho] at hm
    exact hq p m' hp hE hm
theorem ixs_lt {α : Type} {b : α → Bool} : ∀ {n : Nat} {l : List α}, ∀ i ∈ ixs b n l, n ≤ i ∧ i < n + l.length
  | _, [], i, h => by cases h
  | n, a :: l, i, h => by
    unfold ixs at h
    rw [List.length_cons]
    by_cases z : b a = true
    · rw [if_pos z] at h
      rcases List.mem_cons.mp h with rfl | h
      · exact ⟨Nat.le_refl _, by omega⟩
      · have := ixs_lt i h; omega
    · rw [if_neg z] at h
      have := ixs_lt i h; omega
theorem ixs_len {α : Type} {b : α → Bool} : ∀ {n : Nat} {l : List α}, (ixs b n l).length ≤ l.length
  | _, [] => Nat.le_refl _
  | n, a :: l => by
    unfold ixs
    have := ixs_len (b := b) (n := n + 1) (l := l)
    by_cases z : b a = true
    · rw [if_pos z, List.length_cons, List.length_cons]; omega
    · rw [if_neg z, List.length_cons]; omega
/-- the first place: what stands ahead of it, and what from a place on -/
theorem ixs_head {α : Type} {b : α → Bool} : ∀ {n : Nat} {l : List α}, match (ixs b n l).head? with
    | none => ∀ x ∈ l, b x = false
    | some i => n ≤ i ∧ ∃ x, l[i - n]? = some x ∧ b x = true ∧ ∀ k, (k ≤ i - n → (l.take k).all (fun y => !b y) = true ∧ (l.drop k).find? b = some x) ∧ (i - n < k → (l.take k).any b = true)
  | _, [] => by intro x hx; cases hx
  | n, a :: l => by
    unfold ixs
    by_cases z : b a = true
    · rw [if_pos z]
      refine ⟨Nat.le_refl _, a, by rw [Nat.sub_self]; rfl, z, fun k => ⟨fun h => ?_, fun h => ?_⟩⟩
      · have : k = 0 := by omega
        subst this
        exact ⟨rfl, by rw [List.drop_zero, List.find?_cons, z]⟩
      · obtain ⟨j, rfl⟩ : ∃ j, k = j + 1 := ⟨k - 1, by omega⟩
        rw [List.take_succ_cons, List.any_cons, z]; rfl
    · rw [if_neg z]
      have zf : b a = false := by simpa using z
      have ih := ixs_head (b := b) (n := n + 1) (l := l)
      cases e : (ixs b (n + 1) l).head? with
      | none =>
        rw [e] at ih
        intro x hx
        rcases List.mem_cons.mp hx with rfl | hx
        · exact zf
        · exact ih x hx
      | some i =>
        rw [e] at ih
        obtain ⟨h1, x, h2, h3, h4⟩ := ih
        have e1 : i - n = (i - (n + 1)) + 1 := by omega
        refine ⟨by omega, x, by rw [e1, List.getElem?_cons_succ]; exact h2, h3, fun k => ⟨fun h => ?_, fun h => ?_⟩⟩
        · cases k with
          | zero =>
            have := (h4 0).1 (Nat.zero_le _)
            exact ⟨rfl, by rw [List.drop_zero, List.find?_cons, zf]; exact this.2⟩
          | succ k =>
            have := (h4 k).1 (by omega)
            rw [List.take_succ_cons, List.all_cons, zf, this.1, List.drop_succ_cons, this.2]; exact ⟨rfl, rfl⟩
        · obtain ⟨j, rfl⟩ : ∃ j, k = j + 1 := ⟨k - 1, by omega⟩
          rw [List.take_succ_cons, List.any_cons, (h4 j).2 (by omega), Bool.or_true]
/-- [at for at, x in enumerate(xs) if ..] -/
theorem lcE {te te2 : DTr} {tt : DTT} {g : Tg} {ow : List Nat} {δ : Sl} {m : M} {Q : DK} {α : Type} {f : α → D} {l : List α} (b : α → Bool) (inj : ∀ x y, f x = f y → x = y) (hw : ∀ R : DK, R (.tup (l.map f)) m → te δ m R) (hl : l.length ≤ 1000)
    (he : ∀ x ∈ l, ∀ (j : Nat) m', Ext m m' → ∀ (Ry : D → M → Prop) (Rn : M → Prop), (∀ m4, Ext m' m4 → if b x = true then Ry (.int (j : Int)) m4 else Rn m4) → gD g (.tup [.int (j : Int), f x]) (wipeD δ ow) fun δ2 => tt δ2 m' fun c m3 => if c = true then te2 δ2 m3 Ry else Rn m3)
    (hq : ∀ p m', m.mu p = none → Ext m m' → m'.mu p = some (.lst ((ixs b 0 l).map fun j : Nat => D.int (j : Int))) → Q (.ref p) m') : dLC (iEn te) g tt te2 ow δ m Q := by
  refine dLC_gen (I := fun _ => True) (xs := enumD 0 (l.map f)) (Rel := fun d o => ∃ (j : Nat) (a : α), d = D.tup [.int (j : Int), f a] ∧ o = if b a = true then some (D.int (j : Int)) else none) trivial (fun _ _ _ _ => trivial) (iEn_w (xs := l.map f) hw) (slk (by rw [enumD_len, List.length_map]; exact hl)) (fun d hd m' hE _ Ry Rn hy hn => ?_) (fun p m' ys hp hE _ hm ho => ?_)
  · rw [enumD_map] at hd
    obtain ⟨⟨x, j⟩, hx, rfl⟩ := List.mem_map.mp hd
    have hx2 : x ∈ l := List.fst_mem_of_mem_zipIdx hx
    refine he x hx2 j m' hE Ry Rn fun m4 hE4 => ?_
    by_cases z : b x = true
    · rw [if_pos z]; exact hy _ _ ⟨j, x, rfl, by rw [if_pos z]⟩ hE4
    · rw [if_neg z]; exact hn _ ⟨j, x, rfl, by rw [if_neg z]⟩ hE4
  · rw [Outs.ixs inj ho] at hm
    exact hq p m' hp hE hm
/-! ### asked of plans with something put in or taken out -/
theorem isOk {Ok : M → Prop} {tx ty : DTr} {E : DEnds} {δ : Sl} {m : M} {p : Pln} {due : Option (Str × Str)} (hx : ∀ R : DK, R p.d m → tx δ m R) (hy : ∀ R : DK, (∀ m1, Ext m m1 → R (optF due) m1) → ty δ m R) (hp : p.Ok) (hO : ∀ m1, Ext m m1 → Ok m1) (hok : okF due) (hf : faultP p = due)
    (q : ∀ m', Ext m m' → E.nx δ m') : dIfS (dNot (dB (dCall (spIs Ok) (dCons tx (dCons ty dNil))))) (dRet (dC (.bl false))) dNext E δ m := by
  dsimp only [dIfS, dNot, dB, dCall, dCons, dNil, dRet, dC, dNext]
  refine hx _ (hy _ fun m1 E1 => ⟨p, due, rfl, ⟨hp, hO m1 E1⟩, hok, hf, fun m2 E2 => ⟨true, rfl, ?_⟩⟩)
  exact ifF rfl (q m2 (E1.trans E2))
/-- (w, xs[0]) if xs != [] else None -/
theorem firstI {δ : Sl} {m : M} {Q : DK} {i : Nat} {a : Addr} {l : List Str} {w : Str} (hv : δ[i]? = some (some (.ref a))) (ha : m.mu a = some (.lst (l.map D.str))) (hl : ∀ s ∈ l, nameS s = true) (q : ∀ m', Ext m m' → Q (optF (tag w l.head?)) m') :
    dIf (dB (dOp (rdEq true) (dVar i) (dLst dNil))) (dTup (dCons (dC (.str w)) (dCons (dOp rdIx (dVar i) (dC (.int 0))) dNil))) (dC .non) δ m Q := by
  dsimp only [dIf, dB, dOp, dLst, dNil, dTup, dCons, dC]
  refine dVar_at hv ⟨slk (by simp), fun p hp => ne_nil ((Ext.new hp).old _ _ ha) M.set_same (fun d hd => ?_) ⟨_, rfl, ?_⟩⟩
  · obtain ⟨s, hs, rfl⟩ := List.mem_map.mp hd
    exact Fine.ofStr (hl s hs)
  · cases l with
    | nil => exact ifF rfl (q _ (Ext.new hp))
    | cons x l =>
      exact ifT rfl (dVar_at hv ⟨_, D.str x, (Ext.new hp).old _ _ ha, by unfold atI ixN; rw [if_pos (by decide), if_pos (by simp only [List.map_cons, List.length_cons]; omega)]; rfl, slk (by simp), q _ (Ext.new hp)⟩)
theorem okF_tag {w : Str} (hw : okW w) {l : List Str} (hl : ∀ s ∈ l, nameS s = true) : okF (tag w l.head?) := by
  cases l with
  | nil => exact okF_none
  | cons x l => exact okF_some hw (hl x List.mem_cons_self)
theorem find_head {α : Type} {b : α → Bool} : ∀ {l : List α}, l.find? b = (l.filter b).head?
  | [] => rfl
  | a :: l => by
    by_cases z : b a = true
    · rw [List.find?_cons, z, List.filter_cons_of_pos z]; rfl
    · rw [List.find?_cons, List.filter_cons_of_neg z, show b a = false by simpa using z]; exact find_head
theorem cutj_head (p : Pln) (j : End × End) : (p.gs2.find? fun g => decide (g.2 = j.1 ∨ g.2 = j.2)).map (·.1) = ((p.si.filter fun s => decide (s.2.1 = j.1 ∨ s.2.1 = j.2)).map (·.1)).head? := by
  unfold Pln.gs2
  rw [List.find?_map, find_head, List.head?_map, Option.map_map]; rfl
theorem inTwo {s a b : Str} {m : M} {Q : DK} (q : Q (.bl (decide (s = a ∨ s = b))) m) : rdIn false (.str s) (.tup [.str a, .str b]) m Q := by
  refine ⟨_, .inl rfl, rfl, rfl, ?_⟩
  have e : ∀ x : Str, (x == s) = decide (s = x) := fun x => by
    by_cases z : s = x
    · subst z; simp
    · have : ¬ x = s := fun y => z y.symm
      simp [z, this]
  have : ([D.str a, D.str b].any fun d => eqFl d (.str s)) = decide (s = a ∨ s = b) := by
    simp only [List.any_cons, List.any_nil, Bool.or_false, eqFl_str]
    rw [e, e]; simp
  show Q (.bl ([D.str a, D.str b].any fun d => eqFl d (.str s))) m
  rw [this]; exact q
/-! ### the four parts -/
theorem Pln.Ok.sub {p : Pln} (h : p.Ok) {a : List (Str × Str)} {b : List (End × End)} {c : List (Str × End)} {d : List (Str × End × Option Step)} (h1 : a.Sublist p.st) (h2 : b.Sublist p.jo) (h3 : c.Sublist p.ga) (h4 : d.Sublist p.si) : Pln.Ok ⟨a, b, c, d⟩ :=
  ⟨fun s x => h.st s (h1.subset x), fun s x => h.jo s (h2.subset x), fun s x => h.ga s (h3.subset x), fun s x => h.si s (h4.subset x), Nat.le_trans h1.length_le h.n1, Nat.le_trans h2.length_le h.n2, Nat.le_trans h3.length_le h.n3, Nat.le_trans h4.length_le h.n4⟩
def Pln.L (p : Pln) : List (List D) := [p.st.map strD, p.jo.map joD, p.ga.map gaD, p.si.map siD]
theorem L_ok {p : Pln} (h : p.Ok) : ∀ l ∈ p.L, l.length ≤ 100 := fun l hl => by
  have b1 := h.n1; have b2 := h.n2; have b3 := h.n3; have b4 := h.n4
  unfold Pln.L at hl
  simp only [List.mem_cons, List.not_mem_nil, or_false] at hl
  rcases hl with rfl | rfl | rfl | rfl <;> rw [List.length_map] <;> omega
theorem erase_mapG {α : Type} (f : α → D) : ∀ {l : List α} {k : Nat}, (l.map f).eraseIdx k = (l.eraseIdx k).map f
  | [], _ => rfl
  | _ :: _, 0 => rfl
  | a :: l, k + 1 => by rw [List.map_cons, List.eraseIdx_cons_succ, List.eraseIdx_cons_succ, List.map_cons, erase_mapG f]
theorem wo0 {p : Pln} (h : p.Ok) {k : Nat} {m : M} {Q : DK} (q : Q (Pln.d ⟨p.st.eraseIdx k, p.jo, p.ga, p.si⟩) m) : spWo [p.d, .int 0, .int (k : Int)] m Q := ⟨p.L, 0, k, rfl, rfl, L_ok h, _, rfl, by rw [erase_mapG]; exact q⟩
theorem wo1 {p : Pln} (h : p.Ok) {k : Nat} {m : M} {Q : DK} (q : Q (Pln.d ⟨p.st, p.jo.eraseIdx k, p.ga, p.si⟩) m) : spWo [p.d, .int 1, .int (k : Int)] m Q := ⟨p.L, 1, k, rfl, rfl, L_ok h, _, rfl, by rw [erase_mapG]; exact q⟩
theorem wo2 {p : Pln} (h : p.Ok) {k : Nat} {m : M} {Q : DK} (q : Q (Pln.d ⟨p.st, p.jo, p.ga.eraseIdx k, p.si⟩) m) : spWo [p.d, .int 2, .int (k : Int)] m Q := ⟨p.L, 2, k, rfl, rfl, L_ok h, _, rfl, by rw [erase_mapG]; exact q⟩
theorem wo3 {p : Pln} (h : p.Ok) {k : Nat} {m : M} {Q : DK} (q : Q (Pln.d ⟨p.st, p.jo, p.ga, p.si.eraseIdx k⟩) m) : spWo [p.d, .int 3, .int (k : Int)] m Q := ⟨p.L, 3, k, rfl, rfl, L_ok h, _, rfl, by rw [erase_mapG]; exact q⟩
theorem put0 {p : Pln} (h : p.Ok) {k : Nat} {x : Str × Str} {m : M} {Q : DK} (q : Q (Pln.d ⟨insA p.st k x, p.jo, p.ga, p.si⟩) m) : spPut [p.d, .int 0, .int (k : Int), strD x] m Q := ⟨p.L, 0, k, strD x, rfl, rfl, L_ok h, _, rfl, by rw [← insA_map]; exact q⟩
theorem put1 {p : Pln} (h : p.Ok) {k : Nat} {x : End × End} {m : M} {Q : DK} (q : Q (Pln.d ⟨p.st, insA p.jo k x, p.ga, p.si⟩) m) : spPut [p.d, .int 1, .int (k : Int), joD x] m Q := ⟨p.L, 1, k, joD x, rfl, rfl, L_ok h, _, rfl, by rw [← insA_map]; exact q⟩
theorem put2 {p : Pln} (h : p.Ok) {k : Nat} {x : Str × End} {m : M} {Q : DK} (q : Q (Pln.d ⟨p.st, p.jo, insA p.ga k x, p.si⟩) m) : spPut [p.d, .int 2, .int (k : Int), gaD x] m Q := ⟨p.L, 2, k, gaD x, rfl, rfl, L_ok h, _, rfl, by rw [← insA_map]; exact q⟩
theorem put3 {p : Pln} (h : p.Ok) {k : Nat} {x : Str × End × Option Step} {m : M} {Q : DK} (q : Q (Pln.d ⟨p.st, p.jo, p.ga, insA p.si k x⟩) m) : spPut [p.d, .int 3, .int (k : Int), siD x] m Q := ⟨p.L, 3, k, siD x, rfl, rfl, L_ok h, _, rfl, by rw [← insA_map]; exact q⟩
theorem Pln.Ok.put0 {p : Pln} (h : p.Ok) {k : Nat} {x : Str × Str} (hx : strOk' x) (hl : p.st.length < 12) : Pln.Ok ⟨insA p.st k x, p.jo, p.ga, p.si⟩ :=
  { h with st := fun s hs => (insA_mem.mp hs).elim (fun z => z ▸ hx) (h.st s), n1 := by rw [insA_len]; exact hl }
theorem Pln.Ok.put1 {p : Pln} (h : p.Ok) {k : Nat} {x : End × End} (hx : joOk x) (hl : p.jo.length < 16) : Pln.Ok ⟨p.st, insA p.jo k x, p.ga, p.si⟩ :=
  { h with jo := fun s hs => (insA_mem.mp hs).elim (fun z => z ▸ hx) (h.jo s), n2 := by rw [insA_len]; exact hl }
theorem Pln.Ok.put2 {p : Pln} (h : p.Ok) {k : Nat} {x : Str × End} (hx : gaOk x) (hl : p.ga.length < 4) : Pln.Ok ⟨p.st, p.jo, insA p.ga k x, p.si⟩ :=
  { h with ga := fun s hs => (insA_mem.mp hs).elim (fun z => z ▸ hx) (h.ga s), n3 := by rw [insA_len]; exact hl }
theorem Pln.Ok.put3 {p : Pln} (h : p.Ok) {k : Nat} {x : Str × End × Option Step} (hx : siOk x) (hl : p.si.length < 10) : Pln.Ok ⟨p.st, p.jo, p.ga, insA p.si k x⟩ :=
  { h with si := fun s hs => (insA_mem.mp hs).elim (fun z => z ▸ hx) (h.si s), n4 := by rw [insA_len]; exact hl }
end PL
namespace PL
open PySem PySem.Spec PyProof.Rows L2 GA GxR DL TM
def spNames (Ok : M → Prop) : DSp := fun ds m Q => ∃ (d : D) (p : Pln) (n : Str), ds = [d, p.d, .str n] ∧ Dk m d ∧ p.Ok ∧ Chk p ∧ Ok m ∧ nameS n = true ∧ n ∉ p.nms ∧ p.st.length ≤ 8 ∧ p.ga.length ≤ 3 ∧ p.si.length ≤ 9 ∧ ∀ m', Ext m m' → Q (.bl true) m'
def spJns (Ok : M → Prop) : DSp := fun ds m Q => ∃ (d : D) (p : Pln), ds = [d, p.d] ∧ Dk m d ∧ p.Ok ∧ Chk p ∧ Ok m ∧ ∀ m', Ext m m' → Q (.bl true) m'
def spPuts (Ok : M → Prop) : DSp := fun ds m Q => ∃ (d : D) (p : Pln) (n : Str), ds = [d, p.d, .str n] ∧ Dk m d ∧ p.Ok ∧ Chk p ∧ Ok m ∧ nameS n = true ∧ n ∉ p.nms ∧ p.ga.length ≤ 3 ∧ p.si.length ≤ 9 ∧ ∀ m', Ext m m' → Q (.bl true) m'
def spSig (Ok : M → Prop) : DSp := fun ds m Q => ∃ (d : D) (p : Pln) (n : Str) (e : End), ds = [d, p.d, .str n, endD e, .bl (plainAt p.st e), optE (partAt p.jo e)] ∧ Dk m d ∧ p.Ok ∧ Chk p ∧ Ok m ∧ nameS n = true ∧ n ∉ p.nms ∧ p.si.length ≤ 9 ∧ e ∈ stEnds p.st ∧ ∀ m', Ext m m' → Q (.bl true) m'
theorem nmD_inj {a b : Str × List D} (h : nmD a = nmD b) : a = b := by
  obtain ⟨a1, a2⟩ := a; obtain ⟨b1, b2⟩ := b
  unfold nmD at h
  injection h with h
  injection h with h1 h2
  injection h1 with h1
  exact Prod.ext h1 h2
end PL
namespace PL
open PySem PySem.Spec PyProof.Rows L2 GA GxR DL TM
theorem seqI {a b : DTS} {E : DEnds} {δ : Sl} {m : M} (h : a { E with nx := fun δ' m' => b E δ' m' } δ m) : dSeq a b E δ m := h
theorem pickL {ds : List D} {d : D} {m : M} {Q : DK} {p : Addr} (hd : Dk m d) (h0 : ds ≠ []) (hl : ds.length ≤ 100) (q : ∀ y ∈ ds, Q y (m.set p (.lst ds))) : spPick [d, .ref p] (m.set p (.lst ds)) Q :=
  ⟨d, .ref p, ds, rfl, hd.ext rfl, .inr (.inr ⟨p, rfl, M.set_same⟩), h0, by omega, q⟩
def sgI (p : Pln) : List (Str × List D) := p.st.map (fun s => (s.1, [D.str s.2])) ++ p.ga.map (fun g => (g.1, [endD g.2]))
theorem sgI_d (p : Pln) : (sgI p).map nmD = p.st.map strD ++ p.ga.map gaD := by unfold sgI; rw [List.map_append, List.map_map, List.map_map]; rfl
theorem sgI_1 (p : Pln) : (sgI p).map (·.1) = p.st.map (·.1) ++ p.ga.map (·.1) := by unfold sgI; rw [List.map_append, List.map_map, List.map_map]; rfl
theorem fT {α : Type} (l : List α) : (l.filter fun _ => true) = l := List.filter_eq_self.mpr fun _ _ => rfl
theorem nms_ok {p : Pln} (h : p.Ok) : ∀ n ∈ p.nms, nameS n = true := fun n hn => by
  unfold Pln.nms at hn
  rcases List.mem_append.mp hn with hn | hn
  · rcases List.mem_append.mp hn with hn | hn
    · obtain ⟨s, hs, rfl⟩ := List.mem_map.mp hn; exact (h.st s hs).1
    · obtain ⟨s, hs, rfl⟩ := List.mem_map.mp hn; exact (h.ga s hs).1
  · obtain ⟨s, hs, rfl⟩ := List.mem_map.mp hn; exact (h.si s hs).1
theorem nms_len {p : Pln} (h : p.Ok) : p.nms.length ≤ 100 := by
  have b1 := h.n1; have b3 := h.n3; have b4 := h.n4
  unfold Pln.nms
  rw [List.length_append, List.length_append, List.length_map, List.length_map, List.length_map]; omega
theorem fine_names {l : List Str} (h : ∀ s ∈ l, nameS s = true) : ∀ d ∈ l.map D.str, Fine d := fun d hd => by
  obtain ⟨s, hs, rfl⟩ := List.mem_map.mp hd
  exact Fine.ofStr (h s hs)
theorem fine_nats (l : List Nat) : ∀ d ∈ l.map (fun j : Nat => D.int (j : Int)), Fine d := fun d hd => by
  obtain ⟨s, hs, rfl⟩ := List.mem_map.mp hd
  exact Fine.int _
theorem nil_of {α : Type} {f : α → D} {l : List α} (h : (!(l.map f).isEmpty) = false) : l = [] := by cases l with
  | nil => rfl
  | cons _ _ => cases h
theorem ne_of' {α : Type} {f : α → D} {l : List α} (h : (!(l.map f).isEmpty) = true) : l ≠ [] := fun z => by subst z; cases h
/-- what is due to a name put in -/
def dueN (p : Pln) (pt : Int) (o : Str) : Option (Str × Str) := if p.nms ≠ [] then some (("name" : Str), o) else if pt = 0 then none else some (("end" : Str), o)
theorem dueN_st {p : Pln} (hc : Chk p) {o kd : Str} {k : Nat} (h1 : p.nms ≠ [] → o ∈ p.nms) : faultP ⟨insA p.st k (o, kd), p.jo, p.ga, p.si⟩ = dueN p 0 o := by
  unfold dueN
  by_cases z : p.nms ≠ []
  · rw [if_pos z]; exact f_name (hc.oldN (h1 z) (nms_perm0 p k (o, kd)))
  · rw [if_neg z, if_pos rfl]
    exact chk_iff.mpr (hc.inst (by rw [show p.nms = [] from Classical.byContradiction z]; simp) kd k)
theorem dueN_ga {p : Pln} (hc : Chk p) {o n : Str} {k : Nat} (h1 : p.nms ≠ [] → o ∈ p.nms) : faultP ⟨p.st, p.jo, insA p.ga k (o, (n, 0)), p.si⟩ = dueN p 2 o := by
  unfold dueN
  by_cases z : p.nms ≠ []
  · rw [if_pos z]; exact f_name (hc.oldN (h1 z) (nms_perm2 p k (o, (n, 0))))
  · rw [if_neg z, if_neg (by decide)]
    have z : p.nms = [] := Classical.byContradiction z
    have e := hc.empty z
    subst e
    refine f_end (hc.newN (n := o) (by rw [z]; simp) (nms_perm2 _ k (o, (n, 0)))) ?_
    unfold insA missEnd Pln.gs endEx kindAt
    simp
theorem dueN_si {p : Pln} (hc : Chk p) {o n : Str} {k : Nat} (h1 : p.nms ≠ [] → o ∈ p.nms) : faultP ⟨p.st, p.jo, p.ga, insA p.si k (o, (n, 0), none)⟩ = dueN p 3 o := by
  unfold dueN
  by_cases z : p.nms ≠ []
  · rw [if_pos z]; exact f_name (hc.oldN (h1 z) (nms_perm3 p k (o, (n, 0), none)))
  · rw [if_neg z, if_neg (by decide)]
    have z : p.nms = [] := Classical.byContradiction z
    have e := hc.empty z
    subst e
    refine f_end (hc.newN (n := o) (by rw [z]; simp) (nms_perm3 _ k (o, (n, 0), none))) ?_
    unfold insA missEnd Pln.gs endEx kindAt
    simp
theorem dueN_ok {p : Pln} {pt : Int} {o : Str} (ho : nameS o = true) : okF (dueN p pt o) := by
  unfold dueN
  by_cases z : p.nms ≠ []
  · rw [if_pos z]; exact okF_some okW_words.1 ho
  · rw [if_neg z]
    by_cases z2 : pt = 0
    · rw [if_pos z2]; exact okF_none
    · rw [if_neg z2]; exact okF_some okW_words.2.1 ho
end PL
namespace PL
open PySem PySem.Spec PyProof.Rows L2 GA GxR DL TM
theorem num0 : numOk 0 := ⟨by decide, by decide⟩
theorem end0 {n : Str} (h : nameS n = true) : endOk (n, 0) := ⟨h, num0⟩
theorem used_e (p : Pln) : (sgI p).map (fun z => D.str z.1) ++ p.si.map (fun s => D.str s.1) = p.nms.map D.str := by
  have e1 : (sgI p).map (fun z => D.str z.1) = ((sgI p).map (·.1)).map D.str := by rw [List.map_map]; rfl
  have e2 : p.si.map (fun s => D.str s.1) = (p.si.map (·.1)).map D.str := by rw [List.map_map]; rfl
  rw [e1, e2, sgI_1, ← List.map_append]; rfl
end PL
namespace PL
open PySem PySem.Spec PyProof.Rows L2 GA GxR DL TM
theorem dFor_RE {te : DTr} {g : Tg} {tb : DTS} {E : DEnds} {δ : Sl} {m : M} {n : Nat} (hw : ∀ R : DK, (∀ m1, Ext m m1 → R (.int (n : Int)) m1) → te δ m R) (hn : n ≤ 1000) (P : Nat → Sl → M → Prop) (h0 : ∀ m1, Ext m m1 → P 0 δ m1)
    (hs : ∀ (i : Nat) δ m', i < n → P i δ m' → gD g (.int (i : Int)) δ fun δ2 => tb { E with nx := P (i + 1), ct := P (i + 1), bk := E.nx } δ2 m') (hd : ∀ δ m', P n δ m' → E.nx δ m') : dFor (iR1 te) g tb E δ m :=
  hw _ fun m1 hE => ⟨(n : Int), rfl, by omega, by omega, P, h0 m1 hE, fun _ _ _ _ => trivial, fun i d δ2 m' h hP => by
    have hi := (List.getElem?_eq_some_iff.mp h).1
    rw [rangeD_len, Int.toNat_natCast] at hi
    rw [Int.toNat_natCast, rangeD_get hi] at h; cases h
    exact hs i δ2 m' hi hP, fun δ m' h => hd δ m' (by rw [rangeD_len, Int.toNat_natCast] at h; exact h)⟩
def shB (a b : End) (j : End × End) : Bool := decide (a = j.1 ∨ a = j.2) || decide (b = j.1 ∨ b = j.2)
theorem shB_iff {a b : End} {j : End × End} : shB a b j = true ↔ (j.1 = a ∨ j.2 = a ∨ j.1 = b ∨ j.2 = b) := by
  unfold shB
  rw [Bool.or_eq_true, decide_eq_true_eq, decide_eq_true_eq]
  constructor
  · rintro ((h | h) | (h | h)) <;> simp [h]
  · rintro (h | h | h | h) <;> simp [h]
theorem shB_eq (a b : End) : (fun j : End × End => decide (j.1 = a ∨ j.2 = a ∨ j.1 = b ∨ j.2 = b)) = shB a b := by
  funext j
  rw [Bool.eq_iff_iff, shB_iff, decide_eq_true_eq]
theorem sh_none {a b : End} {l : List (End × End)} (h : ∀ j ∈ l, shB a b j = false) : a ∉ jends l ∧ b ∉ jends l := by
  constructor <;> intro z <;> obtain ⟨j, hj, w⟩ := mem_jends.mp z <;> have := h j hj <;> rw [Bool.eq_false_iff] at this <;> refine this (shB_iff.mpr ?_) <;> rcases w with w | w <;> simp [w]
theorem sh_any {a b : End} {l : List (End × End)} (h : l.any (shB a b) = true) : a ∈ jends l ∨ b ∈ jends l := by
  obtain ⟨j, hj, w⟩ := List.any_eq_true.mp h
  rcases shB_iff.mp w with w | w | w | w
  · exact .inl (mem_jends.mpr ⟨j, hj, .inl w.symm⟩)
  · exact .inl (mem_jends.mpr ⟨j, hj, .inr w.symm⟩)
  · exact .inr (mem_jends.mpr ⟨j, hj, .inl w.symm⟩)
  · exact .inr (mem_jends.mpr ⟨j, hj, .inr w.symm⟩)
theorem joinF1 {p : Pln} {k : Nat} {a b : End} (h : a.1 = b.1) : joinFault p k a b = some (("joint" : Str), a.1) := by unfold joinFault; rw [if_pos (.inl h)]
theorem joinF2 {p : Pln} {k i : Nat} {a b : End} {r : List Nat} (h : ixs (shB a b) 0 p.jo = i :: r) (hi : i < k) : joinFault p k a b = some (("joint" : Str), a.1) := by
  have z := ixs_head (b := shB a b) (n := 0) (l := p.jo)
  rw [h] at z
  obtain ⟨_, x, _, _, h4⟩ := z
  unfold joinFault
  rw [if_pos]
  exact .inr (sh_any ((h4 k).2 (by omega)))
theorem joinF3 {p : Pln} {k i : Nat} {a b : End} {r : List Nat} (h0 : a.1 ≠ b.1) (h : ixs (shB a b) 0 p.jo = i :: r) (hi : ¬ i < k) : ∃ j, p.jo[i]? = some j ∧ joinFault p k a b = some (("joint" : Str), j.1.1) := by
  have z := ixs_head (b := shB a b) (n := 0) (l := p.jo)
  rw [h] at z
  obtain ⟨_, x, h2, _, h4⟩ := z
  obtain ⟨h5, h6⟩ := (h4 k).1 (by omega)
  refine ⟨x, h2, ?_⟩
  unfold joinFault
  rw [if_neg]
  · rw [shB_eq, h6]
  · have h7 := sh_none (a := a) (b := b) (l := p.jo.take k) fun j hj => by
      have := List.all_eq_true.mp h5 j hj
      simpa using this
    rintro (z | z | z)
    · exact h0 z
    · exact h7.1 z
    · exact h7.2 z
theorem joinF4 {p : Pln} {k : Nat} {a b : End} (h0 : a.1 ≠ b.1) (h : ixs (shB a b) 0 p.jo = []) : joinFault p k a b = tag "gate" ((p.ga.filter fun g => decide (g.2 = a ∨ g.2 = b)).map (·.1)).head? := by
  have z := ixs_head (b := shB a b) (n := 0) (l := p.jo)
  rw [h] at z
  have z : ∀ j ∈ p.jo, shB a b j = false := z
  unfold joinFault
  rw [if_neg, shB_eq, List.find?_eq_none.mpr, List.head?_map, ← find_head]
  · intro j hj; rw [z j (List.mem_of_mem_drop hj)]; decide
  · have h7 := sh_none (a := a) (b := b) (l := p.jo.take k) fun j hj => z j (List.mem_of_mem_take hj)
    rintro (y | y | y)
    · exact h0 y
    · exact h7.1 y
    · exact h7.2 y
theorem ix_nat {l : List Nat} {i : Nat} {r : List Nat} {a : Addr} {m : M} {Q : DK} (h : m.mu a = some (.lst (l.map fun j : Nat => D.int (j : Int)))) (hl : l = i :: r) (q : Q (.int (i : Int)) m) : rdIx (.ref a) (.int 0) m Q := ⟨_, .int (i : Int), h, by
  subst hl
  unfold atI ixN; rw [if_pos (by decide), if_pos (by simp only [List.map_cons, List.length_cons]; omega)]; rfl, q⟩
theorem ix_map {α : Type} {f : α → D} {l : List α} {i : Nat} {x : α} {m : M} {Q : DK} (h : l[i]? = some x) (q : Q (f x) m) : rdIx (.tup (l.map f)) (.int (i : Int)) m Q := ⟨f x, by
  have hi := (List.getElem?_eq_some_iff.mp h).1
  unfold atI ixN
  rw [if_pos (by omega), if_pos (by rw [List.length_map]; omega)]
  show (l.map f)[(i : Int).toNat]? = _
  rw [Int.toNat_natCast, List.getElem?_map, h]; rfl, q⟩
theorem stEnds_ok {p : Pln} (h : p.Ok) {e : End} (he : e ∈ stEnds p.st) : endOk e := by
  obtain ⟨s, hs, h1, h2, h3⟩ := mem_stEnds.mp he
  obtain ⟨n, hn, _, _, h4, _⟩ := many_val2 (h.st s hs).2
  exact ⟨by rw [h1]; exact (h.st s hs).1, by unfold numOk; omega⟩
theorem stEnds_le {p : Pln} (h : p.Ok) : (stEnds p.st).length ≤ 48 := by
  have := stEnds_len fun s hs => (h.st s hs).2
  have b1 := h.n1
  omega
theorem fine_ends {l : List End} (h : ∀ e ∈ l, endOk e) : ∀ d ∈ l.map endD, Fine d := fun d hd => by
  obtain ⟨e, he, rfl⟩ := List.mem_map.mp hd
  exact end_fine (h e he)
end PL
namespace PL
open PySem PySem.Spec PyProof.Rows L2 GA GxR DL TM
theorem isRet {Ok : M → Prop} {tx ty : DTr} {E : DEnds} {δ : Sl} {m : M} {p : Pln} {due : Option (Str × Str)} (hx : ∀ R : DK, R p.d m → tx δ m R) (hy : ∀ R : DK, (∀ m1, Ext m m1 → R (optF due) m1) → ty δ m R) (hp : p.Ok) (hO : ∀ m1, Ext m m1 → Ok m1) (hok : okF due) (hf : faultP p = due)
    (q : ∀ m', Ext m m' → E.rt (.bl true) m') : dRet (dCall (spIs Ok) (dCons tx (dCons ty dNil))) E δ m := by
  dsimp only [dRet, dCall, dCons, dNil]
  exact hx _ (hy _ fun m1 E1 => ⟨p, due, rfl, ⟨hp, hO m1 E1⟩, hok, hf, fun m2 E2 => q m2 (E1.trans E2)⟩)
theorem eqE {a b : End} {m : M} {Q : DK} (ha : endOk a) (hb : endOk b) (q : Q (.bl (decide (a = b))) m) : rdEq false (endD a) (endD b) m Q := eqG (end_fine ha) (end_fine hb) (by rw [eqv_end]; exact q)
theorem isN_E {o : Option End} {m : M} {Q : DK} (q : Q (.bl o.isNone) m) : rdIsN false (optE o) .non m Q := by cases o <;> exact q
theorem notN_E {o : Option End} {m : M} {Q : DK} (q : Q (.bl (!o.isNone)) m) : rdIsN true (optE o) .non m Q := by cases o <;> exact q
theorem isN_F {o : Option (Str × Str)} {m : M} {Q : DK} (q : Q (.bl o.isNone) m) : rdIsN false (optF o) .non m Q := by cases o <;> exact q
/-! ### the fault of a signal more -/
theorem gs2_take {p : Pln} {k : Nat} {e : End} : e ∈ (p.gs2.take k).map (·.2) ↔ (p.si.take k).any (fun s => decide (s.2.1 = e)) = true := by
  unfold Pln.gs2
  rw [← List.map_take, List.map_map, List.any_eq_true, List.mem_map]
  exact ⟨fun ⟨s, h1, h2⟩ => ⟨s, h1, decide_eq_true h2⟩, fun ⟨s, h1, h2⟩ => ⟨s, h1, of_decide_eq_true h2⟩⟩
theorem gs2_drop {p : Pln} {k : Nat} {e : End} : ((p.gs2.drop k).find? fun g => decide (g.2 = e)) = ((p.si.drop k).find? fun s => decide (s.2.1 = e)).map fun s => (s.1, s.2.1) := by
  unfold Pln.gs2
  rw [← List.map_drop, List.find?_map]; rfl
theorem all_not {α : Type} {b : α → Bool} {l : List α} (h : l.all (fun y => !b y) = true) : ¬ l.any b = true := fun z => by
  obtain ⟨x, hx, hb⟩ := List.any_eq_true.mp z
  have := List.all_eq_true.mp h x hx
  rw [hb] at this; cases this
def nearS (p : Pln) (e : End) : List Nat := ixs (fun s : Str × End × Option Step => decide (s.2.1 = e)) 0 p.si
theorem sigF1 {p : Pln} {k : Nat} {n : Str} {e : End} {o : Option Step} (h : plainAt p.st e = false ∨ partAt p.jo e = none) : signalFault p k n e o = some (("signal" : Str), n) := by
  unfold signalFault
  rw [if_pos]
  rcases h with h | h
  · exact .inr (.inr (of_decide_eq_false h))
  · exact .inl (part_none.mp (by rw [h]; rfl))
theorem sigF2 {p : Pln} {k i : Nat} {n : Str} {e : End} {o : Option Step} {r : List Nat} (h : nearS p e = i :: r) (hi : i < k) : signalFault p k n e o = some (("signal" : Str), n) := by
  have z := ixs_head (b := fun s : Str × End × Option Step => decide (s.2.1 = e)) (n := 0) (l := p.si)
  rw [show ixs (fun s : Str × End × Option Step => decide (s.2.1 = e)) 0 p.si = i :: r from h] at z
  obtain ⟨_, x, _, _, h4⟩ := z
  unfold signalFault
  rw [if_pos]
  exact .inr (.inl (gs2_take.mpr ((h4 k).2 (by omega))))
theorem sigF3 {p : Pln} {k i : Nat} {n : Str} {e f : End} {r : List Nat} (h0 : plainAt p.st e = true) (h1 : partAt p.jo e = some f) (h : nearS p e = i :: r) (hi : ¬ i < k) : ∃ s, p.si[i]? = some s ∧ ∀ o, signalFault p k n e o = some (("signal" : Str), s.1) := by
  have z := ixs_head (b := fun s : Str × End × Option Step => decide (s.2.1 = e)) (n := 0) (l := p.si)
  rw [show ixs (fun s : Str × End × Option Step => decide (s.2.1 = e)) 0 p.si = i :: r from h] at z
  obtain ⟨_, x, h2, _, h4⟩ := z
  obtain ⟨h5, h6⟩ := (h4 k).1 (by omega)
  refine ⟨x, h2, fun o => ?_⟩
  unfold signalFault
  rw [if_neg, gs2_drop, h6]; rfl
  rintro (y | y | y)
  · exact y (part_some.mp (by rw [h1]; rfl))
  · exact all_not h5 (gs2_take.mp y)
  · exact y (of_decide_eq_true h0)
theorem sigF4 {p : Pln} {k : Nat} {n : Str} {e f : End} (h0 : plainAt p.st e = true) (h1 : partAt p.jo e = some f) (h : nearS p e = []) (o : Option Step) : signalFault p k n e o = if badOv p (n, e, o) = true then some (("overlap" : Str), n) else none := by
  have z := ixs_head (b := fun s : Str × End × Option Step => decide (s.2.1 = e)) (n := 0) (l := p.si)
  rw [show ixs (fun s : Str × End × Option Step => decide (s.2.1 = e)) 0 p.si = [] from h] at z
  have z : ∀ s ∈ p.si, decide (s.2.1 = e) = false := z
  unfold signalFault
  rw [if_neg, gs2_drop, List.find?_eq_none.mpr]; rfl
  · intro s hs; rw [z s (List.mem_of_mem_drop hs)]; decide
  · rintro (y | y | y)
    · exact y (part_some.mp (by rw [h1]; rfl))
    · obtain ⟨s, hs, hb⟩ := List.any_eq_true.mp (gs2_take.mp y)
      rw [z s (List.mem_of_mem_take hs)] at hb; cases hb
    · exact y (of_decide_eq_true h0)
/-! ### the ways, as the law writes them -/
def waysS (k : Str) : List (Int × Int) := if k = "plain" then [(0, 1), (1, 0)] else if k = "points" then [] else [(0, 1), (1, 0), (2, 3), (3, 2)]
def wayD2 (w : Int × Int) : D := .tup [.int w.1, .int w.2]
def waysKV (a b c : Addr) : List (Key × D) := [(.inr "plain", .ref a), (.inr "points", .ref b), (.inr "crossing", .ref c)]
theorem dDisp_ways {δ : Sl} {m : M} {Q : DK} (h : ∀ p a b c m', Ext m m' → m'.mu p = some (.dic (waysKV a b c)) → m'.mu a = some (.lst ((waysS "plain").map wayD2)) → m'.mu b = some (.lst ((waysS "points").map wayD2)) → m'.mu c = some (.lst ((waysS "crossing").map wayD2)) → Q (.ref p) m') :
    dDisp [("plain", dLst (dCons (dTup (dCons (dC (.int 0)) (dCons (dC (.int 1)) dNil))) (dCons (dTup (dCons (dC (.int 1)) (dCons (dC (.int 0)) dNil))) dNil))), ("points", dLst dNil),
      ("crossing", dLst (dCons (dTup (dCons (dC (.int 0)) (dCons (dC (.int 1)) dNil))) (dCons (dTup (dCons (dC (.int 1)) (dCons (dC (.int 0)) dNil))) (dCons (dTup (dCons (dC (.int 2)) (dCons (dC (.int 3)) dNil))) (dCons (dTup (dCons (dC (.int 3)) (dCons (dC (.int 2)) dNil))) dNil)))))] δ m Q := fun p hp => by
  dsimp only [dPairs, dLst, dCons, dTup, dC, dNil]
  refine ⟨slk (by simp), slk (by simp), slk (by simp), fun a ha => ⟨slk (by simp), fun b hb => ⟨slk (by simp), slk (by simp), slk (by simp), slk (by simp), slk (by simp), fun c hc => ?_⟩⟩⟩
  have e1 := (Ext.new (o := .dic []) hp)
  have h1 : (m.set p (.dic [])).mu p = _ := M.set_same
  generalize m.set p (.dic []) = m1 at *
  have e2 := e1.trans (Ext.new (o := .lst ((waysS "plain").map wayD2)) ha)
  have h2 := (Ext.new (o := .lst ((waysS "plain").map wayD2)) ha).old _ _ h1
  have k2 : (m1.set a (.lst ((waysS "plain").map wayD2))).mu a = _ := M.set_same
  have q2 : m1.set a (.lst [.tup [.int 0, .int 1], .tup [.int 1, .int 0]]) = m1.set a (.lst ((waysS "plain").map wayD2)) := rfl
  rw [q2] at hb hc ⊢
  generalize m1.set a (.lst ((waysS "plain").map wayD2)) = m2 at *
  have e3 := e2.trans (Ext.new (o := .lst ((waysS "points").map wayD2)) hb)
  have h3 := (Ext.new (o := .lst ((waysS "points").map wayD2)) hb).old _ _ h2
  have k3 := (Ext.new (o := .lst ((waysS "points").map wayD2)) hb).old _ _ k2
  have j3 : (m2.set b (.lst ((waysS "points").map wayD2))).mu b = _ := M.set_same
  have q3 : m2.set b (.lst []) = m2.set b (.lst ((waysS "points").map wayD2)) := rfl
  rw [q3] at hc ⊢
  generalize m2.set b (.lst ((waysS "points").map wayD2)) = m3 at *
  have e4 := e3.trans (Ext.new (o := .lst ((waysS "crossing").map wayD2)) hc)
  have h4 := (Ext.new (o := .lst ((waysS "crossing").map wayD2)) hc).old _ _ h3
  have k4 := (Ext.new (o := .lst ((waysS "crossing").map wayD2)) hc).old _ _ k3
  have j4 := (Ext.new (o := .lst ((waysS "crossing").map wayD2)) hc).old _ _ j3
  have i4 : (m3.set c (.lst ((waysS "crossing").map wayD2))).mu c = _ := M.set_same
  have q4 : m3.set c (.lst [.tup [.int 0, .int 1], .tup [.int 1, .int 0], .tup [.int 2, .int 3], .tup [.int 3, .int 2]]) = m3.set c (.lst ((waysS "crossing").map wayD2)) := rfl
  rw [q4]
  generalize m3.set c (.lst ((waysS "crossing").map wayD2)) = m4 at *
  refine ⟨h4, ?_⟩
  have ne : ∀ {x : Addr} {l : List D}, m4.mu x = some (.lst l) → x ≠ p := fun {x l} hx z => by rw [z, h4] at hx; cases hx
  refine h p a b c _ (e4.set hp) (by rw [M.set_same]; with_unfolding_all rfl) ((M.set_ne (ne k4)).trans k4) ((M.set_ne (ne j4)).trans j4) ((M.set_ne (ne i4)).trans i4)
theorem ways_get {m : M} {p a b c : Addr} {kd : Str} (hk : kindS kd = true) (h : m.mu p = some (.dic (waysKV a b c))) (ha : m.mu a = some (.lst ((waysS "plain").map wayD2))) (hb : m.mu b = some (.lst ((waysS "points").map wayD2))) (hc : m.mu c = some (.lst ((waysS "crossing").map wayD2))) :
    ∃ x, GetD m p (.str kd) (some (.ref x)) ∧ m.mu x = some (.lst ((waysS kd).map wayD2)) := by
  rcases kind3 hk with rfl | rfl | rfl
  · exact ⟨a, .inl ⟨_, .inr "plain", h, rfl, by with_unfolding_all rfl⟩, ha⟩
  · exact ⟨b, .inl ⟨_, .inr "points", h, rfl, by with_unfolding_all rfl⟩, hb⟩
  · exact ⟨c, .inl ⟨_, .inr "crossing", h, rfl, by with_unfolding_all rfl⟩, hc⟩
theorem eqv_w2 {w : Int × Int} {i r : Int} : PyData.eqv (wayD2 w).py (D.tup [.int i, .int r]).py = decide (w = (i, r)) := by
  obtain ⟨w1, w2⟩ := w
  show ((w1 == i) && ((w2 == r) && true)) = _
  by_cases h1 : w1 = i
  · subst h1
    by_cases h2 : w2 = r
    · subst h2; simp
    · simp [h2]
  · simp [h1]
theorem w2_fine (w : Int × Int) : Fine (wayD2 w) := Fine.tup (fun d hd => by
  simp only [List.mem_cons, List.not_mem_nil, or_false] at hd
  rcases hd with rfl | rfl <;> exact Fine.int _) (fun d hd => by
  simp only [List.mem_cons, List.not_mem_nil, or_false] at hd
  rcases hd with rfl | rfl <;> exact Nat.zero_le _)
theorem inW2 {i r : Int} {l : List (Int × Int)} {a : Addr} {m : M} {Q : DK} (h : m.mu a = some (.lst (l.map wayD2))) (q : Q (.bl (!decide ((i, r) ∈ l))) m) : rdInD true (.tup [.int i, .int r]) (.ref a) m Q := by
  have hf : ∀ d ∈ l.map wayD2, Fine d := fun d hd => by
    obtain ⟨w, _, rfl⟩ := List.mem_map.mp hd
    exact w2_fine w
  refine ⟨a, _, rfl, h, pures_of fun d hd => (hf d hd).pure, rfl, shaped_d (w2_fine (i, r)), shaped_l hf, ?_⟩
  have key : ∀ l : List (Int × Int), ((D.pys (l.map wayD2)).any fun z => PyData.eqv z (D.tup [.int i, .int r]).py) = decide ((i, r) ∈ l) := by
    intro l
    induction l with
    | nil => simp [D.pys]
    | cons w l ih =>
      show (PyData.eqv (wayD2 w).py (D.tup [.int i, .int r]).py || (D.pys (l.map wayD2)).any fun z => PyData.eqv z (D.tup [.int i, .int r]).py) = _
      rw [ih, eqv_w2]
      by_cases z : w = (i, r)
      · subst z; simp
      · have : ¬ (i, r) = w := fun y => z y.symm
        simp [z, this]
  show Q (.bl (!((D.pys (l.map wayD2)).any fun z => PyData.eqv z (D.tup [.int i, .int r]).py))) m
  rw [key]; exact q
theorem badOv_iff {p : Pln} {n : Str} {e b : End} {r : Int} {kd : Str} (hk : kindAt p.st b.1 = some kd) (hs : kindS kd = true) : badOv p (n, e, some (b.1, b.2, r)) = (!decide (partAt p.jo e = some b) || !decide ((b.2, r) ∈ waysS kd)) := by
  unfold badOv fitsOv
  dsimp only
  rw [hk]
  obtain ⟨b1, b2⟩ := b
  dsimp only
  have : ((decide (kd = "plain") || decide (kd = "crossing")) && decide ((b2, r) ∈ waysK kd)) = decide ((b2, r) ∈ waysS kd) := by
    rcases kind3 hs with rfl | rfl | rfl
    · rfl
    · rw [show (decide (("points" : Str) = "plain") || decide (("points" : Str) = "crossing")) = false by decide, Bool.false_and]
      exact (decide_eq_false (by show ¬ (b2, r) ∈ ([] : List (Int × Int)); simp)).symm
    · rfl
  rw [this, Bool.not_and]
end PL
namespace PL
open PySem PySem.Spec PyProof.Rows L2 GA GxR DL TM
theorem dFor_L {te : DTr} {g : Tg} {tb : DTS} {E : DEnds} {δ : Sl} {m : M} {α : Type} {f : α → D} {l : List α} (P : Addr → Nat → Sl → M → Prop)
    (hw : ∀ R : DK, (∀ a m1, Ext m m1 → m1.mu a = some (.lst (l.map f)) → R (.ref a) m1) → te δ m R) (h0 : ∀ a m1, Ext m m1 → m1.mu a = some (.lst (l.map f)) → P a 0 δ m1) (hk : ∀ a i δ m', P a i δ m' → m'.mu a = some (.lst (l.map f)))
    (hs : ∀ a (i : Nat) (x : α) δ m', l[i]? = some x → P a i δ m' → gD g (f x) δ fun δ2 => tb { E with nx := P a (i + 1), ct := P a (i + 1), bk := E.nx } δ2 m') (hd : ∀ a δ m', P a l.length δ m' → E.nx δ m') : dFor (iL te) g tb E δ m :=
  hw _ fun a m1 hE ha => ⟨a, l.map f, rfl, ha, P a, h0 a m1 hE ha, fun i δ m' h => hk a i δ m' h, fun i d δ2 m' h hP => by
    obtain ⟨x, hx, rfl⟩ := map_get h
    exact hs a i x δ2 m' hx hP, fun δ m' h => hd a δ m' (by rw [List.length_map] at h; exact h)⟩
def nearG (p : Pln) (e : End) : List Nat := ixs (fun g : Str × End => decide (g.2 = e)) 0 p.ga
theorem ga_take {p : Pln} {k : Nat} {e : End} : e ∈ (p.ga.take k).map (·.2) ↔ (p.ga.take k).any (fun s => decide (s.2 = e)) = true := by
  rw [List.any_eq_true, List.mem_map]
  exact ⟨fun ⟨s, h1, h2⟩ => ⟨s, h1, decide_eq_true h2⟩, fun ⟨s, h1, h2⟩ => ⟨s, h1, of_decide_eq_true h2⟩⟩
theorem gF1 {p : Pln} {k : Nat} {n : Str} {e : End} (h : e ∈ jends p.jo ∨ plainAt p.st e = false) : gateFault p k n e = some (("gate" : Str), n) := by
  unfold gateFault
  rw [if_pos]
  rcases h with h | h
  · exact .inl h
  · exact .inr (.inr (of_decide_eq_false h))
theorem gF2 {p : Pln} {k i : Nat} {n : Str} {e : End} {r : List Nat} (h : nearG p e = i :: r) (hi : i < k) : gateFault p k n e = some (("gate" : Str), n) := by
  have z := ixs_head (b := fun s : Str × End => decide (s.2 = e)) (n := 0) (l := p.ga)
  rw [show ixs (fun s : Str × End => decide (s.2 = e)) 0 p.ga = i :: r from h] at z
  obtain ⟨_, x, _, _, h4⟩ := z
  unfold gateFault
  rw [if_pos]
  exact .inr (.inl (ga_take.mpr ((h4 k).2 (by omega))))
theorem gF3 {p : Pln} {k i : Nat} {n : Str} {e : End} {r : List Nat} (h0 : plainAt p.st e = true) (h1 : e ∉ jends p.jo) (h : nearG p e = i :: r) (hi : ¬ i < k) : ∃ g, p.ga[i]? = some g ∧ gateFault p k n e = some (("gate" : Str), g.1) := by
  have z := ixs_head (b := fun s : Str × End => decide (s.2 = e)) (n := 0) (l := p.ga)
  rw [show ixs (fun s : Str × End => decide (s.2 = e)) 0 p.ga = i :: r from h] at z
  obtain ⟨_, x, h2, _, h4⟩ := z
  obtain ⟨h5, h6⟩ := (h4 k).1 (by omega)
  refine ⟨x, h2, ?_⟩
  unfold gateFault
  rw [if_neg, h6]; rfl
  rintro (y | y | y)
  · exact h1 y
  · exact all_not h5 (ga_take.mp y)
  · exact y (of_decide_eq_true h0)
theorem gF4 {p : Pln} {k : Nat} {n : Str} {e : End} (h0 : plainAt p.st e = true) (h1 : e ∉ jends p.jo) (h : nearG p e = []) : gateFault p k n e = none := by
  have z := ixs_head (b := fun s : Str × End => decide (s.2 = e)) (n := 0) (l := p.ga)
  rw [show ixs (fun s : Str × End => decide (s.2 = e)) 0 p.ga = [] from h] at z
  have z : ∀ s ∈ p.ga, decide (s.2 = e) = false := z
  unfold gateFault
  rw [if_neg, List.find?_eq_none.mpr]; rfl
  · intro s hs; rw [z s (List.mem_of_mem_drop hs)]; decide
  · rintro (y | y | y)
    · exact h1 y
    · obtain ⟨s, hs, hb⟩ := List.any_eq_true.mp (ga_take.mp y)
      rw [z s (List.mem_of_mem_take hs)] at hb; cases hb
    · exact y (of_decide_eq_true h0)
end PL

namespace PL
open PySem PySem.Spec PyProof.Rows L2 GA GxR DL TM
/-! ### the first wrong item, by its check -/
theorem dupGo_app {C : List Str} : ∀ {A ks : List Str}, dupGo ks A = none → dupGo ks (A ++ C) = dupGo (A.reverse ++ ks) C
  | [], _, _ => rfl
  | x :: A, ks, h => by
    by_cases hx : x ∈ ks
    · rw [dupGo_hit hx] at h; cases h
    · rw [dupGo_miss hx] at h
      rw [List.cons_append, dupGo_miss hx, dupGo_app h, List.reverse_cons, List.append_assoc]; rfl
theorem dup_first {A B : List Str} {x : Str} (hA : A.Nodup) (hx : x ∈ A) : dupGo [] (A ++ x :: B) = some x := by
  rw [dupGo_app (dup_none.mpr ⟨hA, by simp⟩)]
  exact dupGo_hit (by simpa using hx)
theorem wjGo_app {C : List (End × End)} : ∀ {A : List (End × End)} {ks : List End}, wjGo ks A = none → wjGo ks (A ++ C) = wjGo ((jends A).reverse ++ ks) C
  | [], _, _ => rfl
  | j :: A, ks, h => by
    by_cases hc : j.1.1 = j.2.1 ∨ j.1 ∈ ks ∨ j.2 ∈ ks
    · rw [wjGo_hit hc] at h; cases h
    · rw [wjGo_miss hc] at h
      rw [List.cons_append, wjGo_miss hc, wjGo_app h, jends_cons, List.reverse_cons, List.reverse_cons, List.append_assoc, List.append_assoc]; rfl
theorem wj_first {A B : List (End × End)} {j : End × End} (hA : wjGo [] A = none) (hj : j.1.1 = j.2.1 ∨ j.1 ∈ jends A ∨ j.2 ∈ jends A) : wjGo [] (A ++ j :: B) = some j.1.1 := by
  rw [wjGo_app hA]
  refine wjGo_hit ?_
  rcases hj with h | h | h
  · exact .inl h
  · exact .inr (.inl (by simpa using h))
  · exact .inr (.inr (by simpa using h))
theorem wp_first {st : List (Str × Str)} {jo : List (End × End)} {b : Bool} {A B : List (Str × End)} {g : Str × End} (hA : wpGo st jo b [] A = none) (hg : (partAt jo g.2).isSome ≠ b ∨ g.2 ∈ A.map (·.2) ∨ kindAt st g.2.1 ≠ some ("plain" : Str)) : wpGo st jo b [] (A ++ g :: B) = some g.1 := by
  rw [wp_app hA]
  refine wpGo_hit ?_
  rcases hg with h | h | h
  · exact .inl h
  · exact .inr (.inl (by simpa using h))
  · exact .inr (.inr h)
theorem find_first {α : Type} {b : α → Bool} {A B : List α} {x : α} (hA : ∀ a ∈ A, b a = false) (hx : b x = true) : (A ++ x :: B).find? b = some x := by
  rw [List.find?_append, List.find?_eq_none.mpr, List.find?_cons, hx]; rfl
  intro a ha; rw [hA a ha]; decide
theorem miss_first {p : Pln} {A B : List (End × End)} {j : End × End} (hj : p.jo = A ++ j :: B) (hA : ∀ x ∈ A, endEx p.st x.1 = true ∧ endEx p.st x.2 = true) (h : endEx p.st j.1 = false ∨ endEx p.st j.2 = false) : missEnd p = some j.1.1 := by
  unfold missEnd
  rw [hj, find_first (fun a ha => by rw [(hA a ha).1, (hA a ha).2]; rfl) (by rcases h with h | h <;> rw [h] <;> simp)]; rfl
theorem miss_gs_first {p : Pln} {A B : List (Str × End)} {g : Str × End} (h0 : ∀ x ∈ p.jo, endEx p.st x.1 = true ∧ endEx p.st x.2 = true) (hg : p.gs = A ++ g :: B) (hA : ∀ x ∈ A, endEx p.st x.2 = true) (h : endEx p.st g.2 = false) : missEnd p = some g.1 := by
  unfold missEnd
  rw [List.find?_eq_none.mpr (fun a ha => by rw [(h0 a ha).1, (h0 a ha).2]; decide), hg, find_first (fun a ha => by rw [hA a ha]; rfl) (by rw [h]; rfl)]; rfl
theorem ov_first {p : Pln} {A B : List (Str × End × Option Step)} {s : Str × End × Option Step} (hs : p.si = A ++ s :: B) (hA : ∀ x ∈ A, badOv p x = false) (h : badOv p s = true) : wrongOv p = some s.1 := by
  unfold wrongOv
  rw [hs, find_first hA h]; rfl
/-! ### the host of wrong items -/
def revJ (r : Bool) (j : End × End) : End × End := if r = true then (j.2, j.1) else j
structure Host (a b c d g s : Str) (r1 r2 r3 : Bool) (o : Option Step) : Prop where
  nd : [a, b, c, d, g, s].Nodup
  ov : o = none ∨ o = some (b, 0, 1)
def hostP (a b c d g s : Str) (r1 r2 r3 : Bool) (o : Option Step) : Pln := ⟨[(a, "plain"), (b, "plain"), (c, "points"), (d, "plain")], [revJ r1 ((a, 1), (b, 0)), revJ r2 ((b, 1), (c, 0)), revJ r3 ((c, 1), (d, 0))], [(g, (a, 0))], [(s, (a, 1), o)]⟩
section
variable {a b c d g s : Str} {r1 r2 r3 : Bool} {o : Option Step}
theorem Host.ne (h : Host a b c d g s r1 r2 r3 o) : (a ≠ b ∧ a ≠ c ∧ a ≠ d ∧ a ≠ g ∧ a ≠ s) ∧ (b ≠ c ∧ b ≠ d ∧ b ≠ g ∧ b ≠ s) ∧ (c ≠ d ∧ c ≠ g ∧ c ≠ s) ∧ (d ≠ g ∧ d ≠ s) ∧ g ≠ s := by
  have := h.nd
  simp only [List.nodup_cons, List.mem_cons, List.not_mem_nil, or_false, not_or] at this
  obtain ⟨h1, h2, h3, h4, h5, _⟩ := this
  exact ⟨h1, h2, h3, h4, h5⟩
theorem Host.kind (h : Host a b c d g s r1 r2 r3 o) : kindAt (hostP a b c d g s r1 r2 r3 o).st a = some ("plain" : Str) ∧ kindAt (hostP a b c d g s r1 r2 r3 o).st b = some ("plain" : Str) ∧ kindAt (hostP a b c d g s r1 r2 r3 o).st c = some ("points" : Str) ∧ kindAt (hostP a b c d g s r1 r2 r3 o).st d = some ("plain" : Str) := by
  obtain ⟨⟨h1, h2, h3, h4, h5⟩, ⟨h6, h7, h8, h9⟩, ⟨h10, h11, h12⟩, ⟨h13, h14⟩, h15⟩ := h.ne
  have nd : ((hostP a b c d g s r1 r2 r3 o).st.map (·.1)).Nodup := by
    show [a, b, c, d].Nodup
    simp [h1, h2, h3, h6, h7, h10]
  refine ⟨(kind_iff nd).mpr ?_, (kind_iff nd).mpr ?_, (kind_iff nd).mpr ?_, (kind_iff nd).mpr ?_⟩ <;> simp [hostP]
theorem Host.jends : (jends (hostP a b c d g s r1 r2 r3 o).jo).Perm [(a, 1), (b, 0), (b, 1), (c, 0), (c, 1), (d, 0)] := by
  have sw : ∀ (r : Bool) (x y : End), ([(revJ r (x, y)).1, (revJ r (x, y)).2] : List End).Perm [x, y] := fun r x y => by
    cases r
    · exact List.Perm.refl _
    · exact List.Perm.swap ..
  exact (sw r1 _ _).append ((sw r2 _ _).append (sw r3 _ _))
theorem Host.mem {e : End} : e ∈ PL.jends (hostP a b c d g s r1 r2 r3 o).jo ↔ e = (a, 1) ∨ e = (b, 0) ∨ e = (b, 1) ∨ e = (c, 0) ∨ e = (c, 1) ∨ e = (d, 0) := by
  rw [Host.jends.mem_iff]; simp
theorem Host.jnd (h : Host a b c d g s r1 r2 r3 o) : (PL.jends (hostP a b c d g s r1 r2 r3 o).jo).Nodup := by
  obtain ⟨⟨h1, h2, h3, h4, h5⟩, ⟨h6, h7, h8, h9⟩, ⟨h10, h11, h12⟩, ⟨h13, h14⟩, h15⟩ := h.ne
  rw [Host.jends.nodup_iff]
  simp [h1, h2, h3, h6, h7, h10]
theorem Host.ex (h : Host a b c d g s r1 r2 r3 o) {e : End} (he : e = (a, 0) ∨ e = (a, 1) ∨ e = (b, 0) ∨ e = (b, 1) ∨ e = (c, 0) ∨ e = (c, 1) ∨ e = (c, 2) ∨ e = (d, 0) ∨ e = (d, 1)) : endEx (hostP a b c d g s r1 r2 r3 o).st e = true := by
  obtain ⟨k1, k2, k3, k4⟩ := h.kind
  unfold endEx
  rcases he with rfl | rfl | rfl | rfl | rfl | rfl | rfl | rfl | rfl <;> dsimp only <;> first | (rw [k1]; rfl) | (rw [k2]; rfl) | (rw [k3]; rfl) | (rw [k4]; rfl)
theorem Host.part (h : Host a b c d g s r1 r2 r3 o) : partAt (hostP a b c d g s r1 r2 r3 o).jo (a, 1) = some (b, 0) ∧ partAt (hostP a b c d g s r1 r2 r3 o).jo (b, 0) = some (a, 1) ∧ partAt (hostP a b c d g s r1 r2 r3 o).jo (b, 1) = some (c, 0) ∧ partAt (hostP a b c d g s r1 r2 r3 o).jo (d, 0) = some (c, 1) := by
  have key : ∀ (r : Bool) (x y : End), revJ r (x, y) ∈ (hostP a b c d g s r1 r2 r3 o).jo → partAt (hostP a b c d g s r1 r2 r3 o).jo x = some y ∧ partAt (hostP a b c d g s r1 r2 r3 o).jo y = some x := fun r x y hm => by
    rw [part_iff h.jnd, part_iff h.jnd]
    cases r
    · exact ⟨⟨_, hm, .inr ⟨rfl, rfl⟩⟩, ⟨_, hm, .inl ⟨rfl, rfl⟩⟩⟩
    · exact ⟨⟨_, hm, .inl ⟨rfl, rfl⟩⟩, ⟨_, hm, .inr ⟨rfl, rfl⟩⟩⟩
  have m1 : revJ r1 ((a, 1), (b, 0)) ∈ (hostP a b c d g s r1 r2 r3 o).jo := List.mem_cons_self
  have m2 : revJ r2 ((b, 1), (c, 0)) ∈ (hostP a b c d g s r1 r2 r3 o).jo := List.mem_cons_of_mem _ List.mem_cons_self
  have m3 : revJ r3 ((c, 1), (d, 0)) ∈ (hostP a b c d g s r1 r2 r3 o).jo := List.mem_cons_of_mem _ (List.mem_cons_of_mem _ List.mem_cons_self)
  exact ⟨(key _ _ _ m1).1, (key _ _ _ m1).2, (key _ _ _ m2).1, (key _ _ _ m3).2⟩
theorem Host.chk (h : Host a b c d g s r1 r2 r3 o) : Chk (hostP a b c d g s r1 r2 r3 o) := by
  obtain ⟨⟨h1, h2, h3, h4, h5⟩, ⟨h6, h7, h8, h9⟩, ⟨h10, h11, h12⟩, ⟨h13, h14⟩, h15⟩ := h.ne
  obtain ⟨k1, k2, k3, k4⟩ := h.kind
  have je : ∀ e ∈ PL.jends (hostP a b c d g s r1 r2 r3 o).jo, endEx (hostP a b c d g s r1 r2 r3 o).st e = true := fun e he => h.ex (by
    rcases Host.mem.mp he with z | z | z | z | z | z <;> simp [z])
  refine ⟨h.nd, fun j hj => ⟨je _ (mem_jends.mpr ⟨j, hj, .inl rfl⟩), je _ (mem_jends.mpr ⟨j, hj, .inr rfl⟩)⟩, fun x hx => ?_, fun j hj => ?_, h.jnd, fun x hx => ?_, by show [((a, 0) : End)].Nodup; simp, fun x hx => ?_, by show [((a, 1) : End)].Nodup; simp, fun x hx => ?_⟩
  · have hx : x = (g, (a, 0)) ∨ x = (s, (a, 1)) := by
      have : x ∈ [((g, (a, 0)) : Str × End), (s, (a, 1))] := hx
      simpa using this
    rcases hx with rfl | rfl
    · exact h.ex (.inl rfl)
    · exact h.ex (.inr (.inl rfl))
  · have sw : ∀ (r : Bool) (x y : End), x.1 ≠ y.1 → (revJ r (x, y)).1.1 ≠ (revJ r (x, y)).2.1 := fun r x y hne => by
      cases r
      · exact hne
      · exact fun z => hne z.symm
    have hj : j = revJ r1 ((a, 1), (b, 0)) ∨ j = revJ r2 ((b, 1), (c, 0)) ∨ j = revJ r3 ((c, 1), (d, 0)) := by
      have : j ∈ [revJ r1 ((a, 1), (b, 0)), revJ r2 ((b, 1), (c, 0)), revJ r3 ((c, 1), (d, 0))] := hj
      simpa using this
    rcases hj with rfl | rfl | rfl
    · exact sw _ _ _ h1
    · exact sw _ _ _ h6
    · exact sw _ _ _ h10
  · have hx : x = (g, (a, 0)) := by
      have : x ∈ [((g, (a, 0)) : Str × End)] := hx
      simpa using this
    subst hx
    refine ⟨fun z => ?_, k1⟩
    rcases Host.mem.mp z with z | z | z | z | z | z <;> (injection z with z1 z2) <;> first | exact absurd z2 (by decide) | exact h1 z1 | exact h2 z1 | exact h3 z1
  · have hx : x = (s, (a, 1)) := by
      have : x ∈ [((s, (a, 1)) : Str × End)] := hx
      simpa using this
    subst hx
    exact ⟨Host.mem.mpr (.inl rfl), k1⟩
  · have hx : x = (s, (a, 1), o) := by
      have : x ∈ [((s, (a, 1), o) : Str × End × Option Step)] := hx
      simpa using this
    subst hx
    rcases h.ov with z | z
    · rw [z]; rfl
    · rw [z]
      have := badOv_iff (p := hostP a b c d g s r1 r2 r3 o) (n := s) (e := (a, 1)) (b := (b, 0)) (r := 1) k2 (by decide)
      rw [z] at this
      rw [this]
      have hp := h.part.1
      rw [z] at hp
      rw [hp, decide_eq_true rfl]
      exact (show (!true || !decide (((0 : Int), (1 : Int)) ∈ waysS "plain")) = false by decide)
end
end PL

namespace DL
open PySem PySem.Spec PyProof.Rows L2 GA GxR
/-! ### xs.insert(i, y), i not below 0 -/
def rdInsert : DRM := fun x ys m Q => ∃ a ds i y, x = .ref a ∧ ys = [.int i, y] ∧ m.mu a = some (.lst ds) ∧ ds.length < sizeLine ∧ 0 ≤ i ∧ i < 2 ^ 63 ∧ Q .non (m.set a (.lst (ds.take i.toNat ++ [y] ++ ds.drop i.toNat)))
theorem Reps.takeN {K : PySem.W.Frag} {H : Hp} : ∀ {ds : List D} {vs : List V} (k : Nat), Reps K H ds vs → Reps K H (ds.take k) (vs.take k)
  | [], _, _, r => by cases r; rw [List.take_nil, List.take_nil]; exact .nil
  | _ :: _, _, 0, r => by rw [List.take_zero, List.take_zero]; exact .nil
  | _ :: _, _, k + 1, r => by
    cases r with
    | cons h t => rw [List.take_succ_cons, List.take_succ_cons]; exact .cons h (Reps.takeN k t)
theorem Reps.dropN {K : PySem.W.Frag} {H : Hp} : ∀ {ds : List D} {vs : List V} (k : Nat), Reps K H ds vs → Reps K H (ds.drop k) (vs.drop k)
  | [], _, _, r => by cases r; rw [List.drop_nil, List.drop_nil]; exact .nil
  | _ :: _, _, 0, r => r
  | _ :: _, _, k + 1, r => by
    cases r with
    | cons h t => rw [List.drop_succ_cons, List.drop_succ_cons]; exact Reps.dropN k t
theorem mtl_insert {K : PySem.W.Frag} : MtL K (fun x vs H Q => ∃ (l : Addr) (xs : List V) (i : Int) (y : V), x = .ref l ∧ vs = [.int i, y] ∧ H l = some (.lst xs) ∧ xs.length < sizeLine ∧ 0 ≤ i ∧ i < 2 ^ 63 ∧ Q .non (upd H l (.lst (xs.take i.toNat ++ [y] ++ xs.drop i.toNat)))) rdInsert := fun x ys vx vs H m Q' Q rx rs rh ⟨a, ds, i, y, ex, ey, h, hz, h0, h1, q⟩ f => by
  subst ex ey
  cases rx
  obtain ⟨v, u, rfl, rv, ru⟩ := rs.two
  cases rv
  obtain ⟨xs, e, rr⟩ := rh.obj _ _ h
  have t := rh.putTS (o := .lst (xs.take i.toNat ++ [u] ++ xs.drop i.toNat)) h
  exact ⟨a, xs, i, u, rfl, rfl, e, by rw [← rr.length]; exact hz, h0, h1, f _ _ q _ _ t .non (rh.put h ⟨_, upd_same, Reps.mono t _ _ (((Reps.takeN i.toNat rr).append (.cons ru .nil)).append (Reps.dropN i.toNat rr))⟩)⟩
section
variable {X : Cx} {o e1 e2 : Expr} {to t1 t2 : DTr} {pos apos : Pos}
theorem de_insert (ho : DE X o to) (h1 : DE X e1 t1) (h2 : DE X e2 t2)
    (hbase : attributeBase o "insert" X.env (eval o X.env) = eval o X.env := by rfl)
    (hfew : ((backTo pos (starEach [e1, e2] X.env)).all (fun x => !x.1) && (backToKw pos (keywordEach [] X.env)).all (fun x => x.1.isSome) && decide ([e1, e2].length + ([] : List Keyword).length + (if ([] : List Keyword).isEmpty then 0 else 1) < 30)) = true := by rfl)
    (hline : (apos.endLine == pos.line) = true := by rfl) (hs : starEach [e1, e2] X.env = (false, eval e1 X.env) :: starEach [e2] X.env := by rfl) (hs2 : starEach [e2] X.env = (false, eval e2 X.env) :: starEach [] X.env := by rfl) (hplain : (backTo pos (starEach [e2] X.env)).any (·.1) = false := by rfl) :
    DE X (.Call (.Attribute o "insert" apos) [e1, e2] [] pos) (dMeth rdInsert to (dCons t1 (dCons t2 dNil))) := de_meth PySem.F.slot_list_insert PySem.F.type_list_insert mt_insert mtl_insert ho (da_cons h1 (da_cons h2 da_nil hs2) hs) hbase hfew hline hs hplain
/-! ### max(xs) of a list of ints -/
def rdMaxL : DRA := fun xs m Q => ∃ (a : Addr) (ns : List Int), xs = [.ref a] ∧ m.mu a = some (.lst (ns.map D.int)) ∧ 0 < ns.length ∧ ∀ M, M ∈ ns → (∀ x, x ∈ ns → x ≤ M) → Q (.int M) m
theorem Reps.intsL {K : PySem.W.Frag} {H : Hp} : ∀ {ns : List Int} {vs : List V}, Reps K H (ns.map D.int) vs → vs = ns.map V.int
  | [], _, r => by cases r; rfl
  | n :: ns, _, r => by
    cases r with
    | cons h t => cases h; rw [Reps.intsL t]; rfl
theorem argl_maxL {K : PySem.W.Frag} : ArgL K (rMax K) rdMaxL := fun xs vs H m Q' Q r rh ⟨a, ns, e, h, hn, q⟩ f => by
  subst e
  obtain ⟨v, rfl, rv⟩ := r.one
  cases rv
  obtain ⟨ys, e2, rr⟩ := rh.obj _ _ h
  have := Reps.intsL rr
  subst this
  exact ⟨a, ns, rfl, SqL.of e2, hn, fun M h1 h2 => f _ m (q M h1 h2) _ H (Ts.refl _ _) (.int _) rh⟩
theorem de_maxL {e : Expr} {t : DTA} {p : Pos} (hc : X.calm = true) (hg : Gl X "max") (hm : X.mg "max" = none) (hb : bootBuiltins "max" = some (.builtin "max")) (ha : DA X [e] t)
    (he : starEach [e] X.env = (false, eval e X.env) :: starEach [] X.env := by rfl) (hpl : (backTo pos (starEach [] X.env)).any (·.1) = false := by rfl) : DE X (.Call (.Name "max" p) [e] [] pos) (dArgs rdMaxL t) :=
  de_blt (cr_max hc) argl_maxL hg hm hb ha (by decide) (by decide) he hpl
end
end DL

namespace DL
open PySem PySem.Spec PyProof.Rows L2 GA GxR
/-! ### a, b, .. = a list of that length -/
def dAsgL (te : DTr) (is : List Nat) : DTS := fun E δ m => te δ m fun x m1 => ∃ a ds, x = .ref a ∧ m1.mu a = some (.lst ds) ∧ ds.length = is.length ∧ E.nx (setAll δ is ds) m1
section
variable {X : Cx} {e : Expr} {te : DTr} {pos tpos : Pos}
theorem ds_asgL {es : List Expr} {is : List Nat} {k : Nat} (hc : X.calm = true) (he : DE X e te) (h : DGs X es is) (hn : (assignEach es X.env).length = is.length := by rfl) (hst : (assignEach es X.env).findIdx? (·.1) = none := by rfl)
    (hs : swapsWithSole [.Tuple es k tpos] e pos.line X.env = pure false := by rfl) (hw : swappedStores [.Tuple es k tpos] e X.env = pure none := by rfl) (h1 : (assignEach [.Tuple es k tpos] X.env).map (·.2) = [assign (.Tuple es k tpos) X.env] := by rfl) :
    DS X (.Assign [.Tuple es k tpos] e pos) (dAsgL te is) := (ps_asg he (pg_unl hc h hn hst) hs hw h1).imp fun E σ H ⟨δ, m, E', rs, rh, q, f⟩ =>
  ⟨δ, m, _, rs, rh, q, fun d m1 ⟨a, ds, ex, ha, hl, q1⟩ v H1 t1 r1 rh1 => by
    subst ex
    cases r1
    obtain ⟨xs, e2, rr⟩ := rh1.obj _ _ ha
    exact ⟨a, xs, rfl, SqL.of e2, by rw [← rr.length]; exact hl, gNs_ok is ds xs δ _ _ hl rr (rs.mono t1) fun σ' rs2 _ => f.nx _ m1 q1 σ' H1 t1 rs2 rh1⟩⟩
end
end DL

/-! t[::-1] of a tuple -/
namespace TM
open PySem PySem.Spec PyProof.Rows L2 HT
section
variable {prog : Program} {w : World} {A : Around} {E : Value → Shared → Prop} {s : Shared}
theorem places_back (n : Nat) : Builtin.Slice.slicePlaces ((n : Int) - 1) (-1) (-1) = n := by
  unfold Builtin.Slice.slicePlaces
  rw [if_neg (by decide), show (- -1 : Int) = 1 by decide, Int.ediv_one]
  by_cases h : (n : Int) - 1 > -1
  · rw [if_pos h]; omega
  · rw [if_neg h]; omega
theorem applied_back {sl : Addr} {vl vu vs : Value} {n : Nat} {Q : Int × Int × Nat → Shared → Prop} (hs : s.heap.IsSliceOf sl vl vu vs) (pl : IsPart vl none) (pu : IsPart vu none) (ps : IsPart vs (some (-1)))
    (h : Q ((n : Int) - 1, -1, n) s) : wpAny (model prog w) A (Builtin.Slice.sliceApplied (.ref sl) (pure (n : Int))) Q E s := by
  obtain ⟨os, hos, hcs, hds⟩ := id hs
  unfold Builtin.Slice.sliceApplied Builtin.Slice.sliceFields
  refine wpAny_bind (wpAny_bind (wpAny_field hos hds (x := vl) rfl (wpAny_bind (wpAny_field hos hds (x := vu) rfl (wpAny_bind (wpAny_field hos hds (x := vs) rfl (wpAny_pure ?_)))))))
  refine wpAny_bind (slicePart_ ps ?_)
  show wpAny _ _ (if ((-1 : Int) == 0) = true then _ else _) _ _ s
  rw [if_neg (by decide)]
  refine wpAny_bind (slicePart_ pl (wpAny_bind (slicePart_ pu (wpAny_bind (wpAny_pure ?_)))))
  show wpAny _ _ (pure ((n : Int) - 1, (-1 : Int), Builtin.Slice.slicePlaces ((n : Int) - 1) (-1) (-1))) _ _ s
  rw [places_back]
  exact wpAny_pure h
theorem fm_congr {α β : Type} {f g : α → Option β} : ∀ {l : List α}, (∀ x ∈ l, f x = g x) → l.filterMap f = l.filterMap g
  | [], _ => rfl
  | a :: l, h => by
    rw [List.filterMap_cons, List.filterMap_cons, h a List.mem_cons_self, fm_congr fun x hx => h x (List.mem_cons_of_mem _ hx)]
theorem pick_back (xs : Array Value) : ((List.range xs.size).filterMap fun (m : Nat) => xs[(((xs.size : Int) - 1) + (m : Int) * (-1)).toNat]?).toArray = xs.toList.reverse.toArray := by
  have e : ((List.range xs.size).filterMap fun (m : Nat) => xs[(((xs.size : Int) - 1) + (m : Int) * (-1)).toNat]?) = ((List.range xs.size).map fun k => xs.size - 1 - k).filterMap (xs[·]?) := by
    rw [List.filterMap_map]
    refine fm_congr fun m hm => ?_
    have := List.mem_range.mp hm
    have e2 : (((xs.size : Int) - 1) + (m : Int) * (-1)).toNat = xs.size - 1 - m := by omega
    rw [e2]; rfl
  rw [e, PySem.W.krv_range, List.filterMap_reverse, PySem.W.krv_all]
theorem getItem_back {t sl : Addr} {items : Array Value} {vl vu vs : Value} {Q : Value → Shared → Prop} (ht : IsTup s.heap t items) (hs : s.heap.IsSliceOf sl vl vu vs) (pl : IsPart vl none) (pu : IsPart vu none) (ps : IsPart vs (some (-1)))
    (h : Q (.ref s.heap.objs.size) { s with heap := s.heap.push { cls := .type "tuple", data := .seq items.toList.reverse.toArray } }) (hsz : items.size ≤ sizeLine) : wpAny (model prog w) A (getItem (.ref t) (.ref sl)) Q E s := by
  have hfit : sizeOk (.seq items.toList.reverse.toArray) := by
    show items.toList.reverse.toArray.size ≤ sizeLine
    rw [List.size_toArray, List.length_reverse, Array.length_toList]; exact hsz
  obtain ⟨os, hos, hcs, hds⟩ := id hs
  have hTs : s.TypeIs (.ref sl) "slice" := ⟨os, hos, hcs⟩
  unfold getItem
  try with_reducible refine wpAny_holding ?_
  first | refine wpAny_bind (wpAny_pure ?_) | skip
  refine wpAny_bind (wpAny_sequenceKey ht.typeIs (by decide) ?_)
  refine wpAny_bind (wpAny_callSpecial?_slot (name := Str.ofString "__getitem__") ht.typeIs PyProof.Rows.slot_tuple_getitem (wpAny_call_entry PyProof.Rows.slot_tuple_getitem ht.typeIs entry_tuple_getitem ?_ (args_tuple_getitem _ _)))
  show wpAny _ _ (Builtin.Tuple.tupleItemsOf (.ref t) >>= _) _ _ s
  refine wpAny_bind (tupleItemsOf_ ht ?_)
  refine wpAny_bind (wpAny_typeOf hTs ?_)
  rw [if_pos (by decide)]
  refine wpAny_bind (applied_back hs pl pu ps ?_)
  show wpAny _ _ (if (((items.size : Int) - 1) == 0 && (-1 : Int) == 1 && items.size == items.size) = true then _ else _) _ _ s
  rw [if_neg (by rw [show ((-1 : Int) == 1) = false by decide, Bool.and_false, Bool.false_and]; exact Bool.false_ne_true), pick_back]
  first
    | exact wpAny_bind (m := Builtin.Tuple.tupleExact _) (wpAny_newObj_type (wpAny_pure ⟨_, rfl, wpAny_pure h⟩) hfit)
    | exact wpAny_bind (m := Builtin.Tuple.tupleExact _) (wpAny_newObj_type (wpAny_bind (wpAny_pure (wpAny_pure ⟨_, rfl, wpAny_pure h⟩))) hfit)
    | exact wpAny_bind (wpAny_bind (m := Builtin.Tuple.tupleExact _) (wpAny_newObj_type (wpAny_pure (wpAny_pure ⟨_, rfl, wpAny_pure h⟩)) hfit))
    | exact wpAny_bind (wpAny_bind (m := Builtin.Tuple.tupleExact _) (wpAny_newObj_type (wpAny_pure ⟨_, rfl, wpAny_pure h⟩) hfit))
end
def tRevT (K : PySem.W.Frag) (te : TE) : TE := fun σ H Q => te σ H fun x H1 => ∃ a xs, x = .ref a ∧ SqT K H1 a xs ∧ ∀ p, H1 p = none → Q (.ref p) (upd H1 p (.tup xs.reverse))
variable {X : Cx}
theorem pe_revT {e : Expr} {te : TE} {k : Nat} {p1 p2 p3 pos : Pos} (he : PE X e te) : PE X (.Subscript e (.Slice none none (some (.UnaryOp .USub (.Constant (.int 1) k p1) p2)) p3) pos) (tRevT X.K te) := by
  refine ⟨fun pins s σ H Q I h => ?_⟩
  refine Subscript_ (thn (he.run pins s σ H _ I h) fun v s1 ⟨x, H1, I1, r1, q1⟩ => ?_)
  obtain ⟨a, xs, ex, hx, q⟩ := q1
  subst ex
  cases r1
  have hst : PO X (some (.UnaryOp .USub (.Constant (.int 1) k p1) p2)) (tPart (tUn (rU fun i => .int (-i)) (tC (.int 1)))) := po_some (pe_un un_neg pe_int)
  refine wpAny_Slice (thn (po_none.run pins s1 σ H1 (fun o H2 => o = none ∧ H2 = H1) I1 ⟨rfl, rfl⟩) fun vl s2 ⟨l, H2, I2, pl, el, e2⟩ => ?_)
  subst el e2
  refine thn (po_none.run pins s2 σ H2 (fun o H3 => o = none ∧ H3 = H2) I2 ⟨rfl, rfl⟩) fun vu s3 ⟨u, H3, I3, pu, eu, e3⟩ => ?_
  subst eu e3
  refine thn (hst.run pins s3 σ H3 (fun o H4 => o = some (-1) ∧ H4 = H3) I3 ⟨1, rfl, -1, rfl, rfl, rfl⟩) fun vs s4 ⟨o, H4, I4, ps, eo, e4⟩ => ?_
  subst eo e4
  have I5 : Inv X pins σ H4 { s4 with heap := s4.heap.push { cls := .type "slice", data := .fields #[vl, vu, vs] } } := I4.kept (t' := s4.toks) fun b ob q => Heap.get?_push_of_some _ q
  obtain ⟨its, r, ht, hz⟩ := I5.tuple hx
  show wpAny (model X.prog X.w) X.A (subscriptTail e (.Slice none none (some (.UnaryOp .USub (.Constant (.int 1) k p1) p2)) p3) (.ref a) (.ref s4.heap.objs.size)) (EP X pins σ Q) X.xe { s4 with heap := s4.heap.push { cls := .type "slice", data := .fields #[vl, vu, vs] } }
  refine tail_any (ops := [.ref a, .ref s4.heap.objs.size]) ht.typeIs (PyProof.Rows.slot_tuple_getitem.lookup) ?_ (by with_unfolding_all rfl)
  refine getItem_back ht (Heap.IsSliceOf.new _ vl vu vs) pl pu ps ?_ (by rw [List.size_toArray, ← r.length]; exact hz)
  refine ⟨.ref _, _, I5.laid (t' := s4.toks) (o := .tup xs.reverse) (fun b ob q => Heap.get?_push_of_some _ q) (Nat.le_refl _) ?_, rfl, q _ (I5.hok.fresh (Nat.le_refl _))⟩
  exact ⟨by rw [List.length_reverse]; exact hz, _, r.reverse, IsTup.new _ _⟩
end TM
namespace DL
open PySem PySem.Spec PyProof.Rows L2 GA GxR TM
def dRevT (te : DTr) : DTr := fun δ m Q => te δ m fun x m1 => ∃ ds, x = .tup ds ∧ Q (.tup ds.reverse) m1
theorem de_revT {X : Cx} {e : Expr} {te : DTr} {k : Nat} {p1 p2 p3 pos : Pos} (he : DE X e te) : DE X (.Subscript e (.Slice none none (some (.UnaryOp .USub (.Constant (.int 1) k p1) p2)) p3) pos) (dRevT te) := (pe_revT he).imp fun σ H Q ⟨δ, m, Q', rs, rh, q, f⟩ =>
  ⟨δ, m, _, rs, rh, q, fun x m1 ⟨ds, ex, q1⟩ v H1 t1 r1 rh1 => by
    subst ex
    cases r1 with
    | tup h1 h2 => exact ⟨_, _, rfl, .inl (.inl h1), fun p hp => f _ _ q1 _ _ (t1.trans (Ts.new hp)) (.tup upd_same (Reps.mono (Ts.new hp) _ _ h2.reverse)) (rh1.new hp)⟩⟩
end DL

namespace PL
open PySem PySem.Spec PyProof.Rows L2 GA GxR DL TM
def spMixed : DSp := fun ds m Q => ∃ (d x y : D) (xs ys : List D), ds = [d, x, y] ∧ Dk m d ∧ SeqD m x xs ∧ SeqD m y ys ∧ (∀ z ∈ xs ++ ys, Fine z) ∧ (xs ++ ys).length ≤ 100 ∧ ∀ a m' zs, m.mu a = none → Ext m m' → m'.mu a = some (.lst zs) → zs.Perm (xs ++ ys) → Q (.ref a) m'
end PL
namespace PL
open PySem PySem.Spec PyProof.Rows L2 GA GxR DL TM
theorem SeqD_ext {m m' : M} {y : D} {ds : List D} (h : SeqD m y ds) (e : Ext m m') : SeqD m' y ds := by
  rcases h with h | h | ⟨a, h1, h2⟩
  · exact .inl h
  · exact .inr (.inl h)
  · exact .inr (.inr ⟨a, h1, e.old _ _ h2⟩)
theorem eq_nil {m : M} {Q : DK} {a p : Addr} {ds : List D} (ha : m.mu a = some (.lst ds)) (hp : m.mu p = some (.lst [])) (h1 : ∀ d ∈ ds, Fine d) (q : Q (.bl ds.isEmpty) m) : rdEq false (.ref a) (.ref p) m Q := by
  refine ⟨_, _, .l ha (pures_of fun d hd => (h1 d hd).pure), .l hp (pures_of fun d h => (by cases h)), shaped_l h1, shaped_l (ds := []) (fun d h => (by cases h)), ?_⟩
  show Q (.bl (if false = true then _ else PyData.eqv (.list (D.pys ds)) (.list []))) m
  rw [if_neg Bool.false_ne_true, eqv_nil]; exact q
end PL
namespace PL
open PySem PySem.Spec PyProof.Rows L2 GA GxR DL TM
/-- the host, as a list of lists -/
structure HostAt (m : M) (h : Addr) (p : Pln) : Prop where
  ex : ∃ h0 h1 h2 h3 : Addr, [h, h0, h1, h2, h3].Nodup ∧ m.mu h = some (.lst [.ref h0, .ref h1, .ref h2, .ref h3]) ∧ m.mu h0 = some (.lst (p.st.map strD)) ∧ m.mu h1 = some (.lst (p.jo.map joD)) ∧ m.mu h2 = some (.lst (p.ga.map gaD)) ∧ m.mu h3 = some (.lst (p.si.map siD))
def spHost : DSp := fun ds m Q => ∃ (d : D) (u : Addr) (us : List Str), ds = [d, .ref u] ∧ Dk m d ∧ m.mu u = some (.lst (us.map D.str)) ∧ us.length ≤ 20 ∧
  ∀ h m' a b c d g s r1 r2 r3 o, Chg u m m' → Host a b c d g s r1 r2 r3 o → (∀ n ∈ [a, b, c, d, g, s], nameS n = true ∧ n ∉ us) → HostAt m' h (hostP a b c d g s r1 r2 r3 o) → m'.mu u = some (.lst ((us ++ [a, b, c, d, g, s]).map D.str)) → Q (.ref h) m'
end PL
namespace PL
open PySem PySem.Spec PyProof.Rows L2 GA GxR DL TM
/-- an item of a plan -/
inductive Wit where
  | st (x : Str × Str) | jo (x : End × End) | ga (x : Str × End) | si (x : Str × End × Option Step)
def Wit.part : Wit → Int
  | .st _ => 0 | .jo _ => 1 | .ga _ => 2 | .si _ => 3
def Wit.d : Wit → D
  | .st x => strD x | .jo x => joD x | .ga x => gaD x | .si x => siD x
/-- an item with a name of the host once more -/
inductive NamedOk (a b c e g s : Str) : Wit → Str → Prop where
  | st {n : Str} (h : n ∈ [a, b, c, e]) : NamedOk a b c e g s (.st (n, "crossing")) n
  | ga {n : Str} (h : n ∈ [a, b, c, e, g]) : NamedOk a b c e g s (.ga (n, (e, 1))) n
  | si {n : Str} (h : n ∈ [a, b, c, e, g, s]) : NamedOk a b c e g s (.si (n, (e, 0), none)) n
def witD (w : Wit) (n : Str) (low : Bool) : D := .tup [.int w.part, w.d, .str n, .bl low]
def spNamed : DSp := fun ds m Q => ∃ (d : D) (h : Addr) (a b c e g s : Str) (r1 r2 r3 : Bool) (o : Option Step), ds = [d, .ref h] ∧ Dk m d ∧ HostAt m h (hostP a b c e g s r1 r2 r3 o) ∧ ∀ w n m', NamedOk a b c e g s w n → Ext m m' → Q (witD w n true) m'
theorem HostAt.ext {m m' : M} {h : Addr} {p : Pln} (H : HostAt m h p) (e : Ext m m') : HostAt m' h p := by
  obtain ⟨h0, h1, h2, h3, nd, x, x0, x1, x2, x3⟩ := H.ex
  exact ⟨h0, h1, h2, h3, nd, e.old _ _ x, e.old _ _ x0, e.old _ _ x1, e.old _ _ x2, e.old _ _ x3⟩
theorem ixL {m : M} {Q : DK} {a : Addr} {ds : List D} {k : Nat} {y : D} (h : m.mu a = some (.lst ds)) (hy : ds[k]? = some y) (q : Q y m) : rdIx (.ref a) (.int (k : Int)) m Q := ⟨ds, y, h, by
  have hi := (List.getElem?_eq_some_iff.mp hy).1
  unfold atI ixN
  rw [if_pos (by omega), if_pos (by omega)]
  show ds[(k : Int).toNat]? = _
  rw [Int.toNat_natCast]; exact hy, q⟩
end PL
namespace PL
open PySem PySem.Spec PyProof.Rows L2 GA GxR DL TM
def NoEnd (a c g f : Str) (x : End) : Prop := x = (a, 2) ∨ x = (c, 3) ∨ x = (g, 0) ∨ x = (f, 0)
/-- an item with an end that is not there -/
inductive EndedOk (a c e g f nm : Str) : Wit → Str → Prop where
  | j1 {x : End} (h : NoEnd a c g f x) : EndedOk a c e g f nm (.jo (x, (e, 1))) x.1
  | j2 {x : End} (h : NoEnd a c g f x) : EndedOk a c e g f nm (.jo ((e, 1), x)) e
  | ga {x : End} (h : NoEnd a c g f x) : EndedOk a c e g f nm (.ga (nm, x)) nm
  | si {x : End} (h : NoEnd a c g f x) : EndedOk a c e g f nm (.si (nm, x, none)) nm
def spEnded : DSp := fun ds m Q => ∃ (d : D) (h u : Addr) (us : List Str) (a b c e g s : Str) (r1 r2 r3 : Bool) (o : Option Step), ds = [d, .ref h, .ref u] ∧ Dk m d ∧ (∀ m', Chg u m m' → HostAt m' h (hostP a b c e g s r1 r2 r3 o)) ∧ m.mu u = some (.lst (us.map D.str)) ∧ us.length ≤ 50 ∧
  ∀ w n f nm m', EndedOk a c e g f nm w n → nameS f = true → nameS nm = true → f ∉ us → nm ∉ us ++ [f] → Chg u m m' → m'.mu u = some (.lst ((us ++ [f, nm]).map D.str)) → Q (witD w n false) m'
theorem Chg.trans {u : Addr} {a b c : M} (h : Chg u a b) (i : Chg u b c) : Chg u a c := ⟨i.gh.trans h.gh, fun x o z w => i.old x o z (h.old x o z w)⟩
end PL
namespace PL
open PySem PySem.Spec PyProof.Rows L2 GA GxR DL TM
/-- an item of one of the kinds 2 to 5 -/
inductive WrongOk (a b c e nm : Str) : Int → Int → Wit → Str → Bool → Prop where
  | jo {x : End × End} {r : Bool} {t : Int} (h : x ∈ [((c, 2), (c, 2)), ((e, 1), (e, 1)), ((e, 1), (c, 0)), ((b, 0), (e, 1))]) : WrongOk a b c e nm 2 t (.jo (revJ r x)) (revJ r x).1.1 true
  | ga {x : End} {t : Int} (h : x ∈ [(b, 1), (a, 0), (c, 2), (e, 0)]) : WrongOk a b c e nm 3 t (.ga (nm, x)) nm true
  | si {x : End} {o : Option Step} {t : Int} (h : x ∈ [(e, 1), (a, 1), (c, 0), (a, 0)]) (ho : o = none ∨ o = some (b, 0, 1)) : WrongOk a b c e nm 4 t (.si (nm, x, o)) nm true
  | o0 {st : Step} (h : st ∈ [(a, 1, 1), (a, 0, 1), (e, 0, 1), (a, 1, 2), (nm, 1, 0), (a, 1, 3), (b, 0, 1)]) : WrongOk a b c e nm 5 0 (.si (nm, (b, 0), some st)) nm false
  | o1 {x : End} {st : Step} (hx : x ∈ [(b, 1), (e, 0)]) (h : st ∈ [(c, 0, 1), (c, 0, 2), (c, 1, 0), (c, 1, 2), (b, 1, 0), (e, 0, 1)]) : WrongOk a b c e nm 5 1 (.si (nm, x, some st)) nm false
def spWrong : DSp := fun ds m Q => ∃ (d : D) (k t : Int) (h u : Addr) (us : List Str) (a b c e g s : Str) (r1 r2 r3 : Bool) (o : Option Step), ds = [d, .int k, .int t, .ref h, .ref u] ∧ Dk m d ∧ (k = 2 ∨ k = 3 ∨ k = 4 ∨ k = 5) ∧ (t = 0 ∨ t = 1) ∧ HostAt m h (hostP a b c e g s r1 r2 r3 o) ∧ m.mu u = some (.lst (us.map D.str)) ∧ us.length ≤ 50 ∧
  ∀ w n low nm m', WrongOk a b c e nm k t w n low → nameS nm = true → nm ∉ us → Chg u m m' → m'.mu u = some (.lst ((us ++ [nm]).map D.str)) → Q (witD w n low) m'
theorem ixAny {m : M} {Q : DK} {a : Addr} {ds : List D} {w : Int} (h : m.mu a = some (.lst ds)) (h0 : 0 ≤ w) (h1 : w < (ds.length : Int)) (q : ∀ y ∈ ds, Q y m) : rdIx (.ref a) (.int w) m Q := by
  obtain ⟨k, rfl⟩ : ∃ k : Nat, w = (k : Int) := ⟨w.toNat, by omega⟩
  have hk : k < ds.length := by omega
  exact ixL h (List.getElem?_eq_getElem hk) (q _ (List.getElem_mem hk))
end PL

namespace PL
open PySem PySem.Spec PyProof.Rows L2 GA GxR DL TM
def Wit.put (p : Pln) (k : Nat) : Wit → Pln
  | .st x => ⟨insA p.st k x, p.jo, p.ga, p.si⟩
  | .jo x => ⟨p.st, insA p.jo k x, p.ga, p.si⟩
  | .ga x => ⟨p.st, p.jo, insA p.ga k x, p.si⟩
  | .si x => ⟨p.st, p.jo, p.ga, insA p.si k x⟩
/-- a plan without fault, with the host in it -/
structure Right (p : Pln) (a b c e g s : Str) (r1 r2 r3 : Bool) (o : Option Step) : Prop where
  chk : Chk p
  host : Host a b c e g s r1 r2 r3 o
  st : ∀ x ∈ (hostP a b c e g s r1 r2 r3 o).st, x ∈ p.st
  jo : ∀ x ∈ (hostP a b c e g s r1 r2 r3 o).jo, x ∈ p.jo
  ga : ∀ x ∈ (hostP a b c e g s r1 r2 r3 o).ga, x ∈ p.ga
  si : ∀ x ∈ (hostP a b c e g s r1 r2 r3 o).si, x ∈ p.si
section
variable {p : Pln} {a b c e g s : Str} {r1 r2 r3 : Bool} {o : Option Step}
theorem Right.nms (h : Right p a b c e g s r1 r2 r3 o) : ∀ n ∈ [a, b, c, e, g, s], n ∈ p.nms := fun n hn => by
  unfold Pln.nms
  have hs : ∀ k : Str, (n, k) ∈ (hostP a b c e g s r1 r2 r3 o).st → n ∈ p.st.map (·.1) ++ p.ga.map (·.1) ++ p.si.map (·.1) := fun k hk => List.mem_append_left _ (List.mem_append_left _ (List.mem_map.mpr ⟨_, h.st _ hk, rfl⟩))
  simp only [List.mem_cons, List.not_mem_nil, or_false] at hn
  rcases hn with rfl | rfl | rfl | rfl | rfl | rfl
  · exact hs "plain" (by simp [hostP])
  · exact hs "plain" (by simp [hostP])
  · exact hs "points" (by simp [hostP])
  · exact hs "plain" (by simp [hostP])
  · exact List.mem_append_left _ (List.mem_append_right _ (List.mem_map.mpr ⟨_, h.ga _ (List.mem_cons_self), rfl⟩))
  · exact List.mem_append_right _ (List.mem_map.mpr ⟨_, h.si _ (List.mem_cons_self), rfl⟩)
theorem Right.kind (h : Right p a b c e g s r1 r2 r3 o) : kindAt p.st a = some ("plain" : Str) ∧ kindAt p.st b = some ("plain" : Str) ∧ kindAt p.st c = some ("points" : Str) ∧ kindAt p.st e = some ("plain" : Str) := by
  have nd := h.chk.stnd
  refine ⟨(kind_iff nd).mpr (h.st _ ?_), (kind_iff nd).mpr (h.st _ ?_), (kind_iff nd).mpr (h.st _ ?_), (kind_iff nd).mpr (h.st _ ?_)⟩ <;> simp [hostP]
theorem Right.part (h : Right p a b c e g s r1 r2 r3 o) : partAt p.jo (a, 1) = some (b, 0) ∧ partAt p.jo (b, 0) = some (a, 1) ∧ partAt p.jo (b, 1) = some (c, 0) ∧ partAt p.jo (e, 0) = some (c, 1) := by
  have hj : ∀ {x : End}, x ∈ jends (hostP a b c e g s r1 r2 r3 o).jo → partAt p.jo x = partAt (hostP a b c e g s r1 r2 r3 o).jo x := fun hx => part_sub h.chk.jnd h.host.jnd h.jo hx
  obtain ⟨p1, p2, p3, p4⟩ := h.host.part
  exact ⟨(hj (Host.mem.mpr (.inl rfl))).trans p1, (hj (Host.mem.mpr (.inr (.inl rfl)))).trans p2, (hj (Host.mem.mpr (.inr (.inr (.inl rfl))))).trans p3, (hj (Host.mem.mpr (.inr (.inr (.inr (.inr (.inr rfl))))))).trans p4⟩
/-- one item with a name that is there: the name is told -/
theorem named1 (h : Right p a b c e g s r1 r2 r3 o) {w : Wit} {n : Str} (hw : NamedOk a b c e g s w n) (k : Nat) : faultP (w.put p k) = some (("name" : Str), n) := by
  have sub5 : ∀ x ∈ [a, b, c, e], x ∈ [a, b, c, e, g, s] := fun x hx => by simp only [List.mem_cons, List.not_mem_nil, or_false] at hx ⊢; rcases hx with z | z | z | z <;> simp [z]
  cases hw with
  | st hn => exact f_name (h.chk.oldN (h.nms n (sub5 n hn)) (nms_perm0 p k (n, "crossing")))
  | ga hn => exact f_name (h.chk.oldN (h.nms n (by simp only [List.mem_cons, List.not_mem_nil, or_false] at hn ⊢; rcases hn with z | z | z | z | z <;> simp [z])) (nms_perm2 p k (n, (e, 1))))
  | si hn => exact f_name (h.chk.oldN (h.nms n hn) (nms_perm3 p k (n, (e, 0), none)))
theorem Right.missing (h : Right p a b c e g s r1 r2 r3 o) {f : Str} (hf : f ∉ p.nms) {x : End} (hx : NoEnd a c g f x) : endEx p.st x = false := by
  obtain ⟨k1, k2, k3, k4⟩ := h.kind
  rcases hx with rfl | rfl | rfl | rfl
  · unfold endEx; rw [k1]; rfl
  · unfold endEx; rw [k3]; rfl
  · cases z : endEx p.st (g, 0) with
    | false => rfl
    | true =>
      have hin := endEx_in z
      have hg : g ∈ p.ga.map (·.1) := List.mem_map.mpr ⟨_, h.ga _ List.mem_cons_self, rfl⟩
      have nd := h.chk.nd
      unfold Pln.nms at nd
      exact ((List.nodup_append.mp (List.nodup_append.mp nd).1).2.2 _ hin _ hg rfl).elim
  · cases z : endEx p.st (f, 0) with
    | false => rfl
    | true => exact (hf (by unfold Pln.nms; exact List.mem_append_left _ (List.mem_append_left _ (endEx_in z)))).elim
/-- one item with an end that is not there: it is told -/
theorem ended1 (h : Right p a b c e g s r1 r2 r3 o) {w : Wit} {n f nm : Str} (hw : EndedOk a c e g f nm w n) (hf : f ∉ p.nms) (hn : nm ∉ p.nms) (k : Nat) : faultP (w.put p k) = some (("end" : Str), n) := by
  have f0 : dupGo [] p.nms = none := (fault_none.mp (chk_iff.mpr h.chk)).1
  have jA : ∀ x ∈ p.jo.take k, endEx p.st x.1 = true ∧ endEx p.st x.2 = true := fun x hx => h.chk.jex x (List.mem_of_mem_take hx)
  cases hw with
  | j1 hx => exact f_end f0 (miss_first (p := Wit.put p k (.jo (_, (e, 1)))) rfl jA (.inl (h.missing hf hx)))
  | j2 hx => exact f_end f0 (miss_first (p := Wit.put p k (.jo ((e, 1), _))) rfl jA (.inr (h.missing hf hx)))
  | @ga xx hx =>
    refine f_end (h.chk.newN hn (nms_perm2 p k (n, xx))) (miss_gs_first (g := (n, xx)) (p := Wit.put p k (.ga (n, xx))) (A := p.ga.take k) (B := p.ga.drop k ++ p.gs2) h.chk.jex ?_ (fun x hx => h.chk.gex x (List.mem_append_left _ (List.mem_of_mem_take hx))) (h.missing hf hx))
    show insA p.ga k (n, xx) ++ p.gs2 = _
    unfold insA
    rw [List.append_assoc]; rfl
  | @si xx hx =>
    refine f_end (h.chk.newN hn (nms_perm3 p k (n, xx, none))) (miss_gs_first (g := (n, xx)) (p := Wit.put p k (.si (n, xx, none))) (A := p.ga ++ p.gs2.take k) (B := p.gs2.drop k) h.chk.jex ?_ (fun x hx => ?_) (h.missing hf hx))
    · show p.ga ++ (insA p.si k (n, xx, none)).map (fun s => (s.1, s.2.1)) = _
      rw [insA_map (fun s : Str × End × Option Step => (s.1, s.2.1)) p.si k (n, xx, none)]
      unfold insA Pln.gs2
      rw [List.append_assoc]
    · rcases List.mem_append.mp hx with hx | hx
      · exact h.chk.gex x (List.mem_append_left _ hx)
      · exact h.chk.gex x (List.mem_append_right _ (List.mem_of_mem_take hx))
end
end PL
namespace PL
open PySem PySem.Spec PyProof.Rows L2 GA GxR DL TM
section
variable {p : Pln} {a b c e g s nm : Str} {r1 r2 r3 : Bool} {o : Option Step}
/-- why an item of kind 2 is wrong, behind the host's joints -/
theorem bad_jo {A : List (End × End)} (hA : ∀ x ∈ (hostP a b c e g s r1 r2 r3 o).jo, x ∈ A) {x : End × End} {r : Bool} (hx : x ∈ [((c, 2), (c, 2)), ((e, 1), (e, 1)), ((e, 1), (c, 0)), ((b, 0), (e, 1))]) :
    (revJ r x).1.1 = (revJ r x).2.1 ∨ (revJ r x).1 ∈ jends A ∨ (revJ r x).2 ∈ jends A := by
  have up : ∀ {y : End}, y ∈ jends (hostP a b c e g s r1 r2 r3 o).jo → y ∈ jends A := fun hy => by
    obtain ⟨j, hj, z⟩ := mem_jends.mp hy
    exact mem_jends.mpr ⟨j, hA j hj, z⟩
  have c0 : ((c, 0) : End) ∈ jends A := up (Host.mem.mpr (.inr (.inr (.inr (.inl rfl)))))
  have b0 : ((b, 0) : End) ∈ jends A := up (Host.mem.mpr (.inr (.inl rfl)))
  simp only [List.mem_cons, List.not_mem_nil, or_false] at hx
  rcases hx with rfl | rfl | rfl | rfl <;> cases r
  · exact .inl rfl
  · exact .inl rfl
  · exact .inl rfl
  · exact .inl rfl
  · exact .inr (.inr c0)
  · exact .inr (.inl c0)
  · exact .inr (.inl b0)
  · exact .inr (.inr b0)
/-- why an item of kind 3 is wrong, behind the host's gate -/
theorem bad_ga (h : Right p a b c e g s r1 r2 r3 o) {A : List (Str × End)} (hA : (g, ((a, 0) : End)) ∈ A) {x : End} (hx : x ∈ [(b, 1), (a, 0), (c, 2), (e, 0)]) : (partAt p.jo x).isSome ≠ false ∨ x ∈ A.map (·.2) ∨ kindAt p.st x.1 ≠ some ("plain" : Str) := by
  obtain ⟨k1, k2, k3, k4⟩ := h.kind
  obtain ⟨p1, p2, p3, p4⟩ := h.part
  simp only [List.mem_cons, List.not_mem_nil, or_false] at hx
  rcases hx with rfl | rfl | rfl | rfl
  · exact .inl (by rw [p3]; exact Bool.noConfusion)
  · exact .inr (.inl (List.mem_map.mpr ⟨_, hA, rfl⟩))
  · exact .inr (.inr (by rw [k3]; decide))
  · exact .inl (by rw [p4]; exact Bool.noConfusion)
theorem Right.free (h : Right p a b c e g s r1 r2 r3 o) (hq : (e, (1 : Int)) ∉ jends p.jo) : partAt p.jo (e, 1) = none := by
  cases z : partAt p.jo (e, 1) with
  | none => rfl
  | some f => exact (hq (part_some.mp (by rw [z]; rfl))).elim
/-- why an item of kind 4 is wrong, behind the host's signal -/
theorem bad_si (h : Right p a b c e g s r1 r2 r3 o) (he : (e, (1 : Int)) ∉ jends p.jo) {A : List (Str × End)} (hA : (s, ((a, 1) : End)) ∈ A) {x : End} (hx : x ∈ [(e, 1), (a, 1), (c, 0), (a, 0)]) : (partAt p.jo x).isSome ≠ true ∨ x ∈ A.map (·.2) ∨ kindAt p.st x.1 ≠ some ("plain" : Str) := by
  obtain ⟨k1, k2, k3, k4⟩ := h.kind
  have hg := h.chk.gend _ (h.ga _ List.mem_cons_self)
  simp only [List.mem_cons, List.not_mem_nil, or_false] at hx
  rcases hx with rfl | rfl | rfl | rfl
  · exact .inl (by rw [h.free he]; decide)
  · exact .inr (.inl (List.mem_map.mpr ⟨_, hA, rfl⟩))
  · exact .inr (.inr (by rw [k3]; decide))
  · refine .inl fun z => hg.1 (part_some.mp ?_)
    simpa using z
/-- why an item of kind 5 is wrong -/
theorem bad_o0 (h : Right p a b c e g s r1 r2 r3 o) (hn : nm ≠ a) {t : Step} (ht : t ∈ [(a, 1, 1), (a, 0, 1), (e, 0, 1), (a, 1, 2), (nm, 1, 0), (a, 1, 3), (b, 0, 1)]) : badOv p (nm, (b, 0), some t) = true := by
  obtain ⟨k1, k2, k3, k4⟩ := h.kind
  obtain ⟨p1, p2, p3, p4⟩ := h.part
  obtain ⟨⟨h1, h2, h3, h4, h5⟩, _⟩ := h.host.ne
  have key : fitsOv p.st (some (a, 1)) t = false := by
    unfold fitsOv
    simp only [List.mem_cons, List.not_mem_nil, or_false] at ht
    rcases ht with rfl | rfl | rfl | rfl | rfl | rfl | rfl
    · rw [k1]; simp [waysK]
    · simp
    · simp [h3]
    · rw [k1]; simp [waysK]
    · have hn2 : ¬ a = nm := fun z => hn z.symm
      simp [hn2]
    · rw [k1]; simp [waysK]
    · simp
  show (!fitsOv p.st (partAt p.jo (b, 0)) t) = true
  rw [p2, key]; rfl
theorem bad_o1 (h : Right p a b c e g s r1 r2 r3 o) {x : End} (hx : x ∈ [(b, 1), (e, 0)]) {t : Step} (ht : t ∈ [(c, 0, 1), (c, 0, 2), (c, 1, 0), (c, 1, 2), (b, 1, 0), (e, 0, 1)]) : badOv p (nm, x, some t) = true := by
  obtain ⟨k1, k2, k3, k4⟩ := h.kind
  obtain ⟨p1, p2, p3, p4⟩ := h.part
  obtain ⟨_, ⟨h6, h7, h8, h9⟩, ⟨h10, h11, h12⟩, _⟩ := h.host.ne
  have np : (decide (("points" : Str) = "plain") || decide (("points" : Str) = "crossing")) = false := by decide
  have key : ∀ i : Int, fitsOv p.st (some (c, i)) t = false := fun i => by
    unfold fitsOv
    by_cases hc : t.1 = c
    · rw [hc, k3]
      dsimp only
      rw [np, Bool.false_and, Bool.and_false]
    · have : decide (some (c, i) = some (t.1, t.2.1)) = false := decide_eq_false fun z => by
        injection z with z
        injection z with z1 _
        exact hc z1.symm
      rw [this, Bool.false_and]
  simp only [List.mem_cons, List.not_mem_nil, or_false] at hx
  rcases hx with rfl | rfl
  · show (!fitsOv p.st (partAt p.jo (b, 1)) t) = true
    rw [p3, key]; rfl
  · show (!fitsOv p.st (partAt p.jo (e, 0)) t) = true
    rw [p4, key]; rfl
end
end PL

namespace PL
open PySem PySem.Spec PyProof.Rows L2 GA GxR DL TM
/-! ### two items put in, in either order -/
theorem insA_app {α : Type} (A B : List α) (x : α) {k : Nat} (h : A.length = k) : insA (A ++ B) k x = A ++ x :: B := by
  unfold insA
  rw [← h, List.take_left, List.drop_left]
theorem snd_ne {a b : Str} {i j : Int} (h : i ≠ j) (z : ((a, i) : End) = (b, j)) : False := h (congrArg Prod.snd z)
theorem split2 {α : Type} (l : List α) {k : Nat} (h : k ≤ l.length) : ∃ A B, l = A ++ B ∧ A.length = k := ⟨l.take k, l.drop k, (List.take_append_drop k l).symm, by rw [List.length_take]; omega⟩
theorem ins_swap {α : Type} {l : List α} {k j : Nat} {x y : α} (h : k ≤ j) (hj : j ≤ l.length) : insA (insA l j x) k y = insA (insA l k y) (j + 1) x := by
  obtain ⟨A, B, rfl, hA⟩ := split2 l (k := k) (by omega)
  rw [List.length_append] at hj
  obtain ⟨C, E, rfl, hC⟩ := split2 B (k := j - k) (by omega)
  have e1 : insA (A ++ (C ++ E)) j x = A ++ (C ++ x :: E) := by
    rw [← List.append_assoc, insA_app (A ++ C) E x (by rw [List.length_append]; omega), List.append_assoc]
  have e2 : insA (A ++ (C ++ E)) k y = A ++ (y :: (C ++ E)) := insA_app A _ y hA
  rw [e1, e2, insA_app A _ y hA]
  have e3 : A ++ (y :: (C ++ E)) = (A ++ (y :: C)) ++ E := by simp
  rw [e3, insA_app (A ++ (y :: C)) E x (by rw [List.length_append, List.length_cons]; omega)]
  simp
theorem take_ins {α : Type} {l : List α} {i j : Nat} {y : α} (h : i ≤ j) (hj : j ≤ l.length) : (insA l j y).take i = l.take i := by
  obtain ⟨A, B, rfl, hA⟩ := split2 l hj
  rw [insA_app A B y hA, List.take_append_of_le_length (by omega), List.take_append_of_le_length (by omega)]
theorem take_sub {α : Type} {l : List α} {i j : Nat} {y : α} (h : j ≤ i) {z : α} (hz : z ∈ l.take i) : z ∈ (insA l j y).take (i + 1) := by
  by_cases hj : j ≤ l.length
  · obtain ⟨A, B, rfl, hA⟩ := split2 l hj
    rw [insA_app A B y hA]
    rw [List.take_append, List.mem_append] at hz ⊢
    rcases hz with hz | hz
    · exact .inl (by rw [List.take_of_length_le (by omega)] at hz ⊢; exact hz)
    · refine .inr ?_
      rw [show i + 1 - A.length = (i - A.length) + 1 by omega, List.take_succ_cons]
      exact List.mem_cons_of_mem _ hz
  · have : insA l j y = l ++ [y] := by unfold insA; rw [List.take_of_length_le (by omega), List.drop_eq_nil_of_le (by omega)]
    rw [this, List.take_append, List.mem_append]
    refine .inl ?_
    rw [List.take_of_length_le (by omega)]
    exact List.mem_of_mem_take hz
/-! ### what a plan's beginning is -/
def Wit.len (p : Pln) : Wit → Nat
  | .st _ => p.st.length | .jo _ => p.jo.length | .ga _ => p.ga.length | .si _ => p.si.length
def Wit.cut (P : Pln) (i : Nat) : Wit → Pln
  | .st _ => ⟨P.st.take i, [], [], []⟩
  | .jo _ => ⟨P.st, P.jo.take i, [], []⟩
  | .ga _ => ⟨P.st, P.jo, P.ga.take i, []⟩
  | .si _ => ⟨P.st, P.jo, P.ga, P.si.take i⟩
def HostIn (h P : Pln) (i : Nat) : Wit → Prop
  | .st _ => ∀ z ∈ h.st, z ∈ P.st.take i
  | .jo _ => ∀ z ∈ h.jo, z ∈ P.jo.take i
  | .ga _ => ∀ z ∈ h.ga, z ∈ P.ga.take i
  | .si _ => ∀ z ∈ h.si, z ∈ P.si.take i
def Later (x y : Wit) (i j : Nat) : Prop := x.part < y.part ∨ (x.part = y.part ∧ i ≤ j)
theorem cut_later {p : Pln} {x y : Wit} {i j : Nat} (h : Later x y i j) (hj : j ≤ y.len p) : x.cut (y.put p j) i = x.cut p i := by
  cases x <;> cases y <;> simp only [Later, Wit.part] at h <;> simp only [Wit.len] at hj <;> first
    | rfl
    | (simp only [Wit.cut, Wit.put]; rw [take_ins (by omega) hj]; done)
    | (exfalso; omega)
theorem nms_put {p : Pln} {w : Wit} {k : Nat} {n : Str} (h : (∃ x, w = .jo x) ∨ (∃ x, w = .ga (n, x)) ∨ ∃ x o, w = .si (n, x, o)) : (w.put p k).nms = p.nms ∨ (w.put p k).nms.Perm (n :: p.nms) := by
  rcases h with ⟨x, rfl⟩ | ⟨x, rfl⟩ | ⟨x, o, rfl⟩
  · exact .inl rfl
  · exact .inr (nms_perm2 p k (n, x))
  · exact .inr (nms_perm3 p k (n, x, o))
theorem cut_nms {P : Pln} {i : Nat} (w : Wit) : (w.cut P i).nms.Sublist P.nms := by
  unfold Pln.nms
  cases w with
  | st x => exact ((List.take_sublist _ _).map _).append (List.nil_sublist _) |>.append (List.nil_sublist _)
  | jo x => exact ((List.Sublist.refl _).append (List.nil_sublist _)).append (List.nil_sublist _)
  | ga x => exact ((List.Sublist.refl _).append ((List.take_sublist _ _).map _)).append (List.nil_sublist _)
  | si x => exact ((List.Sublist.refl _).append (List.Sublist.refl _)).append ((List.take_sublist _ _).map _)
def EndsIn (P : Pln) : Prop := (∀ j ∈ P.jo, endEx P.st j.1 = true ∧ endEx P.st j.2 = true) ∧ ∀ g ∈ P.gs, endEx P.st g.2 = true
theorem Chk.endsIn {p : Pln} (h : Chk p) : EndsIn p := ⟨h.jex, h.gex⟩
theorem mem_gs {P : Pln} {g : Str × End} : g ∈ P.gs ↔ g ∈ P.ga ∨ ∃ s ∈ P.si, (s.1, s.2.1) = g := by
  unfold Pln.gs
  rw [List.mem_append, List.mem_map]
theorem cut_ends {P : Pln} {i : Nat} {w : Wit} (h : EndsIn P) (hw : w.part ≠ 0) : EndsIn (w.cut P i) := by
  cases w with
  | st x => exact absurd rfl hw
  | jo x => exact ⟨fun j hj => h.1 j (List.mem_of_mem_take hj), fun g hg => by cases hg⟩
  | ga x => exact ⟨h.1, fun g hg => by
      rcases mem_gs.mp hg with hg | ⟨s, hs, _⟩
      · exact h.2 g (mem_gs.mpr (.inl (List.mem_of_mem_take hg)))
      · cases hs⟩
  | si x => exact ⟨h.1, fun g hg => by
      rcases mem_gs.mp hg with hg | ⟨s, hs, z⟩
      · exact h.2 g (mem_gs.mpr (.inl hg))
      · exact h.2 g (mem_gs.mpr (.inr ⟨s, List.mem_of_mem_take hs, z⟩))⟩
end PL
namespace PL
open PySem PySem.Spec PyProof.Rows L2 GA GxR DL TM
section
variable {p : Pln} {a b c e g s : Str} {r1 r2 r3 : Bool} {o : Option Step}
theorem Right.ex (h : Right p a b c e g s r1 r2 r3 o) {x : End} (hx : x = (a, 0) ∨ x = (a, 1) ∨ x = (b, 0) ∨ x = (b, 1) ∨ x = (c, 0) ∨ x = (c, 1) ∨ x = (c, 2) ∨ x = (e, 0) ∨ x = (e, 1)) : endEx p.st x = true := by
  obtain ⟨k1, k2, k3, k4⟩ := h.kind
  unfold endEx
  rcases hx with rfl | rfl | rfl | rfl | rfl | rfl | rfl | rfl | rfl <;> dsimp only <;> first | (rw [k1]; rfl) | (rw [k2]; rfl) | (rw [k3]; rfl) | (rw [k4]; rfl)
end
/-- one item of the kind k, that is wrong -/
inductive It (p : Pln) (a b c e g s : Str) (t : Int) : Int → Wit → Str → Bool → Str → Prop where
  | named {w : Wit} {n nm : Str} (h : NamedOk a b c e g s w n) : It p a b c e g s t 0 w n true nm
  | ended {w : Wit} {n f nm : Str} (h : EndedOk a c e g f nm w n) (hf : f ∉ p.nms) (hn : nm ∉ p.nms) : It p a b c e g s t 1 w n false nm
  | wrong {k : Int} {w : Wit} {n nm : Str} {low : Bool} (h : WrongOk a b c e nm k t w n low) (hn : nm ∉ p.nms) : It p a b c e g s t k w n low nm
section
variable {p : Pln} {a b c e g s : Str} {r1 r2 r3 : Bool} {o : Option Step} {t k : Int} {w : Wit} {n nm : Str} {low : Bool}
theorem It.sh1 (h : It p a b c e g s t k w n low nm) (hk : 1 ≤ k) : nm ∉ p.nms ∧ w.part ≠ 0 ∧ ((∃ x, w = .jo x) ∨ (∃ x, w = .ga (nm, x)) ∨ ∃ x o, w = .si (nm, x, o)) := by
  cases h with
  | named h => omega
  | ended h hf hn =>
    refine ⟨hn, ?_⟩
    cases h with
    | j1 => exact ⟨by simp [Wit.part], .inl ⟨_, rfl⟩⟩
    | j2 => exact ⟨by simp [Wit.part], .inl ⟨_, rfl⟩⟩
    | ga => exact ⟨by simp [Wit.part], .inr (.inl ⟨_, rfl⟩)⟩
    | si => exact ⟨by simp [Wit.part], .inr (.inr ⟨_, _, rfl⟩)⟩
  | wrong h hn =>
    refine ⟨hn, ?_⟩
    cases h with
    | jo => exact ⟨by simp [Wit.part], .inl ⟨_, rfl⟩⟩
    | ga => exact ⟨by simp [Wit.part], .inr (.inl ⟨_, rfl⟩)⟩
    | si => exact ⟨by simp [Wit.part], .inr (.inr ⟨_, _, rfl⟩)⟩
    | o0 => exact ⟨by simp [Wit.part], .inr (.inr ⟨_, _, rfl⟩)⟩
    | o1 => exact ⟨by simp [Wit.part], .inr (.inr ⟨_, _, rfl⟩)⟩
theorem It.sh2 (R : Right p a b c e g s r1 r2 r3 o) (h : It p a b c e g s t k w n low nm) (hk : 2 ≤ k) :
    (∃ x, w = .jo x ∧ k = 2 ∧ endEx p.st x.1 = true ∧ endEx p.st x.2 = true) ∨ (∃ x, w = .ga (nm, x) ∧ k = 3 ∧ endEx p.st x = true) ∨ ∃ x o, w = .si (nm, x, o) ∧ (k = 4 ∨ k = 5) ∧ endEx p.st x = true := by
  cases h with
  | named h => omega
  | ended h hf hn => omega
  | wrong h hn =>
    cases h with
    | @jo x r _ hx =>
      have key : endEx p.st x.1 = true ∧ endEx p.st x.2 = true := by
        simp only [List.mem_cons, List.not_mem_nil, or_false] at hx
        rcases hx with rfl | rfl | rfl | rfl <;> exact ⟨R.ex (by simp), R.ex (by simp)⟩
      refine .inl ⟨_, rfl, rfl, ?_⟩
      cases r
      · exact key
      · exact ⟨key.2, key.1⟩
    | @ga x _ hx => exact .inr (.inl ⟨_, rfl, rfl, by
        simp only [List.mem_cons, List.not_mem_nil, or_false] at hx
        rcases hx with rfl | rfl | rfl | rfl <;> exact R.ex (by simp)⟩)
    | @si x _ _ hx => exact .inr (.inr ⟨_, _, rfl, .inl rfl, by
        simp only [List.mem_cons, List.not_mem_nil, or_false] at hx
        rcases hx with rfl | rfl | rfl | rfl <;> exact R.ex (by simp)⟩)
    | o0 => exact .inr (.inr ⟨_, _, rfl, .inr rfl, R.ex (by simp)⟩)
    | @o1 x _ hx => exact .inr (.inr ⟨_, _, rfl, .inr rfl, by
        simp only [List.mem_cons, List.not_mem_nil, or_false] at hx
        rcases hx with rfl | rfl <;> exact R.ex (by simp)⟩)
theorem It.sh5 (h : It p a b c e g s t k w n low nm) (hk : k = 5) : ∃ x o, w = .si (nm, x, o) ∧ (x = (b, 0) ∧ t = 0 ∨ (x = (b, 1) ∨ x = (e, 0)) ∧ t = 1) := by
  cases h with
  | named h => omega
  | ended h hf hn => omega
  | wrong h hn =>
    cases h with
    | jo => omega
    | ga => omega
    | si => omega
    | o0 => exact ⟨_, _, rfl, .inl ⟨rfl, rfl⟩⟩
    | @o1 x _ hx =>
      simp only [List.mem_cons, List.not_mem_nil, or_false] at hx
      exact ⟨_, _, rfl, .inr ⟨hx, rfl⟩⟩
/-- the plan in which the item is put -/
inductive Bef (p : Pln) (a b c e g s : Str) (t k : Int) (x : Wit) (i : Nat) (nm : Str) : Pln → Prop where
  | none : Bef p a b c e g s t k x i nm p
  | some {t' k' : Int} {y : Wit} {n' nm' : Str} {low' : Bool} {j : Nat} (hy : It p a b c e g s t' k' y n' low' nm') (hk : k ≤ k') (hl : k = k' → Later x y i j) (hj : j ≤ y.len p) (hn : 1 ≤ k → nm ≠ nm') (ht : t = 0 ∧ t' = 1 ∨ t = 1 ∧ t' = 0) : Bef p a b c e g s t k x i nm (y.put p j)
variable {P : Pln} {i : Nat}
theorem Bef.b0 (R : Right p a b c e g s r1 r2 r3 o) (hx : It p a b c e g s t k w n low nm) (h : Bef p a b c e g s t k w i nm P) (hk : 1 ≤ k) : P.nms.Nodup ∧ nm ∉ P.nms ∧ P.st = p.st := by
  have h1 := (hx.sh1 hk).1
  cases h with
  | none => exact ⟨R.chk.nd, h1, rfl⟩
  | @some t' k' y n' nm' low' j hy hk' hl hj hn ht =>
    obtain ⟨z1, z2, z3⟩ := hy.sh1 (by omega)
    refine ⟨?_, ?_, by cases y <;> first | rfl | exact absurd rfl z2⟩
    · rcases nms_put (p := p) (k := j) z3 with q | q
      · rw [q]; exact R.chk.nd
      · exact q.nodup_iff.mpr (List.nodup_cons.mpr ⟨z1, R.chk.nd⟩)
    · rcases nms_put (p := p) (k := j) z3 with q | q
      · rw [q]; exact h1
      · rw [q.mem_iff, List.mem_cons]; exact fun z => z.elim (hn hk) h1
theorem ends_put (R : Right p a b c e g s r1 r2 r3 o) (h : It p a b c e g s t k w n low nm) (hk : 2 ≤ k) {Q : Pln} (hQ : EndsIn Q) (hs : Q.st = p.st) (j : Nat) : EndsIn (w.put Q j) := by
  rcases h.sh2 R hk with ⟨x, rfl, _, e1, e2⟩ | ⟨x, rfl, _, e1⟩ | ⟨x, o', rfl, _, e1⟩
  · refine ⟨fun z hz => ?_, hQ.2⟩
    rcases insA_mem.mp hz with rfl | hz
    · show endEx Q.st _ = true ∧ endEx Q.st _ = true
      rw [hs]; exact ⟨e1, e2⟩
    · exact hQ.1 z hz
  · refine ⟨hQ.1, fun z hz => ?_⟩
    rcases mem_gs.mp hz with hz | ⟨q, hq, rfl⟩
    · rcases insA_mem.mp hz with rfl | hz
      · show endEx Q.st _ = true
        rw [hs]; exact e1
      · exact hQ.2 z (mem_gs.mpr (.inl hz))
    · exact hQ.2 _ (mem_gs.mpr (.inr ⟨q, hq, rfl⟩))
  · refine ⟨hQ.1, fun z hz => ?_⟩
    rcases mem_gs.mp hz with hz | ⟨q, hq, rfl⟩
    · exact hQ.2 z (mem_gs.mpr (.inl hz))
    · rcases insA_mem.mp hq with rfl | hq
      · show endEx Q.st _ = true
        rw [hs]; exact e1
      · exact hQ.2 _ (mem_gs.mpr (.inr ⟨q, hq, rfl⟩))
theorem Bef.b1 (R : Right p a b c e g s r1 r2 r3 o) (h : Bef p a b c e g s t k w i nm P) (hk : 2 ≤ k) : EndsIn P := by
  cases h with
  | none => exact R.chk.endsIn
  | some hy hk' hl hj hn ht => exact ends_put R hy (by omega) R.chk.endsIn rfl _
theorem Bef.b2 (R : Right p a b c e g s r1 r2 r3 o) (h : Bef p a b c e g s t k w i nm P) (hk : 3 ≤ k) : P.jo = p.jo := by
  cases h with
  | none => rfl
  | some hy hk' hl hj hn ht => rcases hy.sh2 R (by omega) with ⟨x, rfl, z, _⟩ | ⟨x, rfl, _⟩ | ⟨x, o', rfl, _⟩ <;> first | rfl | omega
theorem Bef.b3 (R : Right p a b c e g s r1 r2 r3 o) (h : Bef p a b c e g s t k w i nm P) (hk : 4 ≤ k) : P.ga = p.ga := by
  cases h with
  | none => rfl
  | some hy hk' hl hj hn ht => rcases hy.sh2 R (by omega) with ⟨x, rfl, z, _⟩ | ⟨x, rfl, z, _⟩ | ⟨x, o', rfl, _⟩ <;> first | rfl | omega
/-- what more is known of the host's ends -/
structure Far (p : Pln) (b e : Str) : Prop where
  free : (e, (1 : Int)) ∉ jends p.jo
  b0 : ((b, 0) : End) ∉ p.gs2.map (·.2)
  b1 : ((b, 1) : End) ∉ p.gs2.map (·.2)
  e0 : ((e, 0) : End) ∉ p.gs2.map (·.2)
  eg : ((e, 1) : End) ∉ p.ga.map (·.2)
theorem sig_put (R : Right p a b c e g s r1 r2 r3 o) {x : End} {o' : Option Step} (hx : x = (b, 0) ∨ x = (b, 1) ∨ x = (e, 0)) {Q : Pln} (hj : Q.jo = p.jo) (hs : Q.st = p.st) (h : wpGo Q.st Q.jo true [] Q.gs2 = none) (hn : x ∉ Q.gs2.map (·.2)) (j : Nat) : wpGo Q.st Q.jo true [] (Wit.put Q j (.si (nm, x, o'))).gs2 = none := by
  obtain ⟨k1, k2, k3, k4⟩ := R.kind
  obtain ⟨p1, p2, p3, p4⟩ := R.part
  have eq1 : (Wit.put Q j (.si (nm, x, o'))).gs2 = insA Q.gs2 j (nm, x) := insA_map (fun s : Str × End × Option Step => (s.1, s.2.1)) Q.si j (nm, x, o')
  rw [eq1]
  obtain ⟨h1, h2, h3⟩ := wp_none.mp h
  refine wp_none.mpr ⟨fun z hz => ?_, ?_, by simp⟩
  · rcases insA_mem.mp hz with rfl | hz
    · rw [hj, hs]
      rcases hx with rfl | rfl | rfl
      · exact ⟨by show (partAt p.jo (b, 0)).isSome = true; rw [p2]; rfl, k2⟩
      · exact ⟨by show (partAt p.jo (b, 1)).isSome = true; rw [p3]; rfl, k2⟩
      · exact ⟨by show (partAt p.jo (e, 0)).isSome = true; rw [p4]; rfl, k4⟩
    · exact h1 z hz
  · rw [((insA_perm Q.gs2 j (nm, x)).map _).nodup_iff, List.map_cons]
    exact List.nodup_cons.mpr ⟨hn, h2⟩
theorem chk_wp {q : Pln} (h : Chk q) : wpGo q.st q.jo true [] q.gs2 = none := (fault_none.mp (chk_iff.mpr h)).2.2.2.2.1
theorem gs2_put {Q : Pln} {j : Nat} {x : End} {o' : Option Step} {z : End} : z ∈ (Wit.put Q j (.si (nm, x, o'))).gs2.map (·.2) ↔ z = x ∨ z ∈ Q.gs2.map (·.2) := by
  have e : (Wit.put Q j (.si (nm, x, o'))).gs2 = insA Q.gs2 j (nm, x) := insA_map (fun s : Str × End × Option Step => (s.1, s.2.1)) Q.si j (nm, x, o')
  rw [e, ((insA_perm Q.gs2 j (nm, x)).map _).mem_iff, List.map_cons, List.mem_cons]
theorem Far.not (F : Far p b e) {x : End} (hx : x = (b, 0) ∨ x = (b, 1) ∨ x = (e, 0)) : x ∉ p.gs2.map (·.2) := by
  rcases hx with rfl | rfl | rfl
  · exact F.b0
  · exact F.b1
  · exact F.e0
theorem Bef.b4 (R : Right p a b c e g s r1 r2 r3 o) (F : Far p b e) (hx : It p a b c e g s t 5 w n low nm) (h : Bef p a b c e g s t 5 w i nm P) (j : Nat) : wpGo P.st P.jo true [] (w.put P j).gs2 = Option.none := by
  obtain ⟨x, o1, rfl, hx2⟩ := hx.sh5 rfl
  have hxs : x = (b, 0) ∨ x = (b, 1) ∨ x = (e, 0) := by rcases hx2 with ⟨z, _⟩ | ⟨z | z, _⟩ <;> simp [z]
  obtain ⟨⟨h1, h2, h3, h4, h5⟩, ⟨h6, h7, h8, h9⟩, _⟩ := R.host.ne
  cases h with
  | none => exact sig_put R hxs rfl rfl (chk_wp R.chk) (F.not hxs) j
  | @some t' k' y n' nm' low' j' hy hk' hl hj hn ht =>
    have hk5 : k' = 5 := by
      rcases hy.sh2 R (by omega) with ⟨_, _, z, _⟩ | ⟨_, _, z, _⟩ | ⟨_, _, _, z, _⟩ <;> omega
    subst hk5
    obtain ⟨y', o2, rfl, hy2⟩ := hy.sh5 rfl
    have hys : y' = (b, 0) ∨ y' = (b, 1) ∨ y' = (e, 0) := by rcases hy2 with ⟨z, _⟩ | ⟨z | z, _⟩ <;> simp [z]
    refine sig_put R hxs (Q := Wit.put p j' (.si (nm', y', o2))) rfl rfl (sig_put R hys rfl rfl (chk_wp R.chk) (F.not hys) j') (fun z => ?_) j
    rcases gs2_put.mp z with z | z
    · subst z
      rcases hx2 with ⟨q1, q2⟩ | ⟨q1, q2⟩ <;> rcases hy2 with ⟨q3, q4⟩ | ⟨q3, q4⟩
      · omega
      · rw [q1] at q3
        rcases q3 with q3 | q3
        · exact (snd_ne (by decide) q3).elim
        · exact h7 (congrArg Prod.fst q3)
      · rw [q3] at q1
        rcases q1 with q1 | q1
        · exact (snd_ne (by decide) q1).elim
        · exact h7 (congrArg Prod.fst q1)
      · omega
    · exact F.not hxs z
end
end PL

namespace PL
open PySem PySem.Spec PyProof.Rows L2 GA GxR DL TM
/-! ### the due fault, with one other item that is not earlier -/
section
variable {p : Pln} {a b c e g s : Str} {r1 r2 r3 : Bool} {o : Option Step} {t k : Int} {w : Wit} {n nm : Str} {low : Bool} {P : Pln} {i : Nat}
theorem host_st {n : Str} (h : n ∈ [a, b, c, e]) : ∃ k, (n, k) ∈ (hostP a b c e g s r1 r2 r3 o).st := by
  simp only [List.mem_cons, List.not_mem_nil, or_false] at h
  rcases h with rfl | rfl | rfl | rfl
  · exact ⟨"plain", by simp [hostP]⟩
  · exact ⟨"plain", by simp [hostP]⟩
  · exact ⟨"points", by simp [hostP]⟩
  · exact ⟨"plain", by simp [hostP]⟩
theorem hit0 (hx : NamedOk a b c e g s w n) (hst : ∀ z ∈ (hostP a b c e g s r1 r2 r3 o).st, z ∈ P.st) (hga : ∀ z ∈ (hostP a b c e g s r1 r2 r3 o).ga, z ∈ P.ga) (hi : HostIn (hostP a b c e g s r1 r2 r3 o) P i w) (hn : (w.cut P i).nms.Nodup) : dupGo [] (w.put P i).nms = some n := by
  have st4 : ∀ {m : Str}, m ∈ [a, b, c, e] → m ∈ P.st.map (·.1) := fun hm => by
    obtain ⟨k, hk⟩ := host_st (g := g) (s := s) (r1 := r1) (r2 := r2) (r3 := r3) (o := o) hm
    exact List.mem_map.mpr ⟨_, hst _ hk, rfl⟩
  cases hx with
  | st h =>
    have e1 : (Wit.put P i (.st (n, "crossing"))).nms = (P.st.take i).map (·.1) ++ n :: ((P.st.drop i).map (·.1) ++ (P.ga.map (·.1) ++ P.si.map (·.1))) := by simp [Wit.put, Pln.nms, insA]
    rw [e1]
    refine dup_first (by simpa [Wit.cut, Pln.nms] using hn) ?_
    obtain ⟨k, hk⟩ := host_st (g := g) (s := s) (r1 := r1) (r2 := r2) (r3 := r3) (o := o) h
    exact List.mem_map.mpr ⟨_, hi _ hk, rfl⟩
  | ga h =>
    have e1 : (Wit.put P i (.ga (n, (e, 1)))).nms = (P.st.map (·.1) ++ (P.ga.take i).map (·.1)) ++ n :: ((P.ga.drop i).map (·.1) ++ P.si.map (·.1)) := by simp [Wit.put, Pln.nms, insA]
    rw [e1]
    refine dup_first (by simpa [Wit.cut, Pln.nms] using hn) ?_
    by_cases hg : n = g
    · exact List.mem_append_right _ (List.mem_map.mpr ⟨_, hi _ List.mem_cons_self, hg.symm⟩)
    · refine List.mem_append_left _ (st4 ?_)
      simp only [List.mem_cons, List.not_mem_nil, or_false] at h ⊢
      rcases h with z | z | z | z | z
      · exact .inl z
      · exact .inr (.inl z)
      · exact .inr (.inr (.inl z))
      · exact .inr (.inr (.inr z))
      · exact absurd z hg
  | si h =>
    have e1 : (Wit.put P i (.si (n, (e, 0), none))).nms = (P.st.map (·.1) ++ P.ga.map (·.1) ++ (P.si.take i).map (·.1)) ++ n :: (P.si.drop i).map (·.1) := by simp [Wit.put, Pln.nms, insA]
    rw [e1]
    refine dup_first (by simpa [Wit.cut, Pln.nms] using hn) ?_
    by_cases hs : n = s
    · exact List.mem_append_right _ (List.mem_map.mpr ⟨_, hi _ List.mem_cons_self, hs.symm⟩)
    · by_cases hg : n = g
      · exact List.mem_append_left _ (List.mem_append_right _ (List.mem_map.mpr ⟨_, hga _ List.mem_cons_self, hg.symm⟩))
      · refine List.mem_append_left _ (List.mem_append_left _ (st4 ?_))
        simp only [List.mem_cons, List.not_mem_nil, or_false] at h ⊢
        rcases h with z | z | z | z | z | z
        · exact .inl z
        · exact .inr (.inl z)
        · exact .inr (.inr (.inl z))
        · exact .inr (.inr (.inr z))
        · exact absurd z hg
        · exact absurd z hs
theorem hit1 (R : Right p a b c e g s r1 r2 r3 o) {f : Str} (hx : EndedOk a c e g f nm w n) (hf : f ∉ p.nms) (hs : P.st = p.st) (hc : EndsIn (w.cut P i)) : missEnd (w.put P i) = some n := by
  have mis : ∀ {x : End}, NoEnd a c g f x → endEx P.st x = false := fun hx => by rw [hs]; exact R.missing hf hx
  cases hx with
  | j1 hx => exact miss_first (p := Wit.put P i (.jo (_, (e, 1)))) rfl hc.1 (.inl (mis hx))
  | j2 hx => exact miss_first (p := Wit.put P i (.jo ((e, 1), _))) rfl hc.1 (.inr (mis hx))
  | @ga xx hx =>
    refine miss_gs_first (g := (n, xx)) (p := Wit.put P i (.ga (n, xx))) (A := P.ga.take i) (B := P.ga.drop i ++ P.gs2) hc.1 ?_ (fun x hx => hc.2 x (mem_gs.mpr (.inl hx))) (mis hx)
    show insA P.ga i (n, xx) ++ P.gs2 = _
    unfold insA
    rw [List.append_assoc]; rfl
  | @si xx hx =>
    refine miss_gs_first (g := (n, xx)) (p := Wit.put P i (.si (n, xx, none))) (A := P.ga ++ P.gs2.take i) (B := P.gs2.drop i) hc.1 ?_ (fun x hx => ?_) (mis hx)
    · show P.ga ++ (insA P.si i (n, xx, none)).map (fun s => (s.1, s.2.1)) = _
      rw [insA_map (fun s : Str × End × Option Step => (s.1, s.2.1)) P.si i (n, xx, none)]
      unfold insA Pln.gs2
      rw [List.append_assoc]
    · rcases List.mem_append.mp hx with hx | hx
      · exact hc.2 x (mem_gs.mpr (.inl hx))
      · unfold Pln.gs2 at hx
        rw [← List.map_take] at hx
        obtain ⟨q, hq, rfl⟩ := List.mem_map.mp hx
        exact hc.2 _ (mem_gs.mpr (.inr ⟨q, hq, rfl⟩))
theorem hit2 {x : End × End} (hw : wjGo [] (P.jo.take i) = none) (hb : x.1.1 = x.2.1 ∨ x.1 ∈ jends (P.jo.take i) ∨ x.2 ∈ jends (P.jo.take i)) : wjGo [] (Wit.put P i (.jo x)).jo = some x.1.1 := wj_first (A := P.jo.take i) (B := P.jo.drop i) hw hb
theorem hit3 {x : End} (hw : wpGo P.st P.jo false [] (P.ga.take i) = none) (hb : (partAt P.jo x).isSome ≠ false ∨ x ∈ (P.ga.take i).map (·.2) ∨ kindAt P.st x.1 ≠ some ("plain" : Str)) : wpGo P.st P.jo false [] (Wit.put P i (.ga (nm, x))).ga = some nm := wp_first (A := P.ga.take i) (B := P.ga.drop i) (g := (nm, x)) hw hb
theorem hit4 {x : End} {o' : Option Step} (hw : wpGo P.st P.jo true [] (P.gs2.take i) = none) (hb : (partAt P.jo x).isSome ≠ true ∨ x ∈ (P.gs2.take i).map (·.2) ∨ kindAt P.st x.1 ≠ some ("plain" : Str)) : wpGo P.st P.jo true [] (Wit.put P i (.si (nm, x, o'))).gs2 = some nm := by
  have e : (Wit.put P i (.si (nm, x, o'))).gs2 = insA P.gs2 i (nm, x) := insA_map (fun s : Str × End × Option Step => (s.1, s.2.1)) P.si i (nm, x, o')
  rw [e]
  exact wp_first (A := P.gs2.take i) (B := P.gs2.drop i) (g := (nm, x)) hw hb
theorem hit5 {x : End} {o' : Option Step} (hw : ∀ q ∈ P.si.take i, badOv P q = false) (hb : badOv P (nm, x, o') = true) : wrongOv (Wit.put P i (.si (nm, x, o'))) = some nm := ov_first (p := Wit.put P i (.si (nm, x, o'))) (A := P.si.take i) (B := P.si.drop i) (s := (nm, x, o')) rfl hw hb
theorem Bef.cut (h : Bef p a b c e g s t k w i nm P) : w.cut P i = w.cut p i ∨ ∃ (t' k' : Int) (y : Wit) (n' nm' : Str) (low' : Bool) (j : Nat), It p a b c e g s t' k' y n' low' nm' ∧ k < k' ∧ P = y.put p j := by
  cases h with
  | none => exact .inl rfl
  | @some t' k' y n' nm' low' j hy hk' hl hj hn ht =>
    by_cases hkk : k = k'
    · exact .inl (cut_later (hl hkk) hj)
    · exact .inr ⟨t', k', y, n', nm', low', j, hy, by omega, rfl⟩
theorem put_nd (R : Right p a b c e g s r1 r2 r3 o) (h : It p a b c e g s t k w n low nm) (hk : 1 ≤ k) (j : Nat) : (w.put p j).nms.Nodup := by
  obtain ⟨z1, z2, z3⟩ := h.sh1 hk
  rcases nms_put (p := p) (k := j) z3 with q | q
  · rw [q]; exact R.chk.nd
  · exact q.nodup_iff.mpr (List.nodup_cons.mpr ⟨z1, R.chk.nd⟩)
theorem put_st {y : Wit} {j : Nat} {z : Str × Str} (h : z ∈ p.st) : z ∈ (y.put p j).st := by
  cases y <;> first | exact h | exact insA_mem.mpr (.inr h)
theorem put_ga {y : Wit} {j : Nat} {z : Str × End} (h : z ∈ p.ga) : z ∈ (y.put p j).ga := by
  cases y <;> first | exact h | exact insA_mem.mpr (.inr h)
theorem Bef.sts (h : Bef p a b c e g s t k w i nm P) {z : Str × Str} (hz : z ∈ p.st) : z ∈ P.st := by
  cases h with
  | none => exact hz
  | some => exact put_st hz
theorem Bef.gas (h : Bef p a b c e g s t k w i nm P) {z : Str × End} (hz : z ∈ p.ga) : z ∈ P.ga := by
  cases h with
  | none => exact hz
  | some => exact put_ga hz
theorem cut_jo {P Q : Pln} {x : End × End} (h : Wit.cut P i (.jo x) = Wit.cut Q i (.jo x)) : P.jo.take i = Q.jo.take i := congrArg Pln.jo h
theorem cut_ga {P Q : Pln} {x : Str × End} (h : Wit.cut P i (.ga x) = Wit.cut Q i (.ga x)) : P.ga.take i = Q.ga.take i := congrArg Pln.ga h
theorem cut_si {P Q : Pln} {x : Str × End × Option Step} (h : Wit.cut P i (.si x) = Wit.cut Q i (.si x)) : P.si.take i = Q.si.take i := congrArg Pln.si h
theorem wp_take {st : List (Str × Str)} {jo : List (End × End)} {bb : Bool} {l : List (Str × End)} (h : wpGo st jo bb [] l = none) (i : Nat) : wpGo st jo bb [] (l.take i) = none := by
  obtain ⟨h1, h2, h3⟩ := wp_none.mp h
  exact wp_none.mpr ⟨fun z hz => h1 z (List.mem_of_mem_take hz), h2.sublist ((List.take_sublist _ _).map _), by simp⟩
theorem wj_take {l : List (End × End)} (h : wjGo [] l = none) (i : Nat) : wjGo [] (l.take i) = none := by
  obtain ⟨h1, h2, h3⟩ := wj_none.mp h
  exact wj_none.mpr ⟨fun z hz => h1 z (List.mem_of_mem_take hz), jends_nodup_sub (List.take_sublist _ _) h2, by simp⟩
def wordK (k : Int) : Str := if k = 0 then "name" else if k = 1 then "end" else if k = 2 then "joint" else if k = 3 then "gate" else if k = 4 then "signal" else "overlap"
/-- the due fault -/
theorem due1 (R : Right p a b c e g s r1 r2 r3 o) (F : Far p b e) (hx : It p a b c e g s t k w n low nm) (hP : Bef p a b c e g s t k w i nm P) (hlow : low = true → HostIn (hostP a b c e g s r1 r2 r3 o) P i w) : faultP (w.put P i) = some (wordK k, n) := by
  obtain ⟨c0, c1, c2, c3, c4, c5⟩ := fault_none.mp (chk_iff.mpr R.chk)
  have pass0 : 1 ≤ k → dupGo [] (w.put P i).nms = none := fun hk => by
    obtain ⟨b1, b2, b3⟩ := hP.b0 R hx hk
    refine dup_none.mpr ⟨?_, by simp⟩
    rcases nms_put (p := P) (k := i) (hx.sh1 hk).2.2 with q | q
    · rw [q]; exact b1
    · exact q.nodup_iff.mpr (List.nodup_cons.mpr ⟨b2, b1⟩)
  have stE : 1 ≤ k → P.st = p.st := fun hk => (hP.b0 R hx hk).2.2
  have pass1 : 2 ≤ k → missEnd (w.put P i) = none := fun hk => miss_none.mpr (ends_put R hx hk (hP.b1 R hk) (stE (by omega)) i)
  cases hx with
  | named hx =>
    refine f_name (hit0 hx (fun z hz => hP.sts (R.st z hz)) (fun z hz => hP.gas (R.ga z hz)) (hlow rfl) ?_)
    rcases hP.cut with q | ⟨t', k', y, n', nm', low', j, hy, hk, rfl⟩
    · rw [q]; exact R.chk.nd.sublist (cut_nms w)
    · exact (put_nd R hy (by omega) j).sublist (cut_nms w)
  | ended h hf hn =>
    have hx : It p a b c e g s t 1 w n false nm := .ended h hf hn
    refine f_end (pass0 (by omega)) (hit1 R h hf (stE (by omega)) ?_)
    rcases hP.cut with q | ⟨t', k', y, n', nm', low', j, hy, hk, rfl⟩
    · rw [q]; exact cut_ends R.chk.endsIn (hx.sh1 (by omega)).2.1
    · exact cut_ends (ends_put R hy (by omega) R.chk.endsIn rfl j) (hx.sh1 (by omega)).2.1
  | wrong h hn =>
    cases h with
    | @jo x r _ hx =>
      refine f_joint (pass0 (by omega)) (pass1 (by omega)) (hit2 ?_ (bad_jo (hlow rfl) hx))
      rcases hP.cut with q | ⟨t', k', y, n', nm', low', j, hy, hk, rfl⟩
      · rw [cut_jo q]; exact wj_take c2 i
      · have e : (y.put p j).jo = p.jo := by
          rcases hy.sh2 R (by omega) with ⟨_, rfl, z, _⟩ | ⟨_, rfl, _⟩ | ⟨_, _, rfl, _⟩ <;> first | rfl | omega
        rw [e]; exact wj_take c2 i
    | @ga x _ hx =>
      have e1 := stE (by omega)
      have e2 := hP.b2 R (by omega)
      refine f_gate (pass0 (by omega)) (pass1 (by omega)) ?_ ?_
      · show wjGo [] P.jo = none
        rw [e2]; exact c2
      · show wpGo P.st P.jo false [] (Wit.put P i (.ga (n, x))).ga = some n
        refine hit3 ?_ ?_
        · rw [e1, e2]
          rcases hP.cut with q | ⟨t', k', y, n', nm', low', j, hy, hk, rfl⟩
          · rw [cut_ga q]; exact wp_take c3 i
          · have e : (y.put p j).ga = p.ga := by
              rcases hy.sh2 R (by omega) with ⟨_, rfl, z, _⟩ | ⟨_, rfl, z, _⟩ | ⟨_, _, rfl, _⟩ <;> first | rfl | omega
            rw [e]; exact wp_take c3 i
        · rw [e1, e2]
          exact bad_ga R (hlow rfl _ List.mem_cons_self) hx
    | @si x o1 _ hx ho =>
      have e1 := stE (by omega)
      have e2 := hP.b2 R (by omega)
      have e3 := hP.b3 R (by omega)
      refine f_signal (pass0 (by omega)) (pass1 (by omega)) ?_ ?_ ?_
      · show wjGo [] P.jo = none
        rw [e2]; exact c2
      · show wpGo P.st P.jo false [] P.ga = none
        rw [e1, e2, e3]; exact c3
      · show wpGo P.st P.jo true [] (Wit.put P i (.si (n, x, o1))).gs2 = some n
        refine hit4 ?_ ?_
        · rcases hP.cut with q | ⟨t', k', y, n', nm', low', j, hy, hk, rfl⟩
          · have := cut_si q
            unfold Pln.gs2
            rw [← List.map_take, this, List.map_take, e1, e2]
            exact wp_take c4 i
          · have hk5 : k' = 5 := by
              rcases hy.sh2 R (by omega) with ⟨_, _, z, _⟩ | ⟨_, _, z, _⟩ | ⟨_, _, _, z, _⟩ <;> omega
            obtain ⟨y', o2, rfl, hy2⟩ := hy.sh5 hk5
            have hys : y' = (b, 0) ∨ y' = (b, 1) ∨ y' = (e, 0) := by rcases hy2 with ⟨z, _⟩ | ⟨z | z, _⟩ <;> simp [z]
            exact wp_take (sig_put R hys rfl rfl c4 (F.not hys) j) i
        · rw [e1, e2]
          refine bad_si R F.free ?_ hx
          have hs : (s, ((a, 1) : End), o) ∈ P.si.take i := hlow rfl _ List.mem_cons_self
          unfold Pln.gs2
          rw [← List.map_take]
          exact List.mem_map.mpr ⟨_, hs, rfl⟩
    | @o0 st hst =>
      have hx : It p a b c e g s 0 5 (.si (n, (b, 0), some st)) n false n := .wrong (.o0 hst) hn
      have e1 := stE (by omega)
      have e2 := hP.b2 R (by omega)
      have e3 := hP.b3 R (by omega)
      refine f_overlap (pass0 (by omega)) (pass1 (by omega)) ?_ ?_ (hP.b4 R F hx i) ?_
      · show wjGo [] P.jo = none
        rw [e2]; exact c2
      · show wpGo P.st P.jo false [] P.ga = none
        rw [e1, e2, e3]; exact c3
      · have eb : ∀ q, badOv P q = badOv p q := fun q => badOv_congr (fun _ _ => by rw [e1]) (by rw [e2])
        refine hit5 (fun q hq => ?_) ?_
        · rw [eb]
          rcases hP.cut with z | ⟨t', k', y, n', nm', low', j, hy, hk, rfl⟩
          · rw [cut_si z] at hq
            exact R.chk.ov q (List.mem_of_mem_take hq)
          · exfalso
            rcases hy.sh2 R (by omega) with ⟨_, _, z, _⟩ | ⟨_, _, z, _⟩ | ⟨_, _, _, z, _⟩ <;> omega
        · rw [eb]
          exact bad_o0 R (fun z => hn (R.nms _ (by rw [z]; simp))) hst
    | @o1 x st hxx hst =>
      have hx : It p a b c e g s 1 5 (.si (n, x, some st)) n false n := .wrong (.o1 hxx hst) hn
      have e1 := stE (by omega)
      have e2 := hP.b2 R (by omega)
      have e3 := hP.b3 R (by omega)
      refine f_overlap (pass0 (by omega)) (pass1 (by omega)) ?_ ?_ (hP.b4 R F hx i) ?_
      · show wjGo [] P.jo = none
        rw [e2]; exact c2
      · show wpGo P.st P.jo false [] P.ga = none
        rw [e1, e2, e3]; exact c3
      · have eb : ∀ q, badOv P q = badOv p q := fun q => badOv_congr (fun _ _ => by rw [e1]) (by rw [e2])
        refine hit5 (fun q hq => ?_) ?_
        · rw [eb]
          rcases hP.cut with z | ⟨t', k', y, n', nm', low', j, hy, hk, rfl⟩
          · rw [cut_si z] at hq
            exact R.chk.ov q (List.mem_of_mem_take hq)
          · exfalso
            rcases hy.sh2 R (by omega) with ⟨_, _, z, _⟩ | ⟨_, _, z, _⟩ | ⟨_, _, _, z, _⟩ <;> omega
        · rw [eb]
          exact bad_o1 R hxx hst
end
end PL

namespace PL
open PySem PySem.Spec PyProof.Rows L2 GA GxR DL TM
/-! ### two items, in the order in which they are put in -/
section
variable {p : Pln} {a b c e g s : Str} {r1 r2 r3 : Bool} {o : Option Step} {k1 k2 : Nat} {w1 w2 : Wit} {n1 n2 nm1 nm2 : Str} {low1 low2 : Bool} {κ1 κ2 : Int}
theorem swap_le (hp : w1.part = w2.part) (h : k2 ≤ k1) (hk : k1 ≤ w1.len p) : w2.put (w1.put p k1) k2 = w1.put (w2.put p k2) (k1 + 1) := by
  cases w1 <;> cases w2 <;> simp only [Wit.part] at hp <;> first
    | (exfalso; omega)
    | (simp only [Wit.put]; rw [ins_swap h hk])
theorem swap_gt (hp : w1.part = w2.part) (h : k1 < k2) (hk : k2 ≤ w2.len (w1.put p k1)) : w2.put (w1.put p k1) k2 = w1.put (w2.put p (k2 - 1)) k1 := by
  cases w1 <;> cases w2 <;> simp only [Wit.part] at hp <;> simp only [Wit.len, Wit.put] at hk <;> first
    | (exfalso; omega)
    | (simp only [Wit.put]; rw [insA_len] at hk; rw [ins_swap (k := k1) (j := k2 - 1) (by omega) (by omega), show k2 - 1 + 1 = k2 by omega])
theorem swap_ne (hp : w1.part ≠ w2.part) : w2.put (w1.put p k1) k2 = w1.put (w2.put p k2) k1 := by
  cases w1 <;> cases w2 <;> first
    | rfl
    | exact absurd rfl hp
theorem len_ne (hp : w1.part ≠ w2.part) : w2.len (w1.put p k1) = w2.len p := by
  cases w1 <;> cases w2 <;> first
    | rfl
    | exact absurd rfl hp
theorem len_eq (hp : w1.part = w2.part) : w2.len (w1.put p k1) = w2.len p + 1 := by
  cases w1 <;> cases w2 <;> simp only [Wit.part] at hp <;> first
    | exact insA_len ..
    | (exfalso; omega)
theorem len_same (hp : w1.part = w2.part) : w1.len p = w2.len p := by
  cases w1 <;> cases w2 <;> simp only [Wit.part] at hp <;> first
    | rfl
    | (exfalso; omega)
theorem host_ne {h : Pln} (hp : w1.part ≠ w2.part) (H : HostIn h p k1 w1) : HostIn h (w2.put p k2) k1 w1 := by
  cases w1 <;> cases w2 <;> first
    | exact H
    | exact absurd rfl hp
theorem host_le {h : Pln} (hp : w1.part = w2.part) (hk : k2 ≤ k1) (H : HostIn h p k1 w1) : HostIn h (w2.put p k2) (k1 + 1) w1 := by
  cases w1 <;> cases w2 <;> simp only [Wit.part] at hp <;> first
    | (exfalso; omega)
    | exact fun z hz => take_sub hk (H z hz)
theorem host_gt {h : Pln} (hp : w1.part = w2.part) (hk : k1 ≤ k2) (hl : k2 ≤ w2.len p) (H : HostIn h p k1 w1) : HostIn h (w2.put p k2) k1 w1 := by
  cases w1 <;> cases w2 <;> simp only [Wit.part] at hp <;> simp only [Wit.len] at hl <;> first
    | (exfalso; omega)
    | exact fun z hz => by simp only [Wit.put]; rw [take_ins hk hl]; exact H z hz
variable (R : Right p a b c e g s r1 r2 r3 o) (F : Far p b e) (h1 : It p a b c e g s 0 κ1 w1 n1 low1 nm1) (h2 : It p a b c e g s 1 κ2 w2 n2 low2 nm2) (hk1 : k1 ≤ w1.len p) (hk2 : k2 ≤ w2.len (w1.put p k1))
  (hl1 : low1 = true → HostIn (hostP a b c e g s r1 r2 r3 o) p k1 w1) (hl2 : low2 = true → HostIn (hostP a b c e g s r1 r2 r3 o) (w1.put p k1) k2 w2) (hn : 1 ≤ κ1 → 1 ≤ κ2 → nm1 ≠ nm2)
include R F h1 h2 hk1 hk2 hl1 hl2 hn
theorem two2 (hf : κ2 < κ1 ∨ κ2 = κ1 ∧ Later w2 w1 k2 k1) : faultP (w2.put (w1.put p k1) k2) = some (wordK κ2, n2) :=
  due1 R F h2 (.some h1 (by omega) (fun z => by rcases hf with q | q; (omega); (exact q.2)) hk1 (fun z q => hn (by omega) z q.symm) (.inr ⟨rfl, rfl⟩)) hl2
theorem two1 (hf : κ1 < κ2 ∨ κ1 = κ2 ∧ (w1.part < w2.part ∨ w1.part = w2.part ∧ k1 < k2)) : faultP (w2.put (w1.put p k1) k2) = some (wordK κ1, n1) := by
  by_cases hp : w1.part = w2.part
  · by_cases hk : k2 ≤ k1
    · rw [swap_le hp hk hk1]
      refine due1 R F h1 (.some h2 (by omega) (fun z => by rcases hf with q | q; (omega); (omega)) ?_ (fun z q => hn z (by omega) q) (.inl ⟨rfl, rfl⟩)) fun z => host_le hp hk (hl1 z)
      rw [← len_same hp]; omega
    · have hk2' : k2 - 1 ≤ w2.len p := by rw [len_eq hp] at hk2; omega
      rw [swap_gt hp (by omega) hk2]
      exact due1 R F h1 (.some h2 (by omega) (fun z => .inr ⟨hp, by omega⟩) hk2' (fun z q => hn z (by omega) q) (.inl ⟨rfl, rfl⟩)) fun z => host_gt hp (by omega) hk2' (hl1 z)
  · rw [swap_ne hp]
    exact due1 R F h1 (.some h2 (by omega) (fun z => by rcases hf with q | q; (omega); (exact .inl (by omega))) (by rw [← len_ne hp]; exact hk2) (fun z q => hn z (by omega) q) (.inl ⟨rfl, rfl⟩)) fun z => host_ne hp (hl1 z)
end
/-! ### the place of an item -/
def posL {α : Type} [DecidableEq α] (x : α) : List α → Nat
  | [] => 0
  | y :: l => if y = x then 0 else posL x l + 1
theorem posL_app {α : Type} [DecidableEq α] {x : α} {B : List α} : ∀ {A : List α}, x ∉ A → posL x (A ++ B) = A.length + posL x B
  | [], _ => by simp
  | y :: A, h => by
    have hy : ¬ y = x := fun z => h (by rw [z]; exact List.mem_cons_self)
    rw [List.cons_append, posL, if_neg hy, posL_app (fun z => h (List.mem_cons_of_mem _ z)), List.length_cons]; omega
theorem posL_hd {α : Type} [DecidableEq α] {x : α} {B : List α} : posL x (x :: B) = 0 := by rw [posL, if_pos rfl]
theorem posL_tl {α : Type} [DecidableEq α] {x y : α} {B : List α} (h : y ≠ x) : posL x (y :: B) = posL x B + 1 := by rw [posL, if_neg h]
theorem posL_get {α : Type} [DecidableEq α] {x : α} : ∀ {l : List α}, x ∈ l → l[posL x l]? = some x
  | [], h => by cases h
  | y :: l, h => by
    by_cases hy : y = x
    · rw [hy, posL_hd]; rfl
    · rw [posL_tl hy, List.getElem?_cons_succ]
      exact posL_get ((List.mem_cons.mp h).resolve_left fun z => hy z.symm)
theorem posL_lt {α : Type} [DecidableEq α] {x z : α} : ∀ {l : List α} {m : Nat}, m < posL x l → l[m]? = some z → z ≠ x
  | [], m, h, e => by simp at e
  | y :: l, m, h, e => by
    by_cases hy : y = x
    · rw [hy, posL_hd] at h; omega
    · rw [posL_tl hy] at h
      cases m with
      | zero => rw [List.getElem?_cons_zero] at e; cases e; exact hy
      | succ m => rw [List.getElem?_cons_succ] at e; exact posL_lt (by omega) e
def Wit.pos (q : Pln) : Wit → Nat
  | .st x => posL x q.st | .jo x => posL x q.jo | .ga x => posL x q.ga | .si x => posL x q.si
def Wit.inP (p : Pln) : Wit → Prop
  | .st x => x ∈ p.st | .jo x => x ∈ p.jo | .ga x => x ∈ p.ga | .si x => x ∈ p.si
def Wit.who : Wit → Str
  | .st x => x.1 | .jo x => x.1.1 | .ga x => x.1 | .si x => x.1
theorem It.who {p : Pln} {a b c e g s : Str} {t κ : Int} {w : Wit} {n nm : Str} {low : Bool} (h : It p a b c e g s t κ w n low nm) : n = w.who := by
  cases h with
  | named h => cases h <;> rfl
  | ended h => cases h <;> rfl
  | wrong h => cases h <;> rfl
theorem pos_ins {α : Type} [DecidableEq α] {l : List α} {k : Nat} {x : α} (hx : x ∉ l) (hk : k ≤ l.length) : posL x (insA l k x) = k := by
  obtain ⟨A, B, rfl, hA⟩ := split2 l hk
  rw [insA_app A B x hA, posL_app (fun z => hx (List.mem_append_left _ z)), posL_hd, hA]; rfl
theorem pos_ins2 {α : Type} [DecidableEq α] {l : List α} {k : Nat} {x y : α} (hx : x ∉ l) (hy : y ∉ l) (hk : k ≤ l.length) {j : Nat} (hj : k ≤ j) (hj2 : j ≤ l.length) : posL y (insA (insA l j x) k y) = k ∧ k ≤ posL x (insA (insA l j x) k y) ∧ (posL x (insA (insA l j x) k y) = k → x = y) := by
  obtain ⟨A, B, rfl, hA⟩ := split2 l hk
  rw [ins_swap hj hj2, insA_app A B y hA]
  rw [List.length_append] at hj2
  obtain ⟨C, E, rfl, hC⟩ := split2 B (k := j - k) (by omega)
  have e3 : A ++ (y :: (C ++ E)) = (A ++ (y :: C)) ++ E := by simp
  rw [e3, insA_app (A ++ (y :: C)) E x (by rw [List.length_append, List.length_cons]; omega), List.append_assoc, List.cons_append]
  have hyA : y ∉ A := fun z => hy (List.mem_append_left _ z)
  have hxA : x ∉ A := fun z => hx (List.mem_append_left _ z)
  rw [posL_app hyA, posL_app hxA, posL_hd, hA]
  refine ⟨rfl, by omega, fun z => ?_⟩
  by_cases hxy : y = x
  · exact hxy.symm
  · rw [posL_tl hxy] at z; omega
end PL

namespace PL
open PySem PySem.Spec PyProof.Rows L2 GA GxR DL TM
section
variable {p : Pln} {a b c e g s : Str} {r1 r2 r3 : Bool} {o : Option Step}
theorem nm_new {n : Str} (hn : n ∉ p.nms) : (∀ x : Str × End, x.1 = n → x ∉ p.ga) ∧ ∀ x : Str × End × Option Step, x.1 = n → x ∉ p.si := by
  unfold Pln.nms at hn
  refine ⟨fun x hx hm => hn ?_, fun x hx hm => hn ?_⟩
  · exact List.mem_append_left _ (List.mem_append_right _ (List.mem_map.mpr ⟨x, hm, hx⟩))
  · exact List.mem_append_right _ (List.mem_map.mpr ⟨x, hm, hx⟩)
theorem It.new (R : Right p a b c e g s r1 r2 r3 o) (F : Far p b e) {t κ : Int} {w : Wit} {n nm : Str} {low : Bool} (h : It p a b c e g s t κ w n low nm) : ¬ w.inP p := by
  cases h with
  | named h =>
    cases h with
    | st hn =>
      intro hm
      have hm : (n, ("crossing" : Str)) ∈ p.st := hm
      have hk := (kind_iff R.chk.stnd).mpr hm
      obtain ⟨k1, k2, k3, k4⟩ := R.kind
      simp only [List.mem_cons, List.not_mem_nil, or_false] at hn
      rcases hn with rfl | rfl | rfl | rfl
      · rw [k1] at hk; exact absurd hk (by decide)
      · rw [k2] at hk; exact absurd hk (by decide)
      · rw [k3] at hk; exact absurd hk (by decide)
      · rw [k4] at hk; exact absurd hk (by decide)
    | ga hn => exact fun hm => F.eg (List.mem_map.mpr ⟨_, hm, rfl⟩)
    | si hn => exact fun hm => F.e0 (List.mem_map.mpr ⟨_, List.mem_map.mpr ⟨_, hm, rfl⟩, rfl⟩)
  | ended h hf hn =>
    cases h with
    | j1 hx => exact fun hm => by have := (R.chk.jex _ hm).1; rw [R.missing hf hx] at this; cases this
    | j2 hx => exact fun hm => by have := (R.chk.jex _ hm).2; rw [R.missing hf hx] at this; cases this
    | ga hx => exact fun hm => (nm_new hn).1 _ rfl hm
    | si hx => exact fun hm => (nm_new hn).2 _ rfl hm
  | wrong h hn =>
    cases h with
    | @jo x r _ hx =>
      intro hm
      have hm : revJ r x ∈ p.jo := hm
      have key : x.1.1 ≠ x.2.1 ∧ x.1 ∈ jends p.jo ∧ x.2 ∈ jends p.jo := by
        have h1 := R.chk.jne _ hm
        have h2 : (revJ r x).1 ∈ jends p.jo := mem_jends.mpr ⟨_, hm, .inl rfl⟩
        have h3 : (revJ r x).2 ∈ jends p.jo := mem_jends.mpr ⟨_, hm, .inr rfl⟩
        cases r
        · exact ⟨h1, h2, h3⟩
        · exact ⟨fun z => h1 z.symm, h3, h2⟩
      simp only [List.mem_cons, List.not_mem_nil, or_false] at hx
      rcases hx with rfl | rfl | rfl | rfl
      · exact key.1 rfl
      · exact key.1 rfl
      · exact F.free key.2.1
      · exact F.free key.2.2
    | ga hx => exact fun hm => (nm_new hn).1 _ rfl hm
    | si hx => exact fun hm => (nm_new hn).2 _ rfl hm
    | o0 hx => exact fun hm => (nm_new hn).2 _ rfl hm
    | o1 hx => exact fun hm => (nm_new hn).2 _ rfl hm
theorem pos_put2 {x y : Wit} {j k : Nat} (hp : x.part = y.part) (hk : k ≤ j) (hj : j ≤ x.len p) (hx : ¬ x.inP p) (hy : ¬ y.inP p) : y.pos (y.put (x.put p j) k) = k ∧ k ≤ x.pos (y.put (x.put p j) k) ∧ (x.pos (y.put (x.put p j) k) = k → x = y) := by
  cases x <;> cases y <;> simp only [Wit.part] at hp <;> first
    | (exfalso; omega)
    | (simp only [Wit.len] at hj
       simp only [Wit.inP] at hx hy
       obtain ⟨q1, q2, q3⟩ := pos_ins2 hx hy (by omega) hk hj
       exact ⟨q1, q2, fun z => by rw [q3 z]⟩)
theorem pos_put1 {x : Wit} {k : Nat} (hk : k ≤ x.len p) (hx : ¬ x.inP p) : x.pos (x.put p k) = k := by
  cases x <;> simp only [Wit.len] at hk <;> simp only [Wit.inP] at hx <;> exact pos_ins hx hk
def kLt (κ2 p2 : Int) (i2 : Nat) (κ1 p1 : Int) (i1 : Nat) : Prop := κ2 < κ1 ∨ κ2 = κ1 ∧ (p2 < p1 ∨ p2 = p1 ∧ i2 < i1)
/-- what is told of two wrong items: the least by kind, part and place -/
theorem told2 {k1 k2 : Nat} {w1 w2 : Wit} {n1 n2 nm1 nm2 : Str} {low1 low2 : Bool} {κ1 κ2 : Int}
  (R : Right p a b c e g s r1 r2 r3 o) (F : Far p b e) (h1 : It p a b c e g s 0 κ1 w1 n1 low1 nm1) (h2 : It p a b c e g s 1 κ2 w2 n2 low2 nm2) (hk1 : k1 ≤ w1.len p) (hk2 : k2 ≤ w2.len (w1.put p k1))
  (hl1 : low1 = true → HostIn (hostP a b c e g s r1 r2 r3 o) p k1 w1) (hl2 : low2 = true → HostIn (hostP a b c e g s r1 r2 r3 o) (w1.put p k1) k2 w2) (hn : 1 ≤ κ1 → 1 ≤ κ2 → nm1 ≠ nm2) {q : Pln} (hq : q = w2.put (w1.put p k1) k2) :
    (kLt κ2 w2.part (w2.pos q) κ1 w1.part (w1.pos q) → faultP q = some (wordK κ2, n2)) ∧ (¬ kLt κ2 w2.part (w2.pos q) κ1 w1.part (w1.pos q) → faultP q = some (wordK κ1, n1)) := by
  have t2 := fun hf => two2 R F h1 h2 hk1 hk2 hl1 hl2 hn hf
  have t1 := fun hf => two1 R F h1 h2 hk1 hk2 hl1 hl2 hn hf
  rw [← hq] at t1 t2
  have i1 := h1.new R F
  have i2 := h2.new R F
  by_cases hp : w1.part = w2.part
  · by_cases hk : k2 ≤ k1
    · obtain ⟨q1, q2, q3⟩ := pos_put2 (p := p) (x := w1) (y := w2) (j := k1) (k := k2) hp hk hk1 i1 i2
      rw [← hq] at q1 q2 q3
      refine ⟨fun z => t2 ?_, fun z => ?_⟩
      · rcases z with z | ⟨z1, z2⟩
        · exact .inl z
        · exact .inr ⟨z1, .inr ⟨hp.symm, hk⟩⟩
      · unfold kLt at z
        by_cases hκ : κ1 < κ2
        · exact t1 (.inl hκ)
        · have hκ2 : κ1 = κ2 := by omega
          have e := q3 (by omega)
          subst e hκ2
          rw [h1.who, ← h2.who]
          exact t2 (.inr ⟨rfl, .inr ⟨rfl, hk⟩⟩)
    · have hk2' : k2 - 1 ≤ w2.len p := by rw [len_eq hp] at hk2; omega
      obtain ⟨q1, q2, q3⟩ := pos_put2 (p := p) (x := w2) (y := w1) (j := k2 - 1) (k := k1) hp.symm (by omega) hk2' i2 i1
      rw [← swap_gt hp (by omega) hk2, ← hq] at q1 q2 q3
      refine ⟨fun z => t2 ?_, fun z => t1 ?_⟩
      · rcases z with z | ⟨z1, z2⟩
        · exact .inl z
        · exfalso; omega
      · unfold kLt at z
        by_cases hκ : κ1 < κ2
        · exact .inl hκ
        · exact .inr ⟨by omega, .inr ⟨hp, by omega⟩⟩
  · refine ⟨fun z => t2 ?_, fun z => t1 ?_⟩
    · rcases z with z | ⟨z1, z2⟩
      · exact .inl z
      · exact .inr ⟨z1, .inl (by omega)⟩
    · unfold kLt at z
      by_cases hκ : κ1 < κ2
      · exact .inl hκ
      · exact .inr ⟨by omega, .inl (by omega)⟩
theorem told1 {k1 : Nat} {w1 : Wit} {n1 nm1 : Str} {low1 : Bool} {κ1 : Int} (R : Right p a b c e g s r1 r2 r3 o) (F : Far p b e) (h1 : It p a b c e g s 0 κ1 w1 n1 low1 nm1)
  (hl1 : low1 = true → HostIn (hostP a b c e g s r1 r2 r3 o) p k1 w1) : faultP (w1.put p k1) = some (wordK κ1, n1) := due1 R F h1 .none hl1
end
end PL

namespace DL
open PySem PySem.Spec PyProof.Rows L2 GA GxR
/-! ### xs.index(y), data -/
def rdIndex : DRM := fun x ys m Q => ∃ (a : Addr) (ds : List D) (y : D) (j : Nat) (z : D), x = .ref a ∧ ys = [y] ∧ m.mu a = some (.lst ds) ∧ (∀ d ∈ ds, Fine d) ∧ Fine y ∧ ds[j]? = some z ∧ PyData.eqv z.py y.py = true ∧ (∀ (i : Nat) (z' : D), i < j → ds[i]? = some z' → PyData.eqv z'.py y.py = false) ∧ Q (.int (j : Int)) m
theorem pys_get : ∀ {ds : List D} {i : Nat}, (D.pys ds)[i]? = (ds[i]?).map D.py
  | [], i => rfl
  | d :: ds, 0 => rfl
  | d :: ds, i + 1 => by
    show (D.pys ds)[i]? = _
    rw [pys_get, List.getElem?_cons_succ]
theorem mtl_index {K : PySem.W.Frag} : MtL K (rIndexD K) rdIndex := fun x ys vx vy H m Q' Q rx rs rh ⟨a, ds, y, j, z, ex, ey, h, hf, hy, hz, he, hno, q⟩ f => by
  subst ex ey
  obtain ⟨v, rfl, rv⟩ := rs.one
  have e1 : PyOf m (.ref a) (.list (D.pys ds)) := .l h (pures_of fun d hd => (hf d hd).pure)
  have r2 := e1.dp rx rh
  cases rx
  refine ⟨a, v, y.py, D.pys ds, j, z.py, rfl, rfl, r2, Rep.dp y v hy.pure rv, shaped_l hf, shaped_d hy, by rw [pys_get, hz]; rfl, he, fun i z' hi hz' => ?_, f _ _ q _ H (Ts.refl _ _) (.int _) rh⟩
  rw [pys_get] at hz'
  cases hd : ds[i]? with
  | none => rw [hd] at hz'; cases hz'
  | some d =>
    rw [hd] at hz'; cases hz'
    exact hno i d hi hd
section
variable {X : Cx} {o e1 : Expr} {to t1 : DTr} {pos apos : Pos}
theorem de_index {k : Nat} (hr : Room k X.A) (ho : DE X o to) (h1 : DE X e1 t1)
    (hbase : attributeBase o "index" X.env (eval o X.env) = eval o X.env := by rfl)
    (hfew : ((backTo pos (starEach [e1] X.env)).all (fun x => !x.1) && (backToKw pos (keywordEach [] X.env)).all (fun x => x.1.isSome) && decide ([e1].length + ([] : List Keyword).length + (if ([] : List Keyword).isEmpty then 0 else 1) < 30)) = true := by rfl)
    (hline : (apos.endLine == pos.line) = true := by rfl) (hs : starEach [e1] X.env = (false, eval e1 X.env) :: starEach [] X.env := by rfl) (hplain : (backTo pos (starEach [] X.env)).any (·.1) = false := by rfl) :
    DE X (.Call (.Attribute o "index" apos) [e1] [] pos) (dMeth rdIndex to (dCons t1 dNil)) := de_meth PySem.F.slot_list_index PySem.F.type_list_index (mt_indexD (by have := hr.un; omega)) mtl_index ho (da_cons h1 da_nil hs) hbase hfew hline hs hplain
end
/-! ### sorted(xs), data -/
theorem each_of_vals : ∀ {bs : List (V × D)} {its : List Value}, Vals (bs.map (·.1)) its → PySem.W.EachIs (fun (v : Value) (b : V × D) => RelV b.1 v) its bs
  | [], _, r => by cases r; exact .nil
  | b :: bs, _, r => by
    cases r with
    | cons h t => exact .cons h (each_of_vals t)
theorem vals_of_each : ∀ {bs : List (V × D)} {its : List Value}, PySem.W.EachIs (fun (v : Value) (b : V × D) => RelV b.1 v) its bs → Vals (bs.map (·.1)) its
  | _, _, .nil => .nil
  | _, _, .cons h t => .cons h (vals_of_each t)
def rSortDD (K : PySem.W.Frag) : List V → Hp → VK → Prop := fun vs H Q => ∃ (a : Addr) (bs : List (V × D)), vs = [V.ref a] ∧ SqL K H a (bs.map (·.1)) ∧ (∀ b ∈ bs, Dp K H b.1 b.2.py) ∧ PySem.W.AllAlike (bs.map fun b => b.2.py) ∧ PySem.W.Sortable (bs.map fun b => b.2.py) ∧ (∀ b ∈ bs, b.2.py.depth ≤ 60) ∧
  ∀ p, H p = none → Q (.ref p) (upd H p (.lst ((bs.mergeSort (PySem.W.dataLe false fun b => b.2.py)).map (·.1))))
theorem cr_sortedDD {X : Cx} {k : Nat} (hr : Room k X.A) : CallR X (.builtin "sorted") (rSortDD X.K) := by
  intro pins s σ H vs us Q I r h
  obtain ⟨a, bs, rfl, hs, hd, hal, hk, hdep, q⟩ := h
  obtain ⟨its, rv, hl, hz⟩ := I.list hs
  obtain ⟨u, rfl, ru⟩ := vals1 r
  obtain rfl : u = Value.ref a := ru
  have e := each_of_vals rv
  have hu := hr.un
  have hz2 : bs.length ≤ sizeLine := by rw [List.length_map] at hz; exact hz
  refine PySem.W.sorted_data (vs := its) (bs := bs) (enc := fun b => b.2.py) (R := fun v b => RelV b.1 v) hl.isList e ?_ hal hk hz2 (fun b hb => ?_) fun out ho eo => ?_
  · exact (PySem.W.each_mem e).mono fun v b ⟨hv, hb⟩ => Dp.reads I _ _ _ (hd b hb) hv
  · have := hdep b hb; omega
  · obtain ⟨n, hn⟩ := sortedAll_at s.heap its out.toArray
    refine ⟨.ref _, upd H _ (.lst _), I.laid (t' := s.toks) (fun b o e => sortedAll_old e) (Nat.le_succ _) ⟨?_, out, n, vals_of_each eo, hn⟩, rfl, q _ (I.hok.fresh (Nat.le_succ _))⟩
    rw [List.length_map, List.length_mergeSort]; exact hz2
def rdSorted : DRA := fun xs m Q => ∃ (a : Addr) (ds : List D), xs = [.ref a] ∧ m.mu a = some (.lst ds) ∧ (∀ d ∈ ds, Fine d) ∧ PySem.W.AllAlike (ds.map D.py) ∧ PySem.W.Sortable (ds.map D.py) ∧ ∀ p, m.mu p = none → Q (.ref p) (m.set p (.lst (ds.mergeSort (PySem.W.dataLe false D.py))))
theorem reps_zip {K : PySem.W.Frag} {H : Hp} : ∀ {ds : List D} {vs : List V}, Reps K H ds vs → (vs.zip ds).map (·.1) = vs ∧ (vs.zip ds).map (·.2) = ds ∧ ∀ b ∈ vs.zip ds, Rep K H b.2 b.1 ∧ b.2 ∈ ds
  | [], _, r => by cases r; exact ⟨rfl, rfl, fun b hb => by cases hb⟩
  | d :: ds, _, r => by
    cases r with
    | cons h t =>
      obtain ⟨h1, h2, h3⟩ := reps_zip t
      refine ⟨by rw [List.zip_cons_cons, List.map_cons, h1], by rw [List.zip_cons_cons, List.map_cons, h2], fun b hb => ?_⟩
      rw [List.zip_cons_cons] at hb
      rcases List.mem_cons.mp hb with rfl | hb
      · exact ⟨h, List.mem_cons_self⟩
      · exact ⟨(h3 b hb).1, List.mem_cons_of_mem _ (h3 b hb).2⟩
theorem reps_pairs {K : PySem.W.Frag} {H : Hp} : ∀ {bs : List (V × D)}, (∀ b ∈ bs, Rep K H b.2 b.1) → Reps K H (bs.map (·.2)) (bs.map (·.1))
  | [], _ => .nil
  | b :: bs, h => .cons (h b List.mem_cons_self) (reps_pairs fun x hx => h x (List.mem_cons_of_mem _ hx))
theorem argl_sorted {K : PySem.W.Frag} : ArgL K (rSortDD K) rdSorted := fun xs vs H m Q' Q r rh ⟨a, ds, e, h, hf, hal, hk, q⟩ f => by
  subst e
  obtain ⟨v, rfl, rv⟩ := r.one
  cases rv
  obtain ⟨us, e2, rr⟩ := rh.obj _ _ h
  obtain ⟨z1, z2, z3⟩ := reps_zip rr
  have em : (us.zip ds).map (fun b => b.2.py) = ds.map D.py := by
    rw [show (fun b : V × D => b.2.py) = D.py ∘ (fun b => b.2) from rfl, ← List.map_map, z2]
  have eS : ((us.zip ds).mergeSort (PySem.W.dataLe false fun b => b.2.py)).map (·.2) = ds.mergeSort (PySem.W.dataLe false D.py) := by
    exact (List.map_mergeSort (r := PySem.W.dataLe false fun b : V × D => b.2.py) (s := PySem.W.dataLe false D.py) (f := fun b : V × D => b.2) (l := us.zip ds) (fun a _ b _ => rfl)).trans (by rw [z2])
  refine ⟨a, us.zip ds, rfl, SqL.of (by rw [z1]; exact e2), fun b hb => Rep.dp _ _ (hf _ (z3 b hb).2).pure (z3 b hb).1, by rw [em]; exact hal, by rw [em]; exact hk, fun b hb => ?_, fun p hp => ?_⟩
  · have := (hf _ (z3 b hb).2).dep
    rw [dep_py]; exact this
  · refine f _ _ (q p (rh.fresh hp)) _ _ (Ts.new hp) (.ref p) (rh.newO hp ⟨_, upd_same, ?_⟩)
    rw [← eS]
    exact reps_pairs fun b hb => Rep.mono (Ts.new hp) _ _ (z3 b (List.mem_mergeSort.mp hb)).1
theorem de_sorted {X : Cx} {e : Expr} {t : DTA} {p pos : Pos} {k : Nat} (hr : Room k X.A) (hg : Gl X "sorted") (hm : X.mg "sorted" = none) (hb : bootBuiltins "sorted" = some (.builtin "sorted")) (ha : DA X [e] t)
    (he : starEach [e] X.env = (false, eval e X.env) :: starEach [] X.env := by rfl) (hpl : (backTo pos (starEach [] X.env)).any (·.1) = false := by rfl) : DE X (.Call (.Name "sorted" p) [e] [] pos) (dArgs rdSorted t) :=
  de_blt (cr_sortedDD hr) argl_sorted hg hm hb ha (by decide) (by decide) he hpl
end DL

namespace PL
open PySem PySem.Spec PyProof.Rows L2 GA GxR DL TM
/-! ### things made of texts, ints and tuples: equal as data exactly if they are one -/
mutual
def plainD : D → Bool
  | .str _ => true | .int _ => true | .tup ds => plainDs ds | _ => false
def plainDs : List D → Bool
  | [] => true | d :: ds => plainD d && plainDs ds
end
mutual
theorem eqv_plain : ∀ {x y : D}, plainD x = true → plainD y = true → (PyData.eqv x.py y.py = true ↔ x = y)
  | .str a, .str b, _, _ => by
    show (a == b) = true ↔ _
    rw [beq_iff_eq]
    exact ⟨fun h => by rw [h], fun h => by injection h⟩
  | .int a, .int b, _, _ => by
    show (a == b) = true ↔ _
    rw [beq_iff_eq]
    exact ⟨fun h => by rw [h], fun h => by injection h⟩
  | .tup a, .tup b, h1, h2 => by
    show PyData.eqvAll (D.pys a) (D.pys b) = true ↔ _
    rw [eqv_plains (x := a) (y := b) h1 h2]
    exact ⟨fun h => by rw [h], fun h => by injection h⟩
  | .str a, .int b, _, _ => ⟨fun h => absurd (show false = true from h) Bool.false_ne_true, fun h => (by cases h)⟩
  | .str a, .tup b, _, _ => ⟨fun h => absurd (show false = true from h) Bool.false_ne_true, fun h => (by cases h)⟩
  | .int a, .str b, _, _ => ⟨fun h => absurd (show false = true from h) Bool.false_ne_true, fun h => (by cases h)⟩
  | .int a, .tup b, _, _ => ⟨fun h => absurd (show false = true from h) Bool.false_ne_true, fun h => (by cases h)⟩
  | .tup a, .str b, _, _ => ⟨fun h => absurd (show false = true from h) Bool.false_ne_true, fun h => (by cases h)⟩
  | .tup a, .int b, _, _ => ⟨fun h => absurd (show false = true from h) Bool.false_ne_true, fun h => (by cases h)⟩
  | .non, _, h, _ => by cases h
  | .bl _, _, h, _ => by cases h
  | .ref _, _, h, _ => by cases h
  | .ktup _, _, h, _ => by cases h
  | _, .non, _, h => by cases h
  | _, .bl _, _, h => by cases h
  | _, .ref _, _, h => by cases h
  | _, .ktup _, _, h => by cases h
theorem eqv_plains : ∀ {x y : List D}, plainDs x = true → plainDs y = true → (PyData.eqvAll (D.pys x) (D.pys y) = true ↔ x = y)
  | [], [], _, _ => ⟨fun _ => rfl, fun _ => rfl⟩
  | [], b :: bs, _, _ => ⟨fun h => absurd (show false = true from h) Bool.false_ne_true, fun h => (by cases h)⟩
  | a :: as, [], _, _ => ⟨fun h => absurd (show false = true from h) Bool.false_ne_true, fun h => (by cases h)⟩
  | a :: as, b :: bs, h1, h2 => by
    have h1 : (plainD a && plainDs as) = true := h1
    have h2 : (plainD b && plainDs bs) = true := h2
    rw [Bool.and_eq_true] at h1 h2
    show (PyData.eqv a.py b.py && PyData.eqvAll (D.pys as) (D.pys bs)) = true ↔ _
    rw [Bool.and_eq_true, eqv_plain h1.1 h2.1, eqv_plains h1.2 h2.2]
    exact ⟨fun ⟨e1, e2⟩ => by rw [e1, e2], fun h => by injection h with e1 e2; exact ⟨e1, e2⟩⟩
end
theorem plain_st (x : Str × Str) : plainD (strD x) = true := rfl
theorem plain_jo (x : End × End) : plainD (joD x) = true := rfl
theorem plain_ga (x : Str × End) : plainD (gaD x) = true := rfl
theorem plain_si (x : Str × End × Option Step) : plainD (siD x) = true := by
  obtain ⟨n, e, o⟩ := x
  cases o <;> rfl
theorem eqv_no {x y : D} (hx : plainD x = true) (hy : plainD y = true) (h : x ≠ y) : PyData.eqv x.py y.py = false := by
  cases z : PyData.eqv x.py y.py with
  | false => rfl
  | true => exact absurd ((eqv_plain hx hy).mp z) h
/-! ### the order of what is sorted -/
def keyD (k pt : Int) (i : Nat) (n : Str) : D := .tup [.int k, .int pt, .int (i : Int), .str n]
theorem alikeI (a b : Int) : PySem.W.alike (.int a) (.int b) = true := rfl
theorem alikeS (a b : Str) : PySem.W.alike (.str a) (.str b) = true := rfl
theorem key_alike {k pt k' pt' : Int} {i i' : Nat} {n n' : Str} : PySem.W.alike (keyD k pt i n).py (keyD k' pt' i' n').py = true := rfl
theorem key_lt {k pt k' pt' : Int} {i i' : Nat} {n n' : Str} : PySem.W.dataLt (keyD k pt i n).py (keyD k' pt' i' n').py = true ↔ k < k' ∨ k = k' ∧ (pt < pt' ∨ pt = pt' ∧ ((i : Int) < i' ∨ (i : Int) = i' ∧ n.cps.toList < n'.cps.toList)) := by
  show PySem.W.dataLt (.tuple [.int k, .int pt, .int (i : Int), .str n]) (.tuple [.int k', .int pt', .int (i' : Int), .str n']) = true ↔ _
  have step : ∀ (a b : Int) (xs ys : List PyData), PyProof.Rows.lexLt PyProof.Rows.itemOrd (PySem.W.keyToksAll (.int a :: xs)) (PySem.W.keyToksAll (.int b :: ys)) = true ↔ a < b ∨ a = b ∧ PyProof.Rows.lexLt PyProof.Rows.itemOrd (PySem.W.keyToksAll xs) (PySem.W.keyToksAll ys) = true := fun a b xs ys => by
    rw [PySem.W.dataLt_cons (alikeI a b), PySem.W.dataLt_int]
    have e : PyData.eqv (.int a) (.int b) = (a == b) := rfl
    rw [e]
    by_cases h : a = b
    · rw [if_pos (by rw [h]; exact beq_self_eq_true b)]
      exact ⟨fun z => .inr ⟨h, z⟩, fun z => z.elim (fun q => by omega) fun q => q.2⟩
    · rw [if_neg (by rw [beq_iff_eq]; exact h), decide_eq_true_eq]
      exact ⟨fun z => .inl z, fun z => z.elim id fun q => absurd q.1 h⟩
  rw [PySem.W.dataLt_tuple, step, step, step, PySem.W.dataLt_cons (alikeS n n'), PySem.W.dataLt_str]
  have e : PyData.eqv (.str n) (.str n') = (n == n') := rfl
  rw [e]
  by_cases h : n = n'
  · rw [if_pos (by rw [h]; exact beq_self_eq_true n')]
    subst h
    have h0 : ¬ PyProof.Rows.lexLt PyProof.Rows.itemOrd (PySem.W.keyToksAll []) (PySem.W.keyToksAll []) = true := by
      rw [PyProof.Rows.lex_irrefl]; exact Bool.false_ne_true
    have h1 : ¬ n.cps.toList < n.cps.toList := List.lt_irrefl _
    constructor
    · rintro (z | ⟨z, y | ⟨y, x | ⟨x, w⟩⟩⟩)
      · exact .inl z
      · exact .inr ⟨z, .inl y⟩
      · exact .inr ⟨z, .inr ⟨y, .inl x⟩⟩
      · exact absurd w h0
    · rintro (z | ⟨z, y | ⟨y, x | ⟨x, w⟩⟩⟩)
      · exact .inl z
      · exact .inr ⟨z, .inl y⟩
      · exact .inr ⟨z, .inr ⟨y, .inl x⟩⟩
      · exact absurd w h1
  · rw [if_neg (by rw [beq_iff_eq]; exact h), decide_eq_true_eq]
theorem sort2 {x y : D} : [x, y].mergeSort (PySem.W.dataLe false D.py) = if PySem.W.dataLt y.py x.py = true then [y, x] else [x, y] := by
  have e : PySem.W.dataLe false D.py x y = !PySem.W.dataLt y.py x.py := by rw [PySem.W.dataLe_eq]; rfl
  cases h : PySem.W.dataLt y.py x.py with
  | true => rw [if_pos rfl]; rw [h] at e; simp [List.mergeSort, List.merge, e]
  | false => rw [if_neg Bool.false_ne_true]; rw [h] at e; simp [List.mergeSort, List.merge, e]
theorem sort1 {x : D} : [x].mergeSort (PySem.W.dataLe false D.py) = [x] := by simp [List.mergeSort]
end PL

namespace PL
open PySem PySem.Spec PyProof.Rows L2 GA GxR DL TM
/-! ### the host among the items of a plan without fault -/
theorem mem_of_nodup_len {α : Type} [DecidableEq α] : ∀ {l m : List α}, l.Nodup → (∀ x ∈ l, x ∈ m) → l.length ≤ m.length
  | [], m, _, _ => Nat.zero_le _
  | x :: l, m, hn, h => by
    obtain ⟨h1, h2⟩ := List.nodup_cons.mp hn
    have hx := h x List.mem_cons_self
    have := mem_of_nodup_len (m := m.erase x) h2 fun y hy => (List.mem_erase_of_ne (fun z : y = x => h1 (by rw [← z]; exact hy))).mpr (h y (List.mem_cons_of_mem _ hy))
    rw [List.length_erase_of_mem hx] at this
    have hp : 0 < m.length := List.length_pos_of_mem hx
    rw [List.length_cons]; omega
theorem jends_len (jo : List (End × End)) : (jends jo).length = 2 * jo.length := by
  induction jo with
  | nil => rfl
  | cons j l ih => rw [jends_cons, List.length_cons, List.length_cons, ih, List.length_cons]; omega
/-- a plan with at most five stretches has at most ten joints -/
theorem jo_le {q : Pln} (hq : q.Ok) (hc : Chk q) (h : q.st.length ≤ 5) : q.jo.length ≤ 10 := by
  have h1 : (jends q.jo).length ≤ (stEnds q.st).length := mem_of_nodup_len hc.jnd fun e he => by
    obtain ⟨j, hj, z⟩ := mem_jends.mp he
    have hex : endEx q.st e = true := by rcases z with rfl | rfl; exact (hc.jex j hj).1; exact (hc.jex j hj).2
    have hok : endOk e := by rcases z with rfl | rfl; exact (hq.jo j hj).1; exact (hq.jo j hj).2
    obtain ⟨k, hk⟩ := endEx_kind hex
    refine mem_stEnds.mpr ⟨_, kindAt_ok hk, rfl, hok.2.1, ?_⟩
    unfold endEx at hex
    rw [hk] at hex
    exact of_decide_eq_true hex
  have h2 := stEnds_len (kvs := q.st) fun s hs => (hq.st s hs).2
  rw [jends_len] at h1
  omega
section
variable {p q : Pln} {a b c e g s : Str} {r1 r2 r3 : Bool} {o : Option Step}
theorem mixed (H : Host a b c e g s r1 r2 r3 o) (hq : Chk q) (hd : ∀ n ∈ [a, b, c, e, g, s], n ∉ q.nms) (h1 : p.st.Perm ((hostP a b c e g s r1 r2 r3 o).st ++ q.st)) (h2 : p.jo.Perm ((hostP a b c e g s r1 r2 r3 o).jo ++ q.jo)) (h3 : p.ga.Perm ((hostP a b c e g s r1 r2 r3 o).ga ++ q.ga)) (h4 : p.si.Perm ((hostP a b c e g s r1 r2 r3 o).si ++ q.si)) : Right p a b c e g s r1 r2 r3 o ∧ Far p b e := by
  obtain ⟨⟨n1, n2, n3, n4, n5⟩, ⟨n6, n7, n8, n9⟩, ⟨n10, n11, n12⟩, ⟨n13, n14⟩, n15⟩ := H.ne
  have stn : ∀ {x : End}, endEx q.st x = true → x.1 ∈ q.nms := fun hx => by
    unfold Pln.nms; exact List.mem_append_left _ (List.mem_append_left _ (endEx_in hx))
  have jn : ∀ {x : End}, x ∈ jends q.jo → x.1 ∈ q.nms := fun hx => by
    obtain ⟨j, hj, z⟩ := mem_jends.mp hx
    rcases z with rfl | rfl
    · exact stn (hq.jex j hj).1
    · exact stn (hq.jex j hj).2
  have gn : ∀ x ∈ q.gs, x.2.1 ∈ q.nms := fun x hx => stn (hq.gex x hx)
  have eb : b ∉ q.nms := hd b (by simp)
  have ee : e ∉ q.nms := hd e (by simp)
  have far2 : ∀ {x : End}, x.1 = b ∨ x.1 = e → x ≠ (a, 1) → x ∉ p.gs2.map (·.2) := fun {x} hx ha hm => by
    obtain ⟨z, hz, rfl⟩ := List.mem_map.mp hm
    obtain ⟨sg, hs, rfl⟩ := List.mem_map.mp hz
    rcases List.mem_append.mp (h4.mem_iff.mp hs) with hs | hs
    · have hs : sg = (s, (a, 1), o) := by simpa [hostP] using hs
      rw [hs] at ha; exact ha rfl
    · have := gn _ (mem_gs.mpr (.inr ⟨sg, hs, rfl⟩))
      rcases hx with hx | hx
      · rw [hx] at this; exact eb this
      · rw [hx] at this; exact ee this
  refine ⟨⟨(H.chk.app hq hd).perm h1 h2 h3 h4, H, fun x hx => h1.mem_iff.mpr (List.mem_append_left _ hx), fun x hx => h2.mem_iff.mpr (List.mem_append_left _ hx), fun x hx => h3.mem_iff.mpr (List.mem_append_left _ hx), fun x hx => h4.mem_iff.mpr (List.mem_append_left _ hx)⟩, ⟨fun hm => ?_, far2 (.inl rfl) (fun z => n1 (congrArg Prod.fst z).symm), far2 (.inl rfl) (fun z => n1 (congrArg Prod.fst z).symm), far2 (.inr rfl) (fun z => n3 (congrArg Prod.fst z).symm), fun hm => ?_⟩⟩
  · rw [(jends_perm h2).mem_iff, jends_app, List.mem_append] at hm
    rcases hm with hm | hm
    · rcases Host.mem.mp hm with z | z | z | z | z | z
      · exact n3 (congrArg Prod.fst z).symm
      · exact (snd_ne (by decide) z).elim
      · exact n7 (congrArg Prod.fst z).symm
      · exact (snd_ne (by decide) z).elim
      · exact n10 (congrArg Prod.fst z).symm
      · exact (snd_ne (by decide) z).elim
    · exact ee (jn hm)
  · obtain ⟨z, hz, ez⟩ := List.mem_map.mp hm
    rcases List.mem_append.mp (h3.mem_iff.mp hz) with hz | hz
    · have hz : z = (g, (a, 0)) := by simpa [hostP] using hz
      rw [hz] at ez
      exact (snd_ne (by decide) ez).elim
    · have := gn z (mem_gs.mpr (.inl hz))
      rw [ez] at this; exact ee this
end
end PL

namespace DL
open PySem PySem.Spec PyProof.Rows L2 GA GxR
/-! ### for i, x in enumerate(xs), xs a list -/
def iEnL (te : DTr) : DTI := fun δ m R => te δ m fun x m1 => ∃ a ds, x = .ref a ∧ m1.mu a = some (.lst ds) ∧ R (enumD 0 ds) (fun m => m.mu a = some (.lst ds)) m1
theorem dpi_enumL {X : Cx} {e : Expr} {te : DTr} {p pos tpos : Pos} {elts : List Expr} {kk : Nat} (hg : Gl X "enumerate") (hm : X.mg "enumerate" = none) (he : DE X e te) (hs : starEach [e] X.env = [(false, eval e X.env)] := by rfl) :
    DPI X (.Tuple elts kk tpos) (.Call (.Name "enumerate" p) [e] [] pos) (iEnL te) := (pi_enum hg hm (pa_cons he pa_nil (by rw [hs]; rfl)) hs).imp fun σ H R ⟨δ, m, Q', rs, rh, q, f⟩ =>
  ⟨δ, m, _, rs, rh, q, fun x m1 ⟨a, ds, ex, h, q1⟩ v H1 t1 r1 rh1 => by
    subst ex; cases r1
    obtain ⟨xs, e1, _⟩ := rh1.obj _ _ h
    refine ⟨a, xs, rfl, SqL.of e1, f _ _ m1 q1 _ H1 t1 rh1 ⟨fun i H m t r o hi => ?_, fun i H m v H' t r o hi y => ?_, fun i H m t r o hi => ?_⟩⟩
    · rw [enumD_len] at hi
      obtain ⟨ys, e, rr⟩ := r.obj _ _ o
      exact ⟨ys, ys[i]'(by rw [← rr.length]; exact hi), SqL.of e, by simp⟩
    · obtain ⟨T, x, rfl, hT, rfl, hy⟩ := y
      obtain ⟨ys, e, rr⟩ := r.obj _ _ o
      have hx := hy ys (SqL.of e)
      obtain ⟨d, hd, rd⟩ := rr.getV hx
      refine ⟨Ts.new hT, r.new hT, .tup [.int (i : Int), d], by have := enumD_get (n := 0) hd; rw [Nat.zero_add] at this; exact this, .tup upd_same (.cons (.int _) (.cons (Rep.mono (Ts.new hT) _ _ rd) .nil))⟩
    · rw [enumD_len] at hi
      obtain ⟨ys, e, rr⟩ := r.obj _ _ o
      exact ⟨ys, SqL.of e, by rw [← rr.length]; exact hi⟩⟩
end DL

namespace PL
open PySem PySem.Spec PyProof.Rows L2 GA GxR DL TM
/-! ### parts of plans, as lists of things -/
def Wit.pD (P : Pln) : Wit → List D
  | .st _ => P.st.map strD | .jo _ => P.jo.map joD | .ga _ => P.ga.map gaD | .si _ => P.si.map siD
theorem pD_put (w : Wit) (P : Pln) (k : Nat) : w.pD (w.put P k) = (w.pD P).take k ++ [w.d] ++ (w.pD P).drop k := by
  cases w <;> simp [Wit.pD, Wit.put, Wit.d, insA, List.map_take, List.map_drop]
theorem pD_len (w : Wit) (P : Pln) : (w.pD P).length = w.len P := by cases w <;> simp [Wit.pD, Wit.len]
theorem hostIn_D {w : Wit} {H P : Pln} {k : Nat} (h : ∀ z ∈ w.pD H, z ∈ (w.pD P).take k) : HostIn H P k w := by
  cases w <;> intro z hz
  · have := h (strD z) (List.mem_map.mpr ⟨z, hz, rfl⟩)
    unfold Wit.pD at this
    rw [← List.map_take] at this
    obtain ⟨y, hy, e⟩ := List.mem_map.mp this
    rw [← strD_inj e]; exact hy
  · have := h (joD z) (List.mem_map.mpr ⟨z, hz, rfl⟩)
    unfold Wit.pD at this
    rw [← List.map_take] at this
    obtain ⟨y, hy, e⟩ := List.mem_map.mp this
    rw [← joD_inj e]; exact hy
  · have := h (gaD z) (List.mem_map.mpr ⟨z, hz, rfl⟩)
    unfold Wit.pD at this
    rw [← List.map_take] at this
    obtain ⟨y, hy, e⟩ := List.mem_map.mp this
    rw [← gaD_inj e]; exact hy
  · have := h (siD z) (List.mem_map.mpr ⟨z, hz, rfl⟩)
    unfold Wit.pD at this
    rw [← List.map_take] at this
    obtain ⟨y, hy, e⟩ := List.mem_map.mp this
    rw [← siD_inj e]; exact hy
theorem pD_plain {w : Wit} {P : Pln} : ∀ z ∈ w.pD P, plainD z = true := fun z hz => by
  cases w <;> obtain ⟨y, _, rfl⟩ := List.mem_map.mp hz
  · exact plain_st y
  · exact plain_jo y
  · exact plain_ga y
  · exact plain_si y
theorem Wit.plain (w : Wit) : plainD w.d = true := by
  cases w
  · exact plain_st _
  · exact plain_jo _
  · exact plain_ga _
  · exact plain_si _
def Wit.Ok : Wit → Prop
  | .st x => strOk' x | .jo x => joOk x | .ga x => gaOk x | .si x => siOk x
theorem dep_end (e : End) : (endD e).dep ≤ 2 := Nat.le_succ 1
theorem dep_step (e : Step) : (stepD e).dep ≤ 2 := Nat.le_succ 1
theorem kind_sok {k : Str} (h : kindS k = true) : PyData.strOk k = true := by
  rcases kind3 h with rfl | rfl | rfl <;> decide +kernel
theorem fine2 {x y : D} (hx : Fine x) (hy : Fine y) (dx : x.dep ≤ 50) (dy : y.dep ≤ 50) : Fine (.tup [x, y]) := Fine.tup (fun d hd => by
  simp only [List.mem_cons, List.not_mem_nil, or_false] at hd
  rcases hd with rfl | rfl
  · exact hx
  · exact hy) fun d hd => by
  simp only [List.mem_cons, List.not_mem_nil, or_false] at hd
  rcases hd with rfl | rfl
  · exact dx
  · exact dy
theorem fine3 {x y z : D} (hx : Fine x) (hy : Fine y) (hz : Fine z) (dx : x.dep ≤ 50) (dy : y.dep ≤ 50) (dz : z.dep ≤ 50) : Fine (.tup [x, y, z]) := Fine.tup (fun d hd => by
  simp only [List.mem_cons, List.not_mem_nil, or_false] at hd
  rcases hd with rfl | rfl | rfl
  · exact hx
  · exact hy
  · exact hz) fun d hd => by
  simp only [List.mem_cons, List.not_mem_nil, or_false] at hd
  rcases hd with rfl | rfl | rfl
  · exact dx
  · exact dy
  · exact dz
theorem fine4 {x y z u : D} (hx : Fine x) (hy : Fine y) (hz : Fine z) (hu : Fine u) (dx : x.dep ≤ 50) (dy : y.dep ≤ 50) (dz : z.dep ≤ 50) (du : u.dep ≤ 50) : Fine (.tup [x, y, z, u]) := Fine.tup (fun d hd => by
  simp only [List.mem_cons, List.not_mem_nil, or_false] at hd
  rcases hd with rfl | rfl | rfl | rfl
  · exact hx
  · exact hy
  · exact hz
  · exact hu) fun d hd => by
  simp only [List.mem_cons, List.not_mem_nil, or_false] at hd
  rcases hd with rfl | rfl | rfl | rfl
  · exact dx
  · exact dy
  · exact dz
  · exact du
theorem dep_ov (o : Option Step) : (ovD o).dep ≤ 3 := by
  cases o with
  | none => show D.deps [] + 1 ≤ 3; decide
  | some t => show D.deps [stepD t] + 1 ≤ 3; show max (stepD t).dep (D.deps []) + 1 ≤ 3; have := dep_step t; have : D.deps [] = 0 := rfl; omega
theorem Fine.ov {o : Option Step} (h : ∀ t, o = some t → stepOk t) : Fine (ovD o) := by
  cases o with
  | none => exact Fine.tup (ds := []) (fun d hd => by cases hd) fun d hd => by cases hd
  | some t => exact Fine.tup (ds := [stepD t]) (fun d hd => by rw [List.mem_singleton.mp hd]; exact step_fine (h t rfl)) fun d hd => by rw [List.mem_singleton.mp hd]; have := dep_step t; omega
theorem Wit.fine {w : Wit} (h : w.Ok) : Fine w.d ∧ w.d.dep ≤ 10 := by
  cases w with
  | st x => exact ⟨fine2 (Fine.ofStr h.1) (Fine.str (kind_sok h.2)) (Nat.zero_le _) (Nat.zero_le _), Nat.le_add_left 1 9⟩
  | jo x =>
    have d1 := dep_end x.1; have d2 := dep_end x.2
    refine ⟨fine2 (end_fine h.1) (end_fine h.2) (by omega) (by omega), ?_⟩
    show max (endD x.1).dep (max (endD x.2).dep (D.deps [])) + 1 ≤ 10
    have : D.deps [] = 0 := rfl
    omega
  | ga x =>
    have d2 := dep_end x.2
    refine ⟨fine2 (Fine.ofStr h.1) (end_fine h.2) (Nat.zero_le _) (by omega), ?_⟩
    show max (D.str x.1).dep (max (endD x.2).dep (D.deps [])) + 1 ≤ 10
    have : D.deps [] = 0 := rfl
    have : (D.str x.1).dep = 0 := rfl
    omega
  | si x =>
    have d2 := dep_end x.2.1; have d3 := dep_ov x.2.2
    refine ⟨fine3 (Fine.ofStr h.1) (end_fine h.2.1) (Fine.ov h.2.2) (Nat.zero_le _) (by omega) (by omega), ?_⟩
    show max (D.str x.1).dep (max (endD x.2.1).dep (max (ovD x.2.2).dep (D.deps []))) + 1 ≤ 10
    have : D.deps [] = 0 := rfl
    have : (D.str x.1).dep = 0 := rfl
    omega
theorem pD_fine {w : Wit} {P : Pln} (hP : P.Ok) : ∀ z ∈ w.pD P, Fine z := fun z hz => by
  cases w <;> obtain ⟨y, hy, rfl⟩ := List.mem_map.mp hz
  · exact (Wit.fine (w := .st y) (hP.st y hy)).1
  · exact (Wit.fine (w := .jo y) (hP.jo y hy)).1
  · exact (Wit.fine (w := .ga y) (hP.ga y hy)).1
  · exact (Wit.fine (w := .si y) (hP.si y hy)).1
/-- a plan, as a list of lists -/
def PAt (F : Addr → Prop) (m : M) (h : Addr) (P : Pln) : Prop := ∃ h0 h1 h2 h3 : Addr, [h, h0, h1, h2, h3].Nodup ∧ (∀ x ∈ [h, h0, h1, h2, h3], F x) ∧ m.mu h = some (.lst [.ref h0, .ref h1, .ref h2, .ref h3]) ∧ m.mu h0 = some (.lst (P.st.map strD)) ∧ m.mu h1 = some (.lst (P.jo.map joD)) ∧ m.mu h2 = some (.lst (P.ga.map gaD)) ∧ m.mu h3 = some (.lst (P.si.map siD))
theorem PAt.host {F : Addr → Prop} {m : M} {h : Addr} {P : Pln} (H : PAt F m h P) : HostAt m h P := by
  obtain ⟨h0, h1, h2, h3, nd, _, r⟩ := H
  exact ⟨h0, h1, h2, h3, nd, r⟩
theorem HostAt.p {m : M} {h : Addr} {P : Pln} (H : HostAt m h P) : PAt (fun x => ∃ o, m.mu x = some o) m h P := by
  obtain ⟨h0, h1, h2, h3, nd, e, e0, e1, e2, e3⟩ := H.ex
  refine ⟨h0, h1, h2, h3, nd, fun x hx => ?_, e, e0, e1, e2, e3⟩
  simp only [List.mem_cons, List.not_mem_nil, or_false] at hx
  rcases hx with rfl | rfl | rfl | rfl | rfl
  · exact ⟨_, e⟩
  · exact ⟨_, e0⟩
  · exact ⟨_, e1⟩
  · exact ⟨_, e2⟩
  · exact ⟨_, e3⟩
theorem PAt.keep {F G : Addr → Prop} {m m' : M} {h : Addr} {P : Pln} (H : PAt F m h P) (k : ∀ x o, F x → m.mu x = some o → m'.mu x = some o) (g : ∀ x, F x → G x) : PAt G m' h P := by
  obtain ⟨h0, h1, h2, h3, nd, f, e, e0, e1, e2, e3⟩ := H
  exact ⟨h0, h1, h2, h3, nd, fun x hx => g x (f x hx), k _ _ (f h (by simp)) e, k _ _ (f h0 (by simp)) e0, k _ _ (f h1 (by simp)) e1, k _ _ (f h2 (by simp)) e2, k _ _ (f h3 (by simp)) e3⟩
theorem PAt.at {F : Addr → Prop} {m : M} {h : Addr} {P : Pln} (H : PAt F m h P) (w : Wit) : ∃ a, F a ∧ (∀ (m' : M) (Q : DK), m'.mu h = m.mu h → Q (.ref a) m' → rdIx (.ref h) (.int w.part) m' Q) ∧ m.mu a = some (.lst (w.pD P)) ∧ F h ∧ (∃ ds, m.mu h = some (.lst ds)) ∧ ∀ k, PAt F (m.set a (.lst (w.pD (w.put P k)))) h (w.put P k) := by
  obtain ⟨h0, h1, h2, h3, nd, f, e, e0, e1, e2, e3⟩ := H
  have nd' := nd
  simp only [List.nodup_cons, List.mem_cons, List.not_mem_nil, or_false, not_or, List.nodup_nil, and_true, not_false_eq_true] at nd
  obtain ⟨⟨n1, n2, n3, n4⟩, ⟨n5, n6, n7⟩, ⟨n8, n9⟩, n10⟩ := nd
  cases w with
  | st x => exact ⟨h0, f _ (by simp), fun m' Q e' q => ixL (k := 0) (e'.trans e) rfl q, e0, f _ (by simp), ⟨_, e⟩, fun k => ⟨h0, h1, h2, h3, nd', f, (M.set_ne n1).trans e, M.set_same, (M.set_ne (Ne.symm n5)).trans e1, (M.set_ne (Ne.symm n6)).trans e2, (M.set_ne (Ne.symm n7)).trans e3⟩⟩
  | jo x => exact ⟨h1, f _ (by simp), fun m' Q e' q => ixL (k := 1) (e'.trans e) rfl q, e1, f _ (by simp), ⟨_, e⟩, fun k => ⟨h0, h1, h2, h3, nd', f, (M.set_ne n2).trans e, (M.set_ne n5).trans e0, M.set_same, (M.set_ne (Ne.symm n8)).trans e2, (M.set_ne (Ne.symm n9)).trans e3⟩⟩
  | ga x => exact ⟨h2, f _ (by simp), fun m' Q e' q => ixL (k := 2) (e'.trans e) rfl q, e2, f _ (by simp), ⟨_, e⟩, fun k => ⟨h0, h1, h2, h3, nd', f, (M.set_ne n3).trans e, (M.set_ne n6).trans e0, (M.set_ne n8).trans e1, M.set_same, (M.set_ne (Ne.symm n10)).trans e3⟩⟩
  | si x => exact ⟨h3, f _ (by simp), fun m' Q e' q => ixL (k := 3) (e'.trans e) rfl q, e3, f _ (by simp), ⟨_, e⟩, fun k => ⟨h0, h1, h2, h3, nd', f, (M.set_ne n4).trans e, (M.set_ne n7).trans e0, (M.set_ne n9).trans e1, (M.set_ne n10).trans e2, M.set_same⟩⟩
/-! ### a list of new lists -/
structure Built (m : M) (Rel : Nat → List D → Prop) (i : Nat) (m' : M) (p : Addr) : Prop where
  ex : ∃ (as : List Addr) (zss : List (List D)), as.length = i ∧ zss.length = i ∧ m'.mu p = some (.lst (as.map D.ref)) ∧ (p :: as).Nodup ∧ (∀ a ∈ p :: as, m.mu a = none) ∧ ∀ j a zs, as[j]? = some a → zss[j]? = some zs → m'.mu a = some (.lst zs) ∧ Rel j zs
theorem dLC_built {ws : DTI} {g : Tg} {tt : DTT} {te : DTr} {ow : List Nat} {δ : Sl} {m : M} {Q : DK} {xs : List D} (Rel : Nat → List D → Prop) (hw : WkS m xs ws δ) (hn : xs.length ≤ 1000)
    (he : ∀ i d, xs[i]? = some d → ∀ m', Ext m m' → ∀ (R : DK) (Rn : M → Prop), (∀ a m4 zs, Ext m' m4 → m'.mu a = none → m4.mu a = some (.lst zs) → Rel i zs → R (.ref a) m4) → gD g d (wipeD δ ow) fun δ2 => tt δ2 m' fun b m3 => if b = true then te δ2 m3 R else Rn m3)
    (hq : ∀ p m', Ext m m' → Built m Rel xs.length m' p → Q (.ref p) m') : dLC ws g tt te ow δ m Q := by
  refine hw _ fun ok m1 hE hok p hp1 => ?_
  refine ⟨fun i m' => Ext m1 m' ∧ i ≤ xs.length ∧ Built m Rel i m' p, ⟨Ext.new hp1, Nat.zero_le _, ⟨[], [], rfl, rfl, M.set_same, by simp, fun a ha => by rw [List.mem_singleton.mp ha]; exact hE.fr hp1, fun j a zs h => by simp at h⟩⟩, fun i m' h => hok m' h.1, ?_, ?_⟩
  · rintro i d m' hd ⟨h1, hi, ⟨as, zss, la, lz, hp, nd, fr, hc⟩⟩
    have hlt : i < xs.length := (List.getElem?_eq_some_iff.mp hd).1
    refine he i d hd m' (hE.trans h1) _ _ fun a m4 zs hE4 ha hz hr => ?_
    · have hold : ∀ x ∈ p :: as, ∃ o, m'.mu x = some o := fun x hx => by
        rcases List.mem_cons.mp hx with rfl | hx
        · exact ⟨_, hp⟩
        · obtain ⟨j, hj, rfl⟩ := List.getElem_of_mem hx
          exact ⟨_, (hc j _ (zss[j]'(by omega)) (List.getElem?_eq_getElem hj) (List.getElem?_eq_getElem (by omega))).1⟩
      have hna : a ∉ p :: as := fun hx => by
        obtain ⟨o, e⟩ := hold a hx
        rw [ha] at e; cases e
      refine ⟨as.map D.ref, hE4.old _ _ hp, slt (by rw [List.length_map]; omega), (h1.trans hE4).set hp1, hlt, ⟨as ++ [a], zss ++ [zs], by simp [la], by simp [lz], by rw [M.set_same, List.map_append]; rfl, ?_, ?_, ?_⟩⟩
      · rw [← List.cons_append]
        exact List.nodup_append.mpr ⟨nd, by simp, fun x hx y hy z => hna (by rw [← List.mem_singleton.mp hy, ← z]; exact hx)⟩
      · intro x hx
        rw [← List.cons_append] at hx
        rcases List.mem_append.mp hx with hx | hx
        · exact fr x hx
        · rw [List.mem_singleton.mp hx]; exact (hE.trans h1).fr ha
      · intro j x zs' hx hz'
        by_cases hj : j < i
        · rw [List.getElem?_append_left (by omega)] at hx hz'
          obtain ⟨e1, e2⟩ := hc j x zs' hx hz'
          refine ⟨?_, e2⟩
          rw [M.set_ne (fun z => by
            subst z
            exact (List.nodup_cons.mp nd).1 (List.mem_of_getElem? hx))]
          exact hE4.old _ _ e1
        · rw [List.getElem?_append_right (by omega)] at hx hz'
          have hj0 : j = i := by
            have := (List.getElem?_eq_some_iff.mp hx).1
            simp only [List.length_cons, List.length_nil] at this
            omega
          subst hj0
          rw [la, Nat.sub_self] at hx
          rw [lz, Nat.sub_self] at hz'
          simp only [List.getElem?_cons_zero, Option.some.injEq] at hx hz'
          subst hx hz'
          refine ⟨?_, hr⟩
          rw [M.set_ne (fun z => hna (by rw [z]; exact List.mem_cons_self))]
          exact hz
  · rintro m' ⟨h1, _, h2⟩
    exact hq p m' (hE.trans h1) h2
end PL

namespace PL
open PySem PySem.Spec PyProof.Rows L2 GA GxR DL TM
/-! ### what is told of a plan with wrong items -/
def wrD (x : Int × Wit × Str × Bool) : D := .tup [.int x.1, witD x.2.1 x.2.2.1 x.2.2.2]
def keyOf (q : Pln) (x : Int × Wit × Str × Bool) : D := keyD x.1 x.2.1.part (x.2.1.pos q) x.2.2.1
def DueOf (q : Pln) (ws : List (Int × Wit × Str × Bool)) (due : Option (Str × Str)) : Prop := (ws = [] ∧ due = none) ∨ ∃ (k pt : Int) (i : Nat) (n : Str) (rest : List D), ws ≠ [] ∧ 0 ≤ k ∧ k ≤ 5 ∧ (ws.map (keyOf q)).mergeSort (PySem.W.dataLe false D.py) = keyD k pt i n :: rest ∧ due = some (wordK k, n)
def spTold (Ok : M → Prop) : DSp := fun ds m Q => ∃ (h u : Addr) (q : Pln) (ws : List (Int × Wit × Str × Bool)) (due : Option (Str × Str)), ds = [.ref h, .ref u] ∧ HostAt m h q ∧ m.mu u = some (.lst (ws.map wrD)) ∧ (q.Ok ∧ Ok m) ∧ ws.length ≤ 2 ∧ (∀ x ∈ ws, x.2.1.inP q ∧ x.2.1.Ok ∧ nameS x.2.2.1 = true) ∧ okF due ∧ faultP q = due ∧ DueOf q ws due ∧ ∀ m', Ext m m' → Q (.bl true) m'
theorem wrD_fine {x : Int × Wit × Str × Bool} (h : x.2.1.Ok) (hn : nameS x.2.2.1 = true) : Fine (wrD x) := by
  obtain ⟨f1, d1⟩ := Wit.fine h
  have f2 : Fine (witD x.2.1 x.2.2.1 x.2.2.2) := fine4 (Fine.int _) f1 (Fine.ofStr hn) (fine_bl _) (Nat.zero_le _) (by omega) (Nat.zero_le _) (Nat.zero_le _)
  refine fine2 (Fine.int _) f2 (Nat.zero_le _) ?_
  show max (D.int x.2.1.part).dep (max x.2.1.d.dep (max (D.str x.2.2.1).dep (max (D.bl x.2.2.2).dep (D.deps [])))) + 1 ≤ 50
  have e1 : (D.int x.2.1.part).dep = 0 := rfl
  have e2 : (D.str x.2.2.1).dep = 0 := rfl
  have e3 : (D.bl x.2.2.2).dep = 0 := rfl
  have e4 : D.deps [] = 0 := rfl
  omega
theorem wrD_key {q : Pln} (x y : Int × Wit × Str × Bool) (h : wrD x = wrD y) : keyOf q x = keyOf q y := by
  obtain ⟨k, w, n, b⟩ := x
  obtain ⟨k', w', n', b'⟩ := y
  have h : D.tup [.int k, .tup [.int w.part, w.d, .str n, .bl b]] = D.tup [.int k', .tup [.int w'.part, w'.d, .str n', .bl b']] := h
  injection h with h
  injection h with h1 h
  injection h1 with h1
  injection h with h2 _
  injection h2 with h2
  injection h2 with h3 h2
  injection h3 with h3
  injection h2 with h4 h2
  injection h2 with h5 h2
  injection h5 with h5
  have e : w = w' := by
    cases w <;> cases w' <;> simp only [Wit.part] at h3 <;> first
      | (exfalso; omega)
      | exact congrArg _ (strD_inj h4)
      | exact congrArg _ (joD_inj h4)
      | exact congrArg _ (gaD_inj h4)
      | exact congrArg _ (siD_inj h4)
  subst h1 h5 e
  rfl
theorem key_fine {k pt : Int} {i : Nat} {n : Str} (hn : nameS n = true) : Fine (keyD k pt i n) := fine4 (Fine.int _) (Fine.int _) (Fine.int _) (Fine.ofStr hn) (Nat.zero_le _) (Nat.zero_le _) (Nat.zero_le _) (Nat.zero_le _)
/-- where an item stands -/
theorem pD_pos {w : Wit} {q : Pln} (h : w.inP q) : (w.pD q)[w.pos q]? = some w.d ∧ ∀ (i : Nat) z, i < w.pos q → (w.pD q)[i]? = some z → z ≠ w.d := by
  have gen : ∀ {α : Type} [DecidableEq α] (f : α → D) (inj : ∀ x y, f x = f y → x = y) (l : List α) (x : α), x ∈ l → (l.map f)[posL x l]? = some (f x) ∧ ∀ (i : Nat) z, i < posL x l → (l.map f)[i]? = some z → z ≠ f x := fun f inj l x hx => by
    refine ⟨by rw [List.getElem?_map, posL_get hx]; rfl, fun i z hi hz e => ?_⟩
    rw [List.getElem?_map] at hz
    cases hl : l[i]? with
    | none => rw [hl] at hz; cases hz
    | some y =>
      rw [hl] at hz
      have hz : some (f y) = some z := hz
      cases hz
      exact posL_lt hi hl (inj _ _ e)
  cases w with
  | st x => exact gen strD (fun _ _ => strD_inj) q.st x h
  | jo x => exact gen joD (fun _ _ => joD_inj) q.jo x h
  | ga x => exact gen gaD (fun _ _ => gaD_inj) q.ga x h
  | si x => exact gen siD (fun _ _ => siD_inj) q.si x h
theorem word_ix {k : Int} {m : M} {Q : DK} (h0 : 0 ≤ k) (h1 : k ≤ 5) (q : Q (.str (wordK k)) m) : rdIx (.tup [.str "name", .str "end", .str "joint", .str "gate", .str "signal", .str "overlap"]) (.int k) m Q := by
  have : k = 0 ∨ k = 1 ∨ k = 2 ∨ k = 3 ∨ k = 4 ∨ k = 5 := by omega
  rcases this with rfl | rfl | rfl | rfl | rfl | rfl <;> exact ⟨_, rfl, q⟩
/-- repr of what is told -/
def pyT (o : Option (Str × Str)) (b : Bool) : PyData := .tuple [pyF o, .bool b]
theorem reprT {o : Option (Str × Str)} {b : Bool} {m : M} {Q : DK} (h : okF o) (q : Q (.str (pyT o b).shown) m) : rdRepr [.tup [optF o, .bl b]] m Q := by
  cases o with
  | none => cases b <;> exact ⟨_, .tuple [.none, .bool _], rfl, .tup (.cons .non (.cons (.bl _) .nil)), rfl, by decide +kernel, by decide, q⟩
  | some f =>
    refine ⟨_, .tuple [.tuple [.str f.1, .str f.2], .bool b], rfl, .tup (.cons (.tup (.cons (.str _) (.cons (.str _) .nil))) (.cons (.bl _) .nil)), rfl, ?_, Nat.le_trans (Nat.le_refl 2) (by decide), q⟩
    obtain ⟨⟨a1, a2⟩, b1, b2⟩ := h f rfl
    have h1 := StrLaws.reprText_len f.1 a2
    have h2 := StrLaws.reprText_len f.2 b2
    have hb : (PyData.bool b).shown.length ≤ 5 := by cases b <;> decide +kernel
    have e : (PyData.tuple [.tuple [.str f.1, .str f.2], .bool b]).shown = ("(" : Str) ++ ((("(" : Str) ++ (reprText f.1 ++ ", " ++ reprText f.2) ++ ")") ++ ", " ++ (PyData.bool b).shown) ++ ")" := rfl
    rw [e]
    simp only [len_app]
    have e1 : ("(" : Str).length = 1 := rfl
    have e2 : (", " : Str).length = 2 := rfl
    have e3 : (")" : Str).length = 1 := rfl
    rw [e1, e2, e3, sizeLine_eq]
    omega
end PL

namespace PR
open PySem PySem.Spec PyProof.Rows L2 GA GxR DL PL TM

def top (i : Nat) : Stmt := PySem.Challenge.pw_clearline_k08_faults_alone_and_two_at_on.main.body.getD i (.Pass ⟨0, 0, 0, 0⟩)
structure Txt (K : PySem.W.Frag) (mg : Str → Option Value) (w : World) (tl td t8 t3 : Tok) (aK aO aE aP : Addr) : Prop where
  len : mg "len" = none
  isinstance : mg "isinstance" = none
  all : mg "all" = none
  range : mg "range" = none
  str : mg "str" = none
  list : mg "list" = none
  tuple : mg "tuple" = none
  int : mg "int" = none
  bool : mg "bool" = none
  max : mg "max" = none
  enumerate : mg "enumerate" = none
  set : mg "set" = none
  sorted : mg "sorted" = none
  repr : mg "repr" = none
  m_LETTERS : mg "LETTERS" = some (.str lettersS tl)
  m_LETTERS_AND_DIGITS : mg "LETTERS_AND_DIGITS" = some (.str lettersDS td)
  m_LONGEST_NAME : mg "LONGEST_NAME" = some (.int 8 t8)
  m_GREATEST_END : mg "GREATEST_END" = some (.int 3 t3)
  m_KINDS : mg "KINDS" = some (.ref aK)
  r_KINDS : ∀ H, Rep K H (.ktup [.str "plain", .str "points", .str "crossing"]) (.ref aK)
  m_OVERLAP_KINDS : mg "OVERLAP_KINDS" = some (.ref aO)
  r_OVERLAP_KINDS : ∀ H, Rep K H (.ktup [.str "plain", .str "crossing"]) (.ref aO)
  m_ENDS : mg "ENDS" = some (.ref aE)
  w_ENDS : WDict K w aE endsL
  m_PATHS : mg "PATHS" = some (.ref aP)
  w_PATHS : WDict K w aP pathsL
abbrev s_is_integer : Stmt := top 7
theorem sc_is_integer : FnScope ["thing"] ["thing"] (defScope s_is_integer) := ⟨rfl, rfl, rfl, by decide +kernel, rfl, by decide +kernel, by decide +kernel⟩
abbrev s_is_tuple_of : Stmt := top 8
theorem sc_is_tuple_of : FnScope ["thing", "length"] ["thing", "length"] (defScope s_is_tuple_of) := ⟨rfl, rfl, rfl, by decide +kernel, rfl, by decide +kernel, by decide +kernel⟩
abbrev s_are_items : Stmt := top 9
theorem sc_are_items : FnScope ["thing", "has_form", "item"] ["thing", "has_form"] (defScope s_are_items) := ⟨rfl, rfl, rfl, by decide +kernel, rfl, by decide +kernel, by decide +kernel⟩
abbrev s_is_name : Stmt := top 10
theorem sc_is_name : FnScope ["thing", "sign"] ["thing"] (defScope s_is_name) := ⟨rfl, rfl, rfl, by decide +kernel, rfl, by decide +kernel, by decide +kernel⟩
abbrev s_is_end_number : Stmt := top 14
theorem sc_is_end_number : FnScope ["thing"] ["thing"] (defScope s_is_end_number) := ⟨rfl, rfl, rfl, by decide +kernel, rfl, by decide +kernel, by decide +kernel⟩
abbrev s_is_end : Stmt := top 15
theorem sc_is_end : FnScope ["thing"] ["thing"] (defScope s_is_end) := ⟨rfl, rfl, rfl, by decide +kernel, rfl, by decide +kernel, by decide +kernel⟩
abbrev s_is_step : Stmt := top 16
theorem sc_is_step : FnScope ["thing"] ["thing"] (defScope s_is_step) := ⟨rfl, rfl, rfl, by decide +kernel, rfl, by decide +kernel, by decide +kernel⟩
abbrev s_is_stretch : Stmt := top 17
theorem sc_is_stretch : FnScope ["thing"] ["thing"] (defScope s_is_stretch) := ⟨rfl, rfl, rfl, by decide +kernel, rfl, by decide +kernel, by decide +kernel⟩
abbrev s_is_joint : Stmt := top 18
theorem sc_is_joint : FnScope ["thing"] ["thing"] (defScope s_is_joint) := ⟨rfl, rfl, rfl, by decide +kernel, rfl, by decide +kernel, by decide +kernel⟩
abbrev s_is_gate : Stmt := top 19
theorem sc_is_gate : FnScope ["thing"] ["thing"] (defScope s_is_gate) := ⟨rfl, rfl, rfl, by decide +kernel, rfl, by decide +kernel, by decide +kernel⟩
abbrev s_is_overlap : Stmt := top 20
theorem sc_is_overlap : FnScope ["thing"] ["thing"] (defScope s_is_overlap) := ⟨rfl, rfl, rfl, by decide +kernel, rfl, by decide +kernel, by decide +kernel⟩
abbrev s_is_signal : Stmt := top 21
theorem sc_is_signal : FnScope ["thing"] ["thing"] (defScope s_is_signal) := ⟨rfl, rfl, rfl, by decide +kernel, rfl, by decide +kernel, by decide +kernel⟩
abbrev s_is_plan : Stmt := top 22
theorem sc_is_plan : FnScope ["thing", "stretches", "joints", "gates", "signals"] ["thing"] (defScope s_is_plan) := ⟨rfl, rfl, rfl, by decide +kernel, rfl, by decide +kernel, by decide +kernel⟩
abbrev s_ways_of : Stmt := top 26
theorem sc_ways_of : FnScope ["stretch", "name", "kind", "start", "goal"] ["stretch"] (defScope s_ways_of) := ⟨rfl, rfl, rfl, by decide +kernel, rfl, by decide +kernel, by decide +kernel⟩
abbrev s_kinds_of : Stmt := top 29
theorem sc_kinds_of : FnScope ["plan", "name", "kind"] ["plan"] (defScope s_kinds_of) := ⟨rfl, rfl, rfl, by decide +kernel, rfl, by decide +kernel, by decide +kernel⟩
abbrev s_partners_of : Stmt := top 30
theorem sc_partners_of : FnScope ["plan", "partners", "one", "other"] ["plan"] (defScope s_partners_of) := ⟨rfl, rfl, rfl, by decide +kernel, rfl, by decide +kernel, by decide +kernel⟩
abbrev s_end_exists : Stmt := top 31
theorem sc_end_exists : FnScope ["kinds", "end", "name", "number"] ["kinds", "end"] (defScope s_end_exists) := ⟨rfl, rfl, rfl, by decide +kernel, rfl, by decide +kernel, by decide +kernel⟩
abbrev s_repeated_name : Stmt := top 32
theorem sc_repeated_name : FnScope ["plan", "seen", "item", "stretches", "_", "gates", "signals"] ["plan"] (defScope s_repeated_name) := ⟨rfl, rfl, rfl, by decide +kernel, rfl, by decide +kernel, by decide +kernel⟩
abbrev s_missing_end : Stmt := top 33
theorem sc_missing_end : FnScope ["plan", "kinds", "item", "_", "joints", "gates", "signals", "one", "other"] ["plan"] (defScope s_missing_end) := ⟨rfl, rfl, rfl, by decide +kernel, rfl, by decide +kernel, by decide +kernel⟩
abbrev s_wrong_joint : Stmt := top 34
theorem sc_wrong_joint : FnScope ["plan", "seen", "one", "other"] ["plan"] (defScope s_wrong_joint) := ⟨rfl, rfl, rfl, by decide +kernel, rfl, by decide +kernel, by decide +kernel⟩
abbrev s_wrong_place : Stmt := top 35
theorem sc_wrong_place : FnScope ["plan", "items", "at_joint", "kinds", "partners", "seen", "item", "name", "end"] ["plan", "items", "at_joint"] (defScope s_wrong_place) := ⟨rfl, rfl, rfl, by decide +kernel, rfl, by decide +kernel, by decide +kernel⟩
abbrev s_fits_overlap : Stmt := top 36
theorem sc_fits_overlap : FnScope ["kinds", "beginning", "step", "name"] ["kinds", "beginning", "step"] (defScope s_fits_overlap) := ⟨rfl, rfl, rfl, by decide +kernel, rfl, by decide +kernel, by decide +kernel⟩
abbrev s_wrong_overlap : Stmt := top 37
theorem sc_wrong_overlap : FnScope ["plan", "kinds", "partners", "name", "end", "overlap"] ["plan"] (defScope s_wrong_overlap) := ⟨rfl, rfl, rfl, by decide +kernel, rfl, by decide +kernel, by decide +kernel⟩
abbrev s_fault : Stmt := top 38
theorem sc_fault : FnScope ["plan", "found", "word", "name"] ["plan"] (defScope s_fault) := ⟨rfl, rfl, rfl, by decide +kernel, rfl, by decide +kernel, by decide +kernel⟩
abbrev s_is_checked : Stmt := top 39
theorem sc_is_checked : FnScope ["plan"] ["plan"] (defScope s_is_checked) := ⟨rfl, rfl, rfl, by decide +kernel, rfl, by decide +kernel, by decide +kernel⟩
abbrev s_law_deck : Stmt := top 41
theorem sc_law_deck : FnScope ["script", "mixed", "cell"] ["script"] (defScope s_law_deck) := ⟨rfl, rfl, rfl, by decide +kernel, rfl, by decide +kernel, by decide +kernel⟩
abbrev s_law_draw : Stmt := top 42
theorem sc_law_draw : FnScope ["deck", "many", "number", "cell"] ["deck", "many"] (defScope s_law_draw) := ⟨rfl, rfl, rfl, by decide +kernel, rfl, by decide +kernel, by decide +kernel⟩
abbrev s_law_pick : Stmt := top 43
theorem sc_law_pick : FnScope ["deck", "some"] ["deck", "some"] (defScope s_law_pick) := ⟨rfl, rfl, rfl, by decide +kernel, rfl, by decide +kernel, by decide +kernel⟩
abbrev s_law_name : Stmt := top 44
theorem sc_law_name : FnScope ["deck", "used", "letters", "way", "name", "some", "at", "spare"] ["deck", "used"] (defScope s_law_name) := ⟨rfl, rfl, rfl, by decide +kernel, rfl, by decide +kernel, by decide +kernel⟩
abbrev s_law_joints : Stmt := top 45
theorem sc_law_joints : FnScope ["deck", "free", "joined", "joints", "turn", "one", "others", "other", "end"] ["deck", "free", "joined"] (defScope s_law_joints) := ⟨rfl, rfl, rfl, by decide +kernel, rfl, by decide +kernel, by decide +kernel⟩
abbrev s_law_over : Stmt := top 46
theorem sc_law_over : FnScope ["deck", "kinds", "end", "name", "one"] ["deck", "kinds", "end"] (defScope s_law_over) := ⟨rfl, rfl, rfl, by decide +kernel, rfl, by decide +kernel, by decide +kernel⟩
abbrev s_law_checked : Stmt := top 47
theorem sc_law_checked : FnScope ["deck", "used", "most", "turn", "joints", "free", "many", "kinds", "joined", "stretches", "gates", "signals", "kind", "name", "end"] ["deck", "used", "most"] (defScope s_law_checked) := ⟨rfl, rfl, rfl, by decide +kernel, rfl, by decide +kernel, by decide +kernel⟩
abbrev s_law_host : Stmt := top 48
theorem sc_law_host : FnScope ["deck", "used", "joints", "over", "one", "two", "three", "four", "turn", "joint"] ["deck", "used"] (defScope s_law_host) := ⟨rfl, rfl, rfl, by decide +kernel, rfl, by decide +kernel, by decide +kernel⟩
abbrev s_law_mixed : Stmt := top 49
theorem sc_law_mixed : FnScope ["deck", "one", "other", "turn", "left", "right", "found"] ["deck", "one", "other"] (defScope s_law_mixed) := ⟨rfl, rfl, rfl, by decide +kernel, rfl, by decide +kernel, by decide +kernel⟩
abbrev s_law_named : Stmt := top 50
theorem sc_law_named : FnScope ["deck", "host", "part", "names", "it", "name", "last"] ["deck", "host"] (defScope s_law_named) := ⟨rfl, rfl, rfl, by decide +kernel, rfl, by decide +kernel, by decide +kernel⟩
abbrev s_law_ended : Stmt := top 51
theorem sc_law_ended : FnScope ["deck", "host", "used", "end", "way", "free", "name"] ["deck", "host", "used"] (defScope s_law_ended) := ⟨rfl, rfl, rfl, by decide +kernel, rfl, by decide +kernel, by decide +kernel⟩
abbrev s_law_wrong : Stmt := top 52
theorem sc_law_wrong : FnScope ["deck", "kind", "turn", "host", "used", "end", "step", "one", "two", "three", "four", "name", "way", "it", "over", "steps"] ["deck", "kind", "turn", "host", "used"] (defScope s_law_wrong) := ⟨rfl, rfl, rfl, by decide +kernel, rfl, by decide +kernel, by decide +kernel⟩
abbrev s_law_is_told : Stmt := top 53
theorem sc_law_is_told : FnScope ["parts", "wrong", "plan", "due", "first", "part", "kind", "it"] ["parts", "wrong"] (defScope s_law_is_told) := ⟨rfl, rfl, rfl, by decide +kernel, rfl, by decide +kernel, by decide +kernel⟩
abbrev s_law : Stmt := top 54
theorem sc_law : FnScope ["script", "most", "right", "kind", "deck", "used", "host", "plan", "other", "at", "parts", "wrong", "near", "turn", "it", "new", "part", "low", "more", "item"] ["script"] (defScope s_law) := ⟨rfl, rfl, rfl, by decide +kernel, rfl, by decide +kernel, by decide +kernel⟩
end PR

namespace PR
open PySem PySem.Spec PyProof.Rows L2 GA GxR DL PL PySem.W
def dd (x : Str) (st : Stmt) : He.DefD := ⟨(x, none), x, x, defArgs st, defBody st, defScope st, [], []⟩
def fn1 : List He.DefD := [dd "is_integer" s_is_integer, dd "is_tuple_of" s_is_tuple_of, dd "are_items" s_are_items, dd "is_name" s_is_name, dd "is_end_number" s_is_end_number, dd "is_end" s_is_end, dd "is_step" s_is_step, dd "is_stretch" s_is_stretch, dd "is_joint" s_is_joint, dd "is_gate" s_is_gate, dd "is_overlap" s_is_overlap, dd "is_signal" s_is_signal, dd "is_plan" s_is_plan, dd "ways_of" s_ways_of, dd "kinds_of" s_kinds_of, dd "partners_of" s_partners_of, dd "end_exists" s_end_exists, dd "repeated_name" s_repeated_name, dd "missing_end" s_missing_end]
def fn2 : List He.DefD := [dd "wrong_joint" s_wrong_joint, dd "wrong_place" s_wrong_place, dd "fits_overlap" s_fits_overlap, dd "wrong_overlap" s_wrong_overlap, dd "fault" s_fault, dd "is_checked" s_is_checked, dd "_law_deck" s_law_deck, dd "_law_draw" s_law_draw, dd "_law_pick" s_law_pick, dd "_law_name" s_law_name, dd "_law_joints" s_law_joints, dd "_law_over" s_law_over, dd "_law_checked" s_law_checked, dd "_law_host" s_law_host, dd "_law_mixed" s_law_mixed, dd "_law_named" s_law_named, dd "_law_ended" s_law_ended, dd "_law_wrong" s_law_wrong, dd "_law_is_told" s_law_is_told, dd "law" s_law]
def fnL : List He.DefD := fn1 ++ fn2
def fa1 : List He.Fa := [.glo "is_integer", .glo "is_tuple_of", .glo "are_items", .glo "is_name", .glo "is_end_number", .glo "is_end", .glo "is_step", .glo "is_stretch", .glo "is_joint", .glo "is_gate", .glo "is_overlap", .glo "is_signal", .glo "is_plan", .glo "ways_of", .glo "kinds_of", .glo "partners_of", .glo "end_exists", .glo "repeated_name", .glo "missing_end", .glo "wrong_joint", .glo "wrong_place", .glo "fits_overlap", .glo "wrong_overlap", .glo "fault", .glo "is_checked", .glo "_law_deck", .glo "_law_draw", .glo "_law_pick", .glo "_law_name", .glo "_law_joints", .glo "_law_over", .glo "_law_checked", .glo "_law_host", .glo "_law_mixed", .glo "_law_named", .glo "_law_ended", .glo "_law_wrong", .glo "_law_is_told", .glo "law"]
def fa2 : List He.Fa := [.glo "KINDS", .glo "OVERLAP_KINDS", .glo "ENDS", .glo "PATHS", .str "LETTERS" lettersS, .str "LETTERS_AND_DIGITS" lettersDS, .int "LONGEST_NAME" 8, .int "GREATEST_END" 3, .free "len", .free "isinstance", .free "all", .free "range", .free "str", .free "list", .free "tuple", .free "int", .free "bool", .free "max", .free "enumerate", .free "set", .free "sorted", .free "repr"]
def faL : List He.Fa := fa1 ++ fa2
def tsL : List He.Tab := [(fun K => He.ga K "ENDS", ["plain", "points", "crossing"]), (fun K => He.ga K "PATHS", ["plain", "points", "crossing"])]
def tfL : List He.Defn := [("is_name", none), ("are_items", none)]
def exL (K : PySem.W.Frag) : Bool := He.tupB K "KINDS" [.str "plain", .str "points", .str "crossing"] && (He.tupB K "OVERLAP_KINDS" [.str "plain", .str "crossing"] && (wdB K (He.ga K "ENDS") endsL && wdB K (He.ga K "PATHS") pathsL))
abbrev R : PySem.W.OpenRow := PySem.W.OpenLaw.row PySem.Challenge.rw_clearline_k08_faults_alone_and_two_at_on
abbrev hkL : PySem.W.Hook := He.hookX 4 faL fnL tsL tfL exL
def obL (s : PySem.W.SharedT) : He.AlX := He.obsX 4 faL fnL tsL tfL exL (HandSHeadRun.getT s)
theorem obL_eq (s : PySem.W.SharedT) : obL s = hkL.obs s.abs := He.obsX_eq (HandSHeadRun.getT_eq s)
def loose1 : List Str := ["LineError", "BadPlan", "LETTERS", "LETTERS_AND_DIGITS", "LONGEST_NAME", "is_integer", "is_tuple_of", "are_items", "is_name", "KINDS", "GREATEST_END", "is_end_number", "is_end", "is_step", "is_stretch", "is_joint", "is_gate", "is_overlap", "is_signal", "is_plan", "ENDS", "PATHS", "ways_of", "OVERLAP_KINDS"]
def loose2 : List Str := ["kinds_of", "partners_of", "end_exists", "repeated_name", "missing_end", "wrong_joint", "wrong_place", "fits_overlap", "wrong_overlap", "fault", "is_checked", "_law_deck", "_law_draw", "_law_pick", "_law_name", "_law_joints", "_law_over", "_law_checked", "_law_host", "_law_mixed", "_law_named", "_law_ended", "_law_wrong", "_law_is_told"]
def looseL : List Str := loose1 ++ loose2
theorem runL (w : World) : HandSHeadRun.RunEq R (PySem.W.view R.prog [54]) hkL obL 3000 looseL w := by
  refine byRow2 "special-get-raises" (P := fun w => HandSHeadRun.RunEq R (PySem.W.view R.prog [54]) hkL obL 3000 looseL w) (fun w os => ?_) (fun w os => ?_) w
  · kernel_rfl
  · kernel_rfl
end PR

namespace PR
open PySem PySem.Spec PyProof.Rows L2 GA GxR DL PL
theorem funC_of {K : PySem.W.Frag} {x : Str} {st : Stmt} {fd : FuncData} (F : L2.FunD K x x (defArgs st) (defBody st) (defScope st) [] [] (He.fAd K (x, none)) fd) : FunC K x st (He.fAd K (x, none)) fd (He.codeOf K (x, none)) := by
  obtain ⟨oc, od, dV, kV, doc, pm, an, cdv, ct, osl, e, l, c, hd, _⟩ := F.ex
  obtain ⟨c0, rfl⟩ := He.codeIn_ref c
  rcases hd with ⟨_, e2⟩ | ⟨e2, _⟩
  · subst e2
    have h : He.codeOf K (x, none) = c0 := He.codeOf_eq l (by rw [e])
    rw [h]
    exact ⟨⟨oc, od, kV, doc, pm, an, ct, osl, e, l, c⟩, F.kp⟩
  · exact absurd rfl e2
/-- what stands beside the store as the law begins -/
def lawGh (P1 P2 : Addr) (own3 : Addr → Prop) (S : Hp → Prop) (hs : ∀ H H', S H → (∀ a, own3 a → H' a = H a) → S H') (ht : ∀ H, S H → ∀ a, own3 a → H a ≠ none) : Gh where
  inv := fun H => TabG H P1 ∧ TabG H P2 ∧ S H
  own := fun a => a = P1 ∨ a = P2 ∨ own3 a
  stable := fun H H' ⟨⟨p1, e1, t1⟩, ⟨p2, e2, t2⟩, h3⟩ e => ⟨⟨p1, (e P1 (.inl rfl)).trans e1, t1⟩, ⟨p2, (e P2 (.inr (.inl rfl))).trans e2, t2⟩, hs H H' h3 fun a ha => e a (.inr (.inr ha))⟩
  there := fun H ⟨⟨p1, e1, t1⟩, ⟨p2, e2, t2⟩, h3⟩ a ha => by
    rcases ha with rfl | rfl | ha
    · rw [e1]; exact fun z => by cases z
    · rw [e2]; exact fun z => by cases z
    · exact ht H h3 a ha
theorem lawGh_tabs {P1 P2 : Addr} {own3 : Addr → Prop} {S : Hp → Prop} {hs : ∀ H H', S H → (∀ a, own3 a → H' a = H a) → S H'} {ht : ∀ H, S H → ∀ a, own3 a → H a ≠ none} (hn : ∀ H a, S H → own3 a → ∀ ps, H a ≠ some (.tbl ps)) :
    Tab ⟨fun _ => none, lawGh P1 P2 own3 S hs ht⟩ P1 ∧ Tab ⟨fun _ => none, lawGh P1 P2 own3 S hs ht⟩ P2 := by
  have tr : ∀ (P : Addr) (H H2 : Hp), TabG H P → Tabbed P H H2 → ∀ P', TabG H P' → TabG H2 P' := fun P H H2 _ t P' h => by
    by_cases z : P' = P
    · subst z; exact t.1
    · obtain ⟨ps, e, tt⟩ := h
      exact ⟨ps, (t.2 _ z).trans e, tt⟩
  refine ⟨⟨.inl rfl, fun H i => i.1, fun H H2 i t => ⟨tr P1 H H2 i.1 t P1 i.1, tr P1 H H2 i.1 t P2 i.2.1, hs H H2 i.2.2 fun a ha => t.2 a fun z => ?_⟩⟩, ⟨.inr (.inl rfl), fun H i => i.2.1, fun H H2 i t => ⟨tr P2 H H2 i.2.1 t P1 i.1, tr P2 H H2 i.2.1 t P2 i.2.1, hs H H2 i.2.2 fun a ha => t.2 a fun z => ?_⟩⟩⟩
  · subst z
    obtain ⟨ps, e, _⟩ := i.1
    exact hn H _ i.2.2 ha ps e
  · subst z
    obtain ⟨ps, e, _⟩ := i.2.1
    exact hn H _ i.2.2 ha ps e
def spL (K : PySem.W.Frag) (P1 P2 : Addr) : Sp := fun vs H Q _ => ∃ (aS : Addr) (ns : List Int), vs = [.ref aS] ∧ ns.length ≤ 63 ∧ SqL K H aS (ns.map V.int) ∧ H P1 = some (.tbl #[]) ∧ H P2 = some (.tbl #[]) ∧ ∀ H', Q (.bl true) H'
theorem law_up {K : PySem.W.Frag} {P1 P2 : Addr} {vs : List V} {H : Hp} {Q : VK} {E : XK} (h : spL K P1 P2 vs H Q E) : spUp K (spLaw K P1 P2) vs H Q E := by
  obtain ⟨aS, ns, rfl, hl, hS, h1, h2, q⟩ := h
  have t1 : TabG H P1 := ⟨#[], h1, trivial⟩
  have t2 : TabG H P2 := ⟨#[], h2, trivial⟩
  have fit : Fits K H (fun d _ => d = .bl true) Q := fun d m e v H' _ r _ => by subst e; cases r; exact q H'
  rcases hS with hR | hK
  · have key : ∀ (H : Hp) (a : Addr), Rd H aS (.lst (ns.map V.int)) → a = aS → ∀ ps, H a ≠ some (.tbl ps) := fun H a r e ps z => by
      subst e
      rcases r with r | ⟨o, r⟩ <;> (rw [r] at z; cases z)
    have hs : ∀ H H' : Hp, Rd H aS (.lst (ns.map V.int)) → (∀ a, a = aS → H' a = H a) → Rd H' aS (.lst (ns.map V.int)) := fun H H' r e => by
      rcases r with r | ⟨o, r⟩
      · exact .inl ((e aS rfl).trans r)
      · exact .inr ⟨o, (e aS rfl).trans r⟩
    have ht : ∀ H : Hp, Rd H aS (.lst (ns.map V.int)) → ∀ a, a = aS → H a ≠ none := fun H r a e z => by
      subst e
      rcases r with r | ⟨o, r⟩ <;> (rw [r] at z; cases z)
    have T := lawGh_tabs (P1 := P1) (P2 := P2) (own3 := fun a => a = aS) (S := fun H => Rd H aS (.lst (ns.map V.int))) (hs := hs) (ht := ht) key
    refine ⟨[.ref aS], ⟨fun _ => none, lawGh P1 P2 (fun a => a = aS) (fun H => Rd H aS (.lst (ns.map V.int))) hs ht⟩, fun d _ => d = .bl true, .cons (.ref aS) .nil, ⟨⟨t1, t2, hR⟩, fun _ _ => rfl, fun a o e => by cases e⟩, ⟨aS, ns, rfl, fun H i => .inl i.2.2, hl, T.1, T.2, fun _ => rfl⟩, fit⟩
  · have hs : ∀ H H' : Hp, True → (∀ a, False → H' a = H a) → True := fun _ _ _ _ => trivial
    have ht : ∀ H : Hp, True → ∀ a, False → H a ≠ none := fun _ _ _ z => z.elim
    have T := lawGh_tabs (P1 := P1) (P2 := P2) (own3 := fun _ => False) (S := fun _ => True) (hs := hs) (ht := ht) fun _ _ _ z => z.elim
    exact ⟨[.ref aS], ⟨fun _ => none, lawGh P1 P2 (fun _ => False) (fun _ => True) hs ht⟩, fun d _ => d = .bl true, .cons (.ref aS) .nil, ⟨⟨t1, t2, trivial⟩, fun _ _ => rfl, fun a o e => by cases e⟩, ⟨aS, ns, rfl, fun H i => .inr hK, hl, T.1, T.2, fun _ => rfl⟩, fit⟩
end PR

namespace PR
open PySem PySem.Spec PyProof.Rows L2 GA GxR DL PL TM

section
variable {P : Program} {w : World} {K : PySem.W.Frag} {mg : Str → Option Value} {base : Heap} {tl td t8 t3 : Tok} {aK aO aE aP P1 P2 : Addr} (T : Txt K mg w tl td t8 t3 aK aO aE aP) (Ok : M → Prop) (hOk : ∀ a b : M, Ok a → b.gh = a.gh → Ok b)
include T hOk

theorem c_is_integer {f : Addr} {fd : FuncData} (F : Fun K "is_integer" "is_integer" s_is_integer f fd) (hm : mg "is_integer" = some (.ref f))  : DCal P w K mg base 1 "is_integer" (sp1 Ok ty mInt) := by
  refine dcal F hm (F.binds (ps := ["thing"]) fun _ _ _ _ _ _ us hl => match us, hl with | [_], _ => rfl) sc_is_integer (fun ds m Q h => ?_) (fun cdv A outer s H E hr => ⟨_, (dss_one (ds_ret (de_and (de_isi (T := "int") (by rfl) T.isinstance (by decide +kernel) (de_var 0) (pe_bltn (by rfl) T.int (by decide +kernel) rfl)) (de_one (de_not (de_isi (T := "bool") (by rfl) T.isinstance (by decide +kernel) (de_var 0) (pe_bltn (by rfl) T.bool (by decide +kernel) rfl))))))), fun ds m Q h => ?_⟩)
  · obtain ⟨d, rfl, _⟩ := h; rfl
  · obtain ⟨d, rfl, hd, hO, q⟩ := h
    dsimp only [dRet, dSeq, dNext, dIfS, dSet, dExpr, dAndV, dOrV, dOp, dUn, dArgs, dCons, dNil, dTup, dC, dB, dNot, dAnd, dOr, dIf, dCall, dAsg, dPar, dChain, dMeth, dM1, dSl, dPart, dNoPart, dFmt, gD]
    refine dIsi_int (fun R hR => dVar_at rfl hR) hd ⟨_, rfl, ?_⟩
    cases d with
    | int i => exact iteT (dIsi_bool (fun R hR => dVar_at rfl hR) ⟨false, rfl, q⟩)
    | bl b => exact iteT (dIsi_boolb (fun R hR => dVar_at rfl hR) ⟨true, rfl, q⟩)
    | ref a => exact hd.elim
    | ktup a => exact hd.elim
    | _ => exact iteF q

theorem c_is_tuple_of {f : Addr} {fd : FuncData} (F : Fun K "is_tuple_of" "is_tuple_of" s_is_tuple_of f fd) (hm : mg "is_tuple_of" = some (.ref f))  : DCal P w K mg base 1 "is_tuple_of" (fun ds m Q => ∃ d n, ds = [d, .int n] ∧ ty d ∧ Q (.bl (mTupN d n)) m) := by
  refine dcal F hm (F.binds (ps := ["thing", "length"]) fun _ _ _ _ _ _ us hl => match us, hl with | [_, _], _ => rfl) sc_is_tuple_of (fun ds m Q h => ?_) (fun cdv A outer s H E hr => ⟨_, (dss_one (ds_ret (de_and (de_isi (T := "tuple") (by rfl) T.isinstance (by decide +kernel) (de_var 0) (pe_bltn (by rfl) T.tuple (by decide +kernel) rfl)) (de_one (de_cmp (dc_eq hr) (de_len (by rfl) T.len (da_cons (de_var 0) da_nil)) (de_var 1)))))), fun ds m Q h => ?_⟩)
  · obtain ⟨d, n, rfl, _⟩ := h; rfl
  · obtain ⟨d, n, rfl, hd, q⟩ := h
    dsimp only [dRet, dSeq, dNext, dIfS, dSet, dExpr, dAndV, dOrV, dOp, dUn, dArgs, dCons, dNil, dTup, dC, dB, dNot, dAnd, dOr, dIf, dCall, dAsg, dPar, dChain, dMeth, dM1, dSl, dPart, dNoPart, dFmt, gD]
    refine dIsi_tup (fun R hR => dVar_at rfl hR) hd ⟨_, rfl, ?_⟩
    cases d with
    | tup xs => exact iteT (dVar_at rfl ⟨_, _, rfl, rfl, dVar_at rfl (eqI q)⟩)
    | ref a => exact hd.elim
    | ktup a => exact hd.elim
    | _ => exact iteF q

theorem c_are_items {f c : Addr} {fd : FuncData} (F : FunC K "are_items" s_are_items f fd c) (hm : mg "are_items" = some (.ref f)) {g0 : Addr} {g : D → Bool} {dom : D → Prop} {k : Nat} (cf : DCalAt P w K mg base k g0 (sp1 Ok dom g)) (TB : TabB base mg c P2) (hTab : ∀ m, Ok m → Tab m P2) : DCal P w K mg base (k + 2) "are_items" (fun ds m Q => ∃ d, ds = [d, .ref g0] ∧ ty d ∧ (∀ xs, d = .tup xs → ∀ x ∈ xs, dom x) ∧ Ok m ∧ Q (.bl (mAll g d)) m) := by
  refine dcalC F hm (F.fun.binds (ps := ["thing", "has_form"]) fun _ _ _ _ _ _ us hl => match us, hl with | [_, _], _ => rfl) sc_are_items (fun ds m Q h => ?_) (fun A outer s H E hr => ⟨_, (dss_one (ds_ret (de_and (de_isi (T := "tuple") (by rfl) T.isinstance (by decide +kernel) (de_var 0) (pe_bltn (by rfl) T.tuple (by decide +kernel) rfl)) (de_one (de_all (own := [("item", 2)]) hr (by rfl) T.all (by decide +kernel) TB rfl (genOk (N := ["thing", "has_form", "item"]) (scX := defScope s_are_items) rfl rfl (by decide +kernel) (by decide +kernel) (by decide +kernel)) sc_are_items.nd (dpi_tup (de_var 0)) (fun A ce s H fp hsc => by cases ce; cases hsc; exact dg_name (i := 2) sc_are_items.nd rfl (Or.inl rfl) (Or.inr rfl)) (fun A ce s H fp hsc hr => by cases ce; cases hsc; exact de_callL (i := 1) cf hr (Nat.le_refl _) rfl (by first | exact Or.inl rfl | exact Or.inr (Or.inl rfl) | exact Or.inr (Or.inr rfl)) (da_cons (de_var 2) da_nil)) (fun _ => rfl)))))), fun ds m Q h => ?_⟩)
  · obtain ⟨d, rfl, _⟩ := h; rfl
  · obtain ⟨d, rfl, hd, hx, hO, q⟩ := h
    dsimp only [dRet, dSeq, dNext, dIfS, dSet, dExpr, dAndV, dOrV, dOp, dUn, dArgs, dCons, dNil, dTup, dC, dB, dNot, dAnd, dOr, dIf, dCall, dAsg, dPar, dChain, dMeth, dM1, dSl, dPart, dNoPart, dFmt, gD]
    refine dIsi_tup (fun R hR => dVar_at rfl hR) hd ⟨_, rfl, ?_⟩
    cases d with
    | tup xs =>
      exact iteT (dAll_pure (xs := xs) (p := g) (hTab m hO) (fun R hR => dVar_at rfl ⟨xs, .inl rfl, hR⟩) (fun d hd R hR => ⟨rfl, dVar_at rfl ⟨d, rfl, hx xs rfl d hd, hO, hR⟩⟩) q)
    | ref a => exact hd.elim
    | ktup a => exact hd.elim
    | _ => exact iteF q

theorem c_is_name {f c : Addr} {fd : FuncData} (F : FunC K "is_name" s_is_name f fd c) (hm : mg "is_name" = some (.ref f)) (TB : TabB base mg c P1) (hTab : ∀ m, Ok m → Tab m P1) : DCal P w K mg base 3 "is_name" (sp1 Ok ty mName) := by
  refine dcalC F hm (F.fun.binds (ps := ["thing"]) fun _ _ _ _ _ _ us hl => match us, hl with | [_], _ => rfl) sc_is_name (fun ds m Q h => ?_) (fun A outer s H E hr => ⟨_, (dss_cons (ds_if (dt_w (dw_or (dt_not (dt_val (de_isi (T := "str") (by rfl) T.isinstance (by decide +kernel) (de_var 0) (pe_bltn (by rfl) T.str (by decide +kernel) rfl)))) (dw_or1 (dt_not (dt_chain dc_le dc_le de_int (de_len (by rfl) T.len (da_cons (de_var 0) da_nil)) (de_globI (by rfl) T.m_LONGEST_NAME)))))) (dss_one (ds_ret de_bl)) dss_nil)
      (dss_one (ds_ret (de_and (de_cmp dc_inS (de_ix (de_var 0) de_int) (de_globS (by rfl) T.m_LETTERS)) (de_one (de_all (own := [("sign", 1)]) hr (by rfl) T.all (by decide +kernel) TB rfl (genOk (N := ["thing", "sign"]) (scX := defScope s_is_name) rfl rfl (by decide +kernel) (by decide +kernel) (by decide +kernel)) sc_is_name.nd (dpi_str (de_var 0)) (fun A ce s H fp hsc => by cases ce; cases hsc; exact dg_name (i := 1) sc_is_name.nd rfl (Or.inl rfl) (Or.inr rfl)) (fun A ce s H fp hsc hr => by cases ce; cases hsc; exact de_cmp dc_inS (de_var 1) (de_globS (by rfl) T.m_LETTERS_AND_DIGITS)) (fun _ => rfl))))))), fun ds m Q h => ?_⟩)
  · obtain ⟨d, rfl, _⟩ := h; rfl
  · obtain ⟨d, rfl, hd, hO, q⟩ := h
    dsimp only [dRet, dSeq, dNext, dIfS, dSet, dExpr, dAndV, dOrV, dOp, dUn, dArgs, dCons, dNil, dTup, dC, dB, dNot, dAnd, dOr, dIf, dCall, dAsg, dPar, dChain, dMeth, dM1, dSl, dPart, dNoPart, dFmt, gD]
    refine dIsi_str (fun R hR => dVar_at rfl hR) hd ⟨_, rfl, ?_⟩
    cases d with
    | str s =>
      have hz : s.length ≤ sizeLine := (by simpa [ty] using hd)
      refine iteF (dVar_at rfl ⟨_, _, rfl, ⟨hz, rfl⟩, _, rfl, ?_⟩)
      by_cases h1 : 1 ≤ s.length
      · refine ifT (decide_eq_true (by omega)) ⟨_, rfl, ?_⟩
        by_cases h8 : s.length ≤ 8
        · have e8 : decide ((s.length : Int) ≤ 8) = true := decide_eq_true (by omega)
          obtain ⟨c, r, hc⟩ : ∃ c r, s.cps.toList = c :: r := by
            cases e : s.cps.toList with
            | nil => have : s.cps.toList.length = 0 := by rw [e]; rfl
                     have h2 : s.length = s.cps.size := rfl
                     simp at this; rw [h2, this] at h1; simp at h1
            | cons c r => exact ⟨c, r, rfl⟩
          refine ifF (by show (!decide ((s.length : Int) ≤ 8)) = false; rw [e8]; rfl) (dVar_at rfl ⟨c, hz, len1 hc, c, lettersS, rfl, rfl, _, rfl, ?_⟩)
          have en : mName (.str s) = (decide (c ∈ lettersS.cps.toList) && s.cps.toList.all fun c => decide (c ∈ lettersDS.cps.toList)) := by
            show nameS s = _
            unfold nameS
            rw [decide_eq_true h1, decide_eq_true h8, hc]; rfl
          rw [en] at q
          cases hl : decide (c ∈ lettersS.cps.toList) with
          | true =>
            rw [hl, Bool.true_and] at q
            refine ifT rfl (dAll_pure (xs := s.cps.toList.map fun c => D.str ⟨#[c]⟩) (p := mSign) (hTab m hO) (fun R hR => dVar_at rfl ⟨s, rfl, hR⟩) (fun d hd R hR => ?_) (by rw [all_signs']; exact q))
            obtain ⟨c', _, rfl⟩ := List.mem_map.mp hd
            refine dVar_at rfl ⟨c', lettersDS, rfl, rfl, ?_⟩
            have es : mSign (.str ⟨#[c']⟩) = decide (c' ∈ lettersDS.cps.toList) := by simp [mSign]
            rw [es] at hR; exact hR
          | false => rw [hl, Bool.false_and] at q; exact ifF rfl q
        · have e8 : decide ((s.length : Int) ≤ 8) = false := decide_eq_false (by omega)
          have en : mName (.str s) = false := by show nameS s = false; unfold nameS; rw [decide_eq_false h8, Bool.and_false]; rfl
          rw [en] at q; exact ifT (by show (!decide ((s.length : Int) ≤ 8)) = true; rw [e8]; rfl) q
      · have en : mName (.str s) = false := by show nameS s = false; unfold nameS; rw [decide_eq_false h1]; rfl
        rw [en] at q
        exact ifF (decide_eq_false (by omega)) ⟨false, rfl, iteT q⟩
    | ref a => exact hd.elim
    | ktup a => exact hd.elim
    | _ => exact iteT q

theorem c_is_end_number {f : Addr} {fd : FuncData} (F : Fun K "is_end_number" "is_end_number" s_is_end_number f fd) (hm : mg "is_end_number" = some (.ref f)) (c_is_integer : DCal P w K mg base 1 "is_integer" (sp1 Ok ty mInt)) : DCal P w K mg base 2 "is_end_number" (sp1 Ok ty mNum) := by
  refine dcal F hm (F.binds (ps := ["thing"]) fun _ _ _ _ _ _ us hl => match us, hl with | [_], _ => rfl) sc_is_end_number (fun ds m Q h => ?_) (fun cdv A outer s H E hr => ⟨_, (dss_one (ds_ret (de_and (de_call c_is_integer hr (by decide) (by rfl) (da_cons (de_var 0) da_nil)) (de_one (de_chain dc_le dc_le de_int (de_var 0) (de_globI (by rfl) T.m_GREATEST_END)))))), fun ds m Q h => ?_⟩)
  · obtain ⟨d, rfl, _⟩ := h; rfl
  · obtain ⟨d, rfl, hd, hO, q⟩ := h
    dsimp only [dRet, dSeq, dNext, dIfS, dSet, dExpr, dAndV, dOrV, dOp, dUn, dArgs, dCons, dNil, dTup, dC, dB, dNot, dAnd, dOr, dIf, dCall, dAsg, dPar, dChain, dMeth, dM1, dSl, dPart, dNoPart, dFmt, gD]
    refine dVar_at rfl ⟨d, rfl, hd, hO, _, rfl, ?_⟩
    cases d with
    | int i =>
      refine iteT (dVar_at rfl ⟨_, rfl, ?_⟩)
      by_cases h0 : 0 ≤ i
      · have en : mNum (.int i) = decide (i ≤ 3) := by show (decide (0 ≤ i) && decide (i ≤ 3)) = _; rw [decide_eq_true h0]; rfl
        rw [en] at q; exact ifT (decide_eq_true h0) q
      · have en : mNum (.int i) = false := by show (decide (0 ≤ i) && decide (i ≤ 3)) = _; rw [decide_eq_false h0]; rfl
        rw [en] at q; exact ifF (decide_eq_false h0) q
    | _ => exact iteF q

theorem c_is_end {f : Addr} {fd : FuncData} (F : Fun K "is_end" "is_end" s_is_end f fd) (hm : mg "is_end" = some (.ref f)) (c_is_tuple_of : DCal P w K mg base 1 "is_tuple_of" (fun ds m Q => ∃ d n, ds = [d, .int n] ∧ ty d ∧ Q (.bl (mTupN d n)) m))(c_is_name : DCal P w K mg base 3 "is_name" (sp1 Ok ty mName))(c_is_end_number : DCal P w K mg base 2 "is_end_number" (sp1 Ok ty mNum)) : DCal P w K mg base 4 "is_end" (sp1 Ok ty mEnd) := by
  refine dcal F hm (F.binds (ps := ["thing"]) fun _ _ _ _ _ _ us hl => match us, hl with | [_], _ => rfl) sc_is_end (fun ds m Q h => ?_) (fun cdv A outer s H E hr => ⟨_, (dss_one (ds_ret (de_and (de_call c_is_tuple_of hr (by decide) (by rfl) (da_cons (de_var 0) (da_cons de_int da_nil))) (de_and (de_call c_is_name hr (by decide) (by rfl) (da_cons (de_ix (de_var 0) de_int) da_nil)) (de_one (de_call c_is_end_number hr (by decide) (by rfl) (da_cons (de_ix (de_var 0) de_int) da_nil))))))), fun ds m Q h => ?_⟩)
  · obtain ⟨d, rfl, _⟩ := h; rfl
  · obtain ⟨d, rfl, hd, hO, q⟩ := h
    dsimp only [dRet, dSeq, dNext, dIfS, dSet, dExpr, dAndV, dOrV, dOp, dUn, dArgs, dCons, dNil, dTup, dC, dB, dNot, dAnd, dOr, dIf, dCall, dAsg, dPar, dChain, dMeth, dM1, dSl, dPart, dNoPart, dFmt, gD]
    refine dVar_at rfl ⟨d, 2, rfl, hd, _, rfl, ?_⟩
    rcases tup2 d with ⟨a, b, rfl⟩ | ⟨hn, ne⟩
    · obtain ⟨ha, hb, _⟩ := hd
      refine iteT (dVar_at rfl ⟨a, rfl, a, rfl, ha, hO, _, rfl, ?_⟩)
      have en : mEnd (.tup [a, b]) = (mName a && mNum b) := rfl
      rw [en] at q
      cases e1 : mName a with
      | true => rw [e1, Bool.true_and] at q; exact ifT rfl (dVar_at rfl ⟨b, rfl, b, rfl, hb, hO, q⟩)
      | false => rw [e1, Bool.false_and] at q; exact ifF rfl q
    · rw [mEnd_no ne] at q; exact ifF hn q

theorem c_is_step {f : Addr} {fd : FuncData} (F : Fun K "is_step" "is_step" s_is_step f fd) (hm : mg "is_step" = some (.ref f)) (c_is_tuple_of : DCal P w K mg base 1 "is_tuple_of" (fun ds m Q => ∃ d n, ds = [d, .int n] ∧ ty d ∧ Q (.bl (mTupN d n)) m))(c_is_end : DCal P w K mg base 4 "is_end" (sp1 Ok ty mEnd))(c_is_end_number : DCal P w K mg base 2 "is_end_number" (sp1 Ok ty mNum)) : DCal P w K mg base 5 "is_step" (sp1 Ok ty mStep) := by
  refine dcal F hm (F.binds (ps := ["thing"]) fun _ _ _ _ _ _ us hl => match us, hl with | [_], _ => rfl) sc_is_step (fun ds m Q h => ?_) (fun cdv A outer s H E hr => ⟨_, (dss_one (ds_ret (de_and (de_call c_is_tuple_of hr (by decide) (by rfl) (da_cons (de_var 0) (da_cons de_int da_nil))) (de_and (de_call c_is_end hr (by decide) (by rfl) (da_cons (de_slice (de_var 0) dpo_none (dpo_some de_int)) da_nil)) (de_one (de_call c_is_end_number hr (by decide) (by rfl) (da_cons (de_ix (de_var 0) de_int) da_nil))))))), fun ds m Q h => ?_⟩)
  · obtain ⟨d, rfl, _⟩ := h; rfl
  · obtain ⟨d, rfl, hd, hO, q⟩ := h
    dsimp only [dRet, dSeq, dNext, dIfS, dSet, dExpr, dAndV, dOrV, dOp, dUn, dArgs, dCons, dNil, dTup, dC, dB, dNot, dAnd, dOr, dIf, dCall, dAsg, dPar, dChain, dMeth, dM1, dSl, dPart, dNoPart, dFmt, gD]
    refine dVar_at rfl ⟨d, 3, rfl, hd, _, rfl, ?_⟩
    rcases tup3 d with ⟨a, b, c, rfl⟩ | ⟨hn, ne⟩
    · obtain ⟨ha, hb, hc, _⟩ := hd
      refine iteT (dVar_at rfl ⟨_, rfl, ⟨(fun z => absurd z.2 (by show ¬ (2 : Nat) = 3; decide)), .tup [a, b], rfl, ⟨ha, hb, trivial⟩, hO, _, rfl, ?_⟩⟩)
      have en : mStep (.tup [a, b, c]) = (mEnd (.tup [a, b]) && mNum c) := rfl
      rw [en] at q
      cases e1 : mEnd (.tup [a, b]) with
      | true => rw [e1, Bool.true_and] at q; exact ifT rfl (dVar_at rfl ⟨c, rfl, c, rfl, hc, hO, q⟩)
      | false => rw [e1, Bool.false_and] at q; exact ifF rfl q
    · rw [mStep_no ne] at q; exact ifF hn q

theorem c_is_stretch {f : Addr} {fd : FuncData} (F : Fun K "is_stretch" "is_stretch" s_is_stretch f fd) (hm : mg "is_stretch" = some (.ref f)) (c_is_tuple_of : DCal P w K mg base 1 "is_tuple_of" (fun ds m Q => ∃ d n, ds = [d, .int n] ∧ ty d ∧ Q (.bl (mTupN d n)) m))(c_is_name : DCal P w K mg base 3 "is_name" (sp1 Ok ty mName)) : DCal P w K mg base 4 "is_stretch" (sp1 Ok tyS mStretch) := by
  refine dcal F hm (F.binds (ps := ["thing"]) fun _ _ _ _ _ _ us hl => match us, hl with | [_], _ => rfl) sc_is_stretch (fun ds m Q h => ?_) (fun cdv A outer s H E hr => ⟨_, (dss_one (ds_ret (de_and (de_call c_is_tuple_of hr (by decide) (by rfl) (da_cons (de_var 0) (da_cons de_int da_nil))) (de_and (de_call c_is_name hr (by decide) (by rfl) (da_cons (de_ix (de_var 0) de_int) da_nil)) (de_one (de_cmp dc_in (de_ix (de_var 0) de_int) (de_globR (by rfl) T.m_KINDS T.r_KINDS))))))), fun ds m Q h => ?_⟩)
  · obtain ⟨d, rfl, _⟩ := h; rfl
  · obtain ⟨d, rfl, ⟨hd, hf⟩, hO, q⟩ := h
    dsimp only [dRet, dSeq, dNext, dIfS, dSet, dExpr, dAndV, dOrV, dOp, dUn, dArgs, dCons, dNil, dTup, dC, dB, dNot, dAnd, dOr, dIf, dCall, dAsg, dPar, dChain, dMeth, dM1, dSl, dPart, dNoPart, dFmt, gD]
    refine dVar_at rfl ⟨d, 2, rfl, hd, _, rfl, ?_⟩
    rcases tup2 d with ⟨a, b, rfl⟩ | ⟨hn, ne⟩
    · obtain ⟨ha, hb, _⟩ := hd
      refine iteT (dVar_at rfl ⟨a, rfl, a, rfl, ha, hO, _, rfl, ?_⟩)
      have en : mStretch (.tup [a, b]) = (mName a && mKind b) := rfl
      rw [en] at q
      cases e1 : mName a with
      | true =>
        rw [e1, Bool.true_and] at q
        refine ifT rfl (dVar_at rfl ⟨b, rfl, _, .inr (.inl rfl), hf a b rfl, rfl, ?_⟩)
        show Q (.bl ([D.str "plain", D.str "points", D.str "crossing"].any fun x => eqFl x b)) m
        rw [kinds_any (hf a b rfl)]; exact q
      | false => rw [e1, Bool.false_and] at q; exact ifF rfl q
    · rw [mStretch_no ne] at q; exact ifF hn q

theorem c_is_joint {f : Addr} {fd : FuncData} (F : Fun K "is_joint" "is_joint" s_is_joint f fd) (hm : mg "is_joint" = some (.ref f)) (c_is_tuple_of : DCal P w K mg base 1 "is_tuple_of" (fun ds m Q => ∃ d n, ds = [d, .int n] ∧ ty d ∧ Q (.bl (mTupN d n)) m))(c_is_end : DCal P w K mg base 4 "is_end" (sp1 Ok ty mEnd)) : DCal P w K mg base 5 "is_joint" (sp1 Ok ty mJoint) := by
  refine dcal F hm (F.binds (ps := ["thing"]) fun _ _ _ _ _ _ us hl => match us, hl with | [_], _ => rfl) sc_is_joint (fun ds m Q h => ?_) (fun cdv A outer s H E hr => ⟨_, (dss_one (ds_ret (de_and (de_call c_is_tuple_of hr (by decide) (by rfl) (da_cons (de_var 0) (da_cons de_int da_nil))) (de_and (de_call c_is_end hr (by decide) (by rfl) (da_cons (de_ix (de_var 0) de_int) da_nil)) (de_one (de_call c_is_end hr (by decide) (by rfl) (da_cons (de_ix (de_var 0) de_int) da_nil))))))), fun ds m Q h => ?_⟩)
  · obtain ⟨d, rfl, _⟩ := h; rfl
  · obtain ⟨d, rfl, hd, hO, q⟩ := h
    dsimp only [dRet, dSeq, dNext, dIfS, dSet, dExpr, dAndV, dOrV, dOp, dUn, dArgs, dCons, dNil, dTup, dC, dB, dNot, dAnd, dOr, dIf, dCall, dAsg, dPar, dChain, dMeth, dM1, dSl, dPart, dNoPart, dFmt, gD]
    refine dVar_at rfl ⟨d, 2, rfl, hd, _, rfl, ?_⟩
    rcases tup2 d with ⟨a, b, rfl⟩ | ⟨hn, ne⟩
    · obtain ⟨ha, hb, _⟩ := hd
      refine iteT (dVar_at rfl ⟨a, rfl, a, rfl, ha, hO, _, rfl, ?_⟩)
      have en : mJoint (.tup [a, b]) = (mEnd a && mEnd b) := rfl
      rw [en] at q
      cases e1 : mEnd a with
      | true => rw [e1, Bool.true_and] at q; exact ifT rfl (dVar_at rfl ⟨b, rfl, b, rfl, hb, hO, q⟩)
      | false => rw [e1, Bool.false_and] at q; exact ifF rfl q
    · rw [mJoint_no ne] at q; exact ifF hn q

theorem c_is_gate {f : Addr} {fd : FuncData} (F : Fun K "is_gate" "is_gate" s_is_gate f fd) (hm : mg "is_gate" = some (.ref f)) (c_is_tuple_of : DCal P w K mg base 1 "is_tuple_of" (fun ds m Q => ∃ d n, ds = [d, .int n] ∧ ty d ∧ Q (.bl (mTupN d n)) m))(c_is_name : DCal P w K mg base 3 "is_name" (sp1 Ok ty mName))(c_is_end : DCal P w K mg base 4 "is_end" (sp1 Ok ty mEnd)) : DCal P w K mg base 5 "is_gate" (sp1 Ok ty mGate) := by
  refine dcal F hm (F.binds (ps := ["thing"]) fun _ _ _ _ _ _ us hl => match us, hl with | [_], _ => rfl) sc_is_gate (fun ds m Q h => ?_) (fun cdv A outer s H E hr => ⟨_, (dss_one (ds_ret (de_and (de_call c_is_tuple_of hr (by decide) (by rfl) (da_cons (de_var 0) (da_cons de_int da_nil))) (de_and (de_call c_is_name hr (by decide) (by rfl) (da_cons (de_ix (de_var 0) de_int) da_nil)) (de_one (de_call c_is_end hr (by decide) (by rfl) (da_cons (de_ix (de_var 0) de_int) da_nil))))))), fun ds m Q h => ?_⟩)
  · obtain ⟨d, rfl, _⟩ := h; rfl
  · obtain ⟨d, rfl, hd, hO, q⟩ := h
    dsimp only [dRet, dSeq, dNext, dIfS, dSet, dExpr, dAndV, dOrV, dOp, dUn, dArgs, dCons, dNil, dTup, dC, dB, dNot, dAnd, dOr, dIf, dCall, dAsg, dPar, dChain, dMeth, dM1, dSl, dPart, dNoPart, dFmt, gD]
    refine dVar_at rfl ⟨d, 2, rfl, hd, _, rfl, ?_⟩
    rcases tup2 d with ⟨a, b, rfl⟩ | ⟨hn, ne⟩
    · obtain ⟨ha, hb, _⟩ := hd
      refine iteT (dVar_at rfl ⟨a, rfl, a, rfl, ha, hO, _, rfl, ?_⟩)
      have en : mGate (.tup [a, b]) = (mName a && mEnd b) := rfl
      rw [en] at q
      cases e1 : mName a with
      | true => rw [e1, Bool.true_and] at q; exact ifT rfl (dVar_at rfl ⟨b, rfl, b, rfl, hb, hO, q⟩)
      | false => rw [e1, Bool.false_and] at q; exact ifF rfl q
    · rw [mGate_no ne] at q; exact ifF hn q

theorem c_is_overlap {f : Addr} {fd : FuncData} (F : Fun K "is_overlap" "is_overlap" s_is_overlap f fd) (hm : mg "is_overlap" = some (.ref f))  {a_step : Addr} (hm_step : mg "is_step" = some (.ref a_step)) (c_are_items_step : DCal P w K mg base 7 "are_items" (fun ds m Q => ∃ d, ds = [d, .ref a_step] ∧ ty d ∧ (∀ xs, d = .tup xs → ∀ x ∈ xs, ty x) ∧ Ok m ∧ Q (.bl (mAll mStep d)) m)) : DCal P w K mg base 8 "is_overlap" (sp1 Ok ty mOverlap) := by
  refine dcal F hm (F.binds (ps := ["thing"]) fun _ _ _ _ _ _ us hl => match us, hl with | [_], _ => rfl) sc_is_overlap (fun ds m Q h => ?_) (fun cdv A outer s H E hr => ⟨_, (dss_one (ds_ret (de_and (de_call c_are_items_step hr (by decide) (by rfl) (da_cons (de_var 0) (da_cons (de_globR (by rfl) hm_step (fun _ => .ref _)) da_nil))) (de_one (de_cmp dc_le (de_len (by rfl) T.len (da_cons (de_var 0) da_nil)) de_int))))), fun ds m Q h => ?_⟩)
  · obtain ⟨d, rfl, _⟩ := h; rfl
  · obtain ⟨d, rfl, hd, hO, q⟩ := h
    dsimp only [dRet, dSeq, dNext, dIfS, dSet, dExpr, dAndV, dOrV, dOp, dUn, dArgs, dCons, dNil, dTup, dC, dB, dNot, dAnd, dOr, dIf, dCall, dAsg, dPar, dChain, dMeth, dM1, dSl, dPart, dNoPart, dFmt, gD]
    refine dVar_at rfl ⟨d, rfl, hd, (fun xs e x hx => by subst e; exact tys_mem hd hx), hO, _, rfl, ?_⟩
    cases d with
    | tup xs =>
      have en : mOverlap (.tup xs) = (xs.all mStep && decide (xs.length ≤ 1)) := rfl
      rw [en] at q
      have ea : mAll mStep (.tup xs) = xs.all mStep := rfl
      rw [ea]
      cases e1 : xs.all mStep with
      | true =>
        rw [e1, Bool.true_and] at q
        refine ifT rfl (dVar_at rfl ⟨_, _, rfl, rfl, ?_⟩)
        have e2 : decide ((xs.length : Int) ≤ 1) = decide (xs.length ≤ 1) := by
          by_cases h : xs.length ≤ 1
          · rw [decide_eq_true h, decide_eq_true (by omega)]
          · rw [decide_eq_false h, decide_eq_false (by omega)]
        show Q (.bl (decide ((xs.length : Int) ≤ 1))) m
        rw [e2]; exact q
      | false => rw [e1, Bool.false_and] at q; exact ifF rfl q
    | _ => exact iteF q

theorem c_is_signal {f : Addr} {fd : FuncData} (F : Fun K "is_signal" "is_signal" s_is_signal f fd) (hm : mg "is_signal" = some (.ref f)) (c_is_tuple_of : DCal P w K mg base 1 "is_tuple_of" (fun ds m Q => ∃ d n, ds = [d, .int n] ∧ ty d ∧ Q (.bl (mTupN d n)) m))(c_is_gate : DCal P w K mg base 5 "is_gate" (sp1 Ok ty mGate))(c_is_overlap : DCal P w K mg base 8 "is_overlap" (sp1 Ok ty mOverlap)) : DCal P w K mg base 9 "is_signal" (sp1 Ok ty mSignal) := by
  refine dcal F hm (F.binds (ps := ["thing"]) fun _ _ _ _ _ _ us hl => match us, hl with | [_], _ => rfl) sc_is_signal (fun ds m Q h => ?_) (fun cdv A outer s H E hr => ⟨_, (dss_one (ds_ret (de_and (de_call c_is_tuple_of hr (by decide) (by rfl) (da_cons (de_var 0) (da_cons de_int da_nil))) (de_and (de_call c_is_gate hr (by decide) (by rfl) (da_cons (de_slice (de_var 0) dpo_none (dpo_some de_int)) da_nil)) (de_one (de_call c_is_overlap hr (by decide) (by rfl) (da_cons (de_ix (de_var 0) de_int) da_nil))))))), fun ds m Q h => ?_⟩)
  · obtain ⟨d, rfl, _⟩ := h; rfl
  · obtain ⟨d, rfl, hd, hO, q⟩ := h
    dsimp only [dRet, dSeq, dNext, dIfS, dSet, dExpr, dAndV, dOrV, dOp, dUn, dArgs, dCons, dNil, dTup, dC, dB, dNot, dAnd, dOr, dIf, dCall, dAsg, dPar, dChain, dMeth, dM1, dSl, dPart, dNoPart, dFmt, gD]
    refine dVar_at rfl ⟨d, 3, rfl, hd, _, rfl, ?_⟩
    rcases tup3 d with ⟨a, b, c, rfl⟩ | ⟨hn, ne⟩
    · obtain ⟨ha, hb, hc, _⟩ := hd
      refine iteT (dVar_at rfl ⟨_, rfl, ⟨(fun z => absurd z.2 (by show ¬ (2 : Nat) = 3; decide)), .tup [a, b], rfl, ⟨ha, hb, trivial⟩, hO, _, rfl, ?_⟩⟩)
      have en : mSignal (.tup [a, b, c]) = (mGate (.tup [a, b]) && mOverlap c) := rfl
      rw [en] at q
      cases e1 : mGate (.tup [a, b]) with
      | true => rw [e1, Bool.true_and] at q; exact ifT rfl (dVar_at rfl ⟨c, rfl, c, rfl, hc, hO, q⟩)
      | false => rw [e1, Bool.false_and] at q; exact ifF rfl q
    · rw [mSignal_no ne] at q; exact ifF hn q

theorem c_is_plan {f : Addr} {fd : FuncData} (F : Fun K "is_plan" "is_plan" s_is_plan f fd) (hm : mg "is_plan" = some (.ref f)) (c_is_tuple_of : DCal P w K mg base 1 "is_tuple_of" (fun ds m Q => ∃ d n, ds = [d, .int n] ∧ ty d ∧ Q (.bl (mTupN d n)) m)) {a_stretch : Addr} (hm_stretch : mg "is_stretch" = some (.ref a_stretch)) (c_are_items_stretch : DCal P w K mg base 6 "are_items" (fun ds m Q => ∃ d, ds = [d, .ref a_stretch] ∧ ty d ∧ (∀ xs, d = .tup xs → ∀ x ∈ xs, tyS x) ∧ Ok m ∧ Q (.bl (mAll mStretch d)) m)) {a_joint : Addr} (hm_joint : mg "is_joint" = some (.ref a_joint)) (c_are_items_joint : DCal P w K mg base 7 "are_items" (fun ds m Q => ∃ d, ds = [d, .ref a_joint] ∧ ty d ∧ (∀ xs, d = .tup xs → ∀ x ∈ xs, ty x) ∧ Ok m ∧ Q (.bl (mAll mJoint d)) m)) {a_gate : Addr} (hm_gate : mg "is_gate" = some (.ref a_gate)) (c_are_items_gate : DCal P w K mg base 7 "are_items" (fun ds m Q => ∃ d, ds = [d, .ref a_gate] ∧ ty d ∧ (∀ xs, d = .tup xs → ∀ x ∈ xs, ty x) ∧ Ok m ∧ Q (.bl (mAll mGate d)) m)) {a_signal : Addr} (hm_signal : mg "is_signal" = some (.ref a_signal)) (c_are_items_signal : DCal P w K mg base 11 "are_items" (fun ds m Q => ∃ d, ds = [d, .ref a_signal] ∧ ty d ∧ (∀ xs, d = .tup xs → ∀ x ∈ xs, ty x) ∧ Ok m ∧ Q (.bl (mAll mSignal d)) m)) : DCal P w K mg base 12 "is_plan" (sp1 Ok tyP mPlan) := by
  refine dcal F hm (F.binds (ps := ["thing"]) fun _ _ _ _ _ _ us hl => match us, hl with | [_], _ => rfl) sc_is_plan (fun ds m Q h => ?_) (fun cdv A outer s H E hr => ⟨_, (dss_cons (ds_if (dt_not (dt_val (de_call c_is_tuple_of hr (by decide) (by rfl) (da_cons (de_var 0) (da_cons de_int da_nil))))) (dss_one (ds_ret de_bl)) dss_nil)
      (dss_cons (ds_asg (de_var 0) (dg_tup rfl (dgs_cons (pg_name (i := 1) sc_is_plan.nd rfl (by first | exact Or.inl rfl | exact Or.inr rfl)) (dgs_cons (pg_name (i := 2) sc_is_plan.nd rfl (by first | exact Or.inl rfl | exact Or.inr rfl)) (dgs_cons (pg_name (i := 3) sc_is_plan.nd rfl (by first | exact Or.inl rfl | exact Or.inr rfl)) (dgs_cons (pg_name (i := 4) sc_is_plan.nd rfl (by first | exact Or.inl rfl | exact Or.inr rfl)) dgs_nil))))))
      (dss_cons (ds_if (dt_w (dw_or (dt_not (dt_val (de_call c_are_items_stretch hr (by decide) (by rfl) (da_cons (de_var 1) (da_cons (de_globR (by rfl) hm_stretch (fun _ => .ref _)) da_nil))))) (dw_or1 (dt_not (dt_val (de_call c_are_items_joint hr (by decide) (by rfl) (da_cons (de_var 2) (da_cons (de_globR (by rfl) hm_joint (fun _ => .ref _)) da_nil)))))))) (dss_one (ds_ret de_bl)) dss_nil)
      (dss_one (ds_ret (de_and (de_call c_are_items_gate hr (by decide) (by rfl) (da_cons (de_var 3) (da_cons (de_globR (by rfl) hm_gate (fun _ => .ref _)) da_nil))) (de_one (de_call c_are_items_signal hr (by decide) (by rfl) (da_cons (de_var 4) (da_cons (de_globR (by rfl) hm_signal (fun _ => .ref _)) da_nil)))))))))), fun ds m Q h => ?_⟩)
  · obtain ⟨d, rfl, _⟩ := h; rfl
  · obtain ⟨d, rfl, ⟨hd, hs⟩, hO, q⟩ := h
    dsimp only [dRet, dSeq, dNext, dIfS, dSet, dExpr, dAndV, dOrV, dOp, dUn, dArgs, dCons, dNil, dTup, dC, dB, dNot, dAnd, dOr, dIf, dCall, dAsg, dPar, dChain, dMeth, dM1, dSl, dPart, dNoPart, dFmt, gD]
    refine dVar_at rfl ⟨d, 4, rfl, hd, _, rfl, ?_⟩
    rcases tup4 d with ⟨a, b, c, e, rfl⟩ | ⟨hn, ne⟩
    · obtain ⟨ha, hb, hc, he, _⟩ := hd
      have hm : ∀ {x : D}, ty x → ∀ xs, x = .tup xs → ∀ y ∈ xs, ty y := fun h xs e y hy => by subst e; exact tys_mem h hy
      refine iteF (dVar_at rfl ⟨_, .inl rfl, rfl, ?_⟩)
      refine dVar_at rfl ⟨a, rfl, ha, (fun xs z y hy => ⟨hm ha xs z y hy, hs a b c e rfl xs z y hy⟩), hO, _, rfl, ?_⟩
      have en : mPlan (.tup [a, b, c, e]) = (mAll mStretch a && mAll mJoint b && (mAll mGate c && mAll mSignal e)) := rfl
      rw [en] at q
      cases e1 : mAll mStretch a with
      | false => rw [e1] at q; exact ifT rfl q
      | true =>
        rw [e1, Bool.true_and] at q
        refine ifF rfl (dVar_at rfl ⟨b, rfl, hb, hm hb, hO, _, rfl, ?_⟩)
        cases e2 : mAll mJoint b with
        | false => rw [e2] at q; exact ifT rfl q
        | true =>
          rw [e2, Bool.true_and] at q
          refine ifF rfl (dVar_at rfl ⟨c, rfl, hc, hm hc, hO, _, rfl, ?_⟩)
          cases e3 : mAll mGate c with
          | false => rw [e3] at q; exact ifF rfl q
          | true => rw [e3, Bool.true_and] at q; exact ifT rfl (dVar_at rfl ⟨e, rfl, he, hm he, hO, q⟩)
    · rw [mPlan_no ne] at q; exact ifT (by rw [hn]; rfl) q

end
end PR

namespace PR
open PySem PySem.Spec PyProof.Rows L2 GA GxR DL PL TM

section
variable {P : Program} {w : World} {K : PySem.W.Frag} {mg : Str → Option Value} {base : Heap} {tl td t8 t3 : Tok} {aK aO aE aP P1 P2 : Addr} (T : Txt K mg w tl td t8 t3 aK aO aE aP) (Ok : M → Prop) (hOk : ∀ a b : M, Ok a → b.gh = a.gh → Ok b)
include T hOk

theorem c_end_exists {f : Addr} {fd : FuncData} (F : Fun K "end_exists" "end_exists" s_end_exists f fd) (hm : mg "end_exists" = some (.ref f))  : DCal P w K mg base 1 "end_exists" spExists := by
  refine dcal F hm (F.binds (ps := ["kinds", "end"]) fun _ _ _ _ _ _ us hl => match us, hl with | [_, _], _ => rfl) sc_end_exists (fun ds m Q h => ?_) (fun cdv A outer s H E hr => ⟨_, (dss_cons (ds_asg (de_var 1) (dg_tup rfl (dgs_cons (pg_name (i := 2) sc_end_exists.nd rfl (by first | exact Or.inl rfl | exact Or.inr rfl)) (dgs_cons (pg_name (i := 3) sc_end_exists.nd rfl (by first | exact Or.inl rfl | exact Or.inr rfl)) dgs_nil))))
      (dss_one (ds_ret (de_and (de_din hr (de_var 2) (de_var 0)) (de_one (de_cmp dc_lt (de_var 3) (de_wix T.w_ENDS (de_globR (by rfl) T.m_ENDS (fun _ => .ref _)) (de_dget hr (de_var 0) (de_var 2))))))))), fun ds m Q h => ?_⟩)
  · obtain ⟨a, st, e, rfl, _⟩ := h; rfl
  · obtain ⟨a, st, e, rfl, hm, hk, q⟩ := h
    dsimp only [dRet, dSeq, dNext, dIfS, dSet, dExpr, dAsg, dPar, dPar3, gD, dOp, dUn, dArgs, dCons, dNil, dC, dB, dNot, dCall, dMeth, dMeth0, dIf, dLst, dTup, dSl, dNoPart, dPart, dM1, dOr, dAnd, dAndV, dOrV, dDGet, dSlA, dGet1]
    dsimp only [dDIn, dDGet]
    refine dVar_at rfl ⟨[.str e.1, .int e.2], .inl rfl, rfl, ?_⟩
    have g := getK hm e.1
    refine dVar_at rfl (dVar_at rfl ⟨a, _, rfl, g, _, rfl, ?_⟩)
    unfold endEx at q
    cases hka : kindAt st e.1 with
    | none => rw [hka] at q; exact ifF rfl q
    | some k =>
      rw [hka] at q g
      exact ifT rfl (dVar_at rfl (dVar_at rfl (dVar_at rfl ⟨a, _, rfl, g, k, _, rfl, rfl, endsL_in (hk _ (kindAt_ok hka)), bI q⟩)))

end
end PR

namespace PR
open PySem PySem.Spec PyProof.Rows L2 GA GxR DL PL TM

section
variable {P : Program} {w : World} {K : PySem.W.Frag} {mg : Str → Option Value} {base : Heap} {tl td t8 t3 : Tok} {aK aO aE aP P1 P2 : Addr} (T : Txt K mg w tl td t8 t3 aK aO aE aP) (Ok : M → Prop) (hOk : ∀ a b : M, Ok a → b.gh = a.gh → Ok b)
include T hOk

theorem c_fault {f : Addr} {fd : FuncData} (F : Fun K "fault" "fault" s_fault f fd) (hm : mg "fault" = some (.ref f)) (c_is_plan : DCal P w K mg base 12 "is_plan" (sp1 Ok tyP mPlan)) (c_repeated_name : DCal P w K mg base 1 "repeated_name" (spPl fun p => optS (dupGo [] p.nms))) (c_missing_end : DCal P w K mg base 2 "missing_end" (spPl fun p => optS (missEnd p))) (c_wrong_joint : DCal P w K mg base 1 "wrong_joint" (spPl fun p => optS (wjGo [] p.jo))) (c_wrong_place : DCal P w K mg base 2 "wrong_place" spPlace) (c_wrong_overlap : DCal P w K mg base 3 "wrong_overlap" (spPl fun p => optS (wrongOv p))) : DCal P w K mg base 13 "fault" (spPlT Ok fun p => optF (faultP p)) := by
  refine dcal F hm (F.binds (ps := ["plan"]) fun _ _ _ _ _ _ us hl => match us, hl with | [_], _ => rfl) sc_fault (fun ds m Q h => ?_) (fun cdv A outer s H E hr => ⟨_, (dss_cons (ds_if (dt_not (dt_val (de_call c_is_plan hr (by decide) (by rfl) (da_cons (de_var 0) da_nil)))) (dss_one ds_never) dss_nil)
      (dss_cons (ds_set (i := 1) sc_fault.nd rfl (by first | exact Or.inl rfl | exact Or.inr rfl) (de_tup (da_cons (de_tup (da_cons de_str (da_cons (de_call c_repeated_name hr (by decide) (by rfl) (da_cons (de_var 0) da_nil)) da_nil))) (da_cons (de_tup (da_cons de_str (da_cons (de_call c_missing_end hr (by decide) (by rfl) (da_cons (de_var 0) da_nil)) da_nil))) (da_cons (de_tup (da_cons de_str (da_cons (de_call c_wrong_joint hr (by decide) (by rfl) (da_cons (de_var 0) da_nil)) da_nil))) (da_cons (de_tup (da_cons de_str (da_cons (de_call c_wrong_place hr (by decide) (by rfl) (da_cons (de_var 0) (da_cons (de_ix (de_var 0) de_int) (da_cons de_bl da_nil)))) da_nil))) (da_cons (de_tup (da_cons de_str (da_cons (de_call c_wrong_place hr (by decide) (by rfl) (da_cons (de_var 0) (da_cons (de_ix (de_var 0) de_int) (da_cons de_bl da_nil)))) da_nil))) (da_cons (de_tup (da_cons de_str (da_cons (de_call c_wrong_overlap hr (by decide) (by rfl) (da_cons (de_var 0) da_nil)) da_nil))) da_nil))))))))
      (dss_cons (ds_for PassesOwn.never rfl (dpi_tup (de_var 1)) (dg_tup rfl (dgs_cons (pg_name (i := 2) sc_fault.nd rfl (by first | exact Or.inl rfl | exact Or.inr rfl)) (dgs_cons (pg_name (i := 3) sc_fault.nd rfl (by first | exact Or.inl rfl | exact Or.inr rfl)) dgs_nil))) (dss_one (ds_if (dt_cmp dc_notN (de_var 3) de_non) (dss_one (ds_ret (de_tup (da_cons (de_var 2) (da_cons (de_var 3) da_nil))))) dss_nil)))
      (dss_one (ds_ret de_non))))), fun ds m Q h => ?_⟩)
  · obtain ⟨p, rfl, _⟩ := h; rfl
  · obtain ⟨p, rfl, ⟨hp, hO⟩, q⟩ := h
    have b3 := hp.n3; have b4 := hp.n4
    dsimp only [dRet, dSeq, dNext, dIfS, dSet, dExpr, dAsg, dPar, dPar3, gD, dOp, dUn, dArgs, dCons, dNil, dC, dB, dNot, dCall, dMeth, dMeth0, dIf, dLst, dTup, dSl, dNoPart, dPart, dM1, dOr, dAnd, dAndV, dOrV, dDGet, dSlA, dGet1]
    dsimp only at q
    refine dVar_at rfl ⟨p.d, rfl, plan_ty hp, hO, _, rfl, ?_⟩
    rw [mPlan_ok hp]
    refine ifF rfl ?_
    refine dVar_at rfl ⟨p, rfl, hp, fun m1 E1 => ⟨slk (by simp), dVar_at rfl ⟨p, rfl, hp, fun m2 E2 => ⟨slk (by simp), dVar_at rfl ⟨p, rfl, hp, fun m3 E3 => ⟨slk (by simp), ?_⟩⟩⟩⟩⟩⟩
    refine dVar_at rfl (dVar_at rfl (SeqD.ix (.inl rfl) rfl ⟨p, false, gaI p.ga, by rw [gaI_d], hp, gaI_ok hp, by rw [gaI, List.length_map]; omega, fun m4 E4 => ⟨slk (by simp), ?_⟩⟩))
    refine dVar_at rfl (dVar_at rfl (SeqD.ix (.inl rfl) rfl ⟨p, true, siI p.si, by rw [siI_d], hp, siI_ok hp, by rw [siI, List.length_map]; omega, fun m5 E5 => ⟨slk (by simp), dVar_at rfl ⟨p, rfl, hp, fun m6 E6 => ⟨slk (by simp), slk (by simp), ?_⟩⟩⟩⟩))
    have E := ((((E1.trans E2).trans E3).trans E4).trans E5).trans E6
    rw [gaI_1, siI_1]
    have hq := q m6 E
    have key : ∀ (L : List (Str × Option Str)), firstTag L = faultP p → dFor (iT (dVar 1)) (.tup [2, 3]) (dIfS (dB (dOp (rdIsN true) (dVar 3) (dC .non))) (dRet (dTup (dCons (dVar 2) (dCons (dVar 3) dNil)))) dNext) { nx := fun δ m' => dRet (dC .non) { nx := fun _ m' => Q .non m', rt := Q } δ m', rt := Q } [some p.d, some (.tup (L.map tagD)), none, none] m6 := by
      intro L hL
      dsimp only [dFor, iT, dTup, dCons, dNil, dRet, dC]
      refine dVar_at rfl ⟨L.map tagD, .inl rfl, fun i δ m' => m' = m6 ∧ (∃ d2 d3, δ = [some p.d, some (.tup (L.map tagD)), d2, d3]) ∧ firstTag (L.drop i) = faultP p, ⟨rfl, ⟨_, _, rfl⟩, hL⟩, fun _ _ _ _ => trivial, ?_, ?_⟩
      · rintro i d δ m' hd ⟨rfl, ⟨d2, d3, rfl⟩, hR⟩
        obtain ⟨z, hz, rfl⟩ := map_get hd
        rw [drop_get hz] at hR
        obtain ⟨zw, zn⟩ := z
        refine ⟨[.str zw, optS zn], .inl rfl, rfl, ?_⟩
        dsimp only [dRet, dSeq, dNext, dIfS, dSet, dExpr, dAsg, dPar, dPar3, gD, dOp, dUn, dArgs, dCons, dNil, dC, dB, dNot, dCall, dMeth, dMeth0, dIf, dLst, dTup, dSl, dNoPart, dPart, dM1, dOr, dAnd, dAndV, dOrV, dDGet, dSlA, dGet1]
        cases zn with
        | none => exact dVar_at rfl ⟨_, rfl, ifF rfl ⟨rfl, ⟨_, _, rfl⟩, hR⟩⟩
        | some n =>
          refine dVar_at rfl ⟨_, rfl, ifT rfl (dVar_at rfl (dVar_at rfl ⟨slk (by simp), ?_⟩))⟩
          have hR : some (zw, n) = faultP p := hR
          rw [← hR] at hq; exact hq
      · rintro δ m' ⟨rfl, ⟨d2, d3, rfl⟩, hR⟩
        rw [List.length_map, List.drop_length] at hR
        have hR : none = faultP p := hR
        rw [← hR] at hq; exact hq
    exact key [("name", dupGo [] p.nms), ("end", missEnd p), ("joint", wjGo [] p.jo), ("gate", wpGo p.st p.jo false [] p.ga), ("signal", wpGo p.st p.jo true [] p.gs2), ("overlap", wrongOv p)] rfl

end
end PR

namespace PR
open PySem PySem.Spec PyProof.Rows L2 GA GxR DL PL TM

section
variable {P : Program} {w : World} {K : PySem.W.Frag} {mg : Str → Option Value} {base : Heap} {tl td t8 t3 : Tok} {aK aO aE aP P1 P2 : Addr} (T : Txt K mg w tl td t8 t3 aK aO aE aP) (Ok : M → Prop) (hOk : ∀ a b : M, Ok a → b.gh = a.gh → Ok b)
include T hOk

theorem c_fits_overlap {f : Addr} {fd : FuncData} (F : Fun K "fits_overlap" "fits_overlap" s_fits_overlap f fd) (hm : mg "fits_overlap" = some (.ref f)) (c_ways_of : DCal P w K mg base 1 "ways_of" spWays) : DCal P w K mg base 2 "fits_overlap" spFits := by
  refine dcal F hm (F.binds (ps := ["kinds", "beginning", "step"]) fun _ _ _ _ _ _ us hl => match us, hl with | [_, _, _], _ => rfl) sc_fits_overlap (fun ds m Q h => ?_) (fun cdv A outer s H E hr => ⟨_, (dss_cons (ds_set (i := 3) sc_fits_overlap.nd rfl (by first | exact Or.inl rfl | exact Or.inr rfl) (de_ix (de_var 2) de_int))
      (dss_cons (ds_if (dt_w (dw_or (dt_cmp (dc_ne hr) (de_sliceA (de_var 2) dpo_none (dpo_some de_int)) (de_var 1)) (dw_or1 (dt_cmp dc_notIn (de_get1 hr (de_var 0) (de_var 3)) (de_globR (by rfl) T.m_OVERLAP_KINDS T.r_OVERLAP_KINDS))))) (dss_one (ds_ret de_bl)) dss_nil)
      (dss_one (ds_ret (de_cmp (dc_inD hr) (de_var 2) (de_call c_ways_of hr (by decide) (by rfl) (da_cons (de_tup (da_cons (de_var 3) (da_cons (de_dget hr (de_var 0) (de_var 3)) da_nil))) da_nil))))))), fun ds m Q h => ?_⟩)
  · obtain ⟨a, st, o, t, rfl, _⟩ := h; rfl
  · obtain ⟨a, st, o, t, rfl, hm, hk, ht, ho, q⟩ := h
    dsimp only [dRet, dSeq, dNext, dIfS, dSet, dExpr, dAsg, dPar, dPar3, gD, dOp, dUn, dArgs, dCons, dNil, dC, dB, dNot, dCall, dMeth, dMeth0, dIf, dLst, dTup, dSl, dNoPart, dPart, dM1, dOr, dAnd, dAndV, dOrV, dDGet, dSlA, dGet1]
    have g := getK hm t.1
    have hF : endOk (t.1, t.2.1) := ⟨ht.1, ht.2.1⟩
    refine dVar_at rfl (SeqD.ix (.inl rfl) rfl (dVar_at rfl ⟨2, rfl, step_cut (dVar_at rfl (neE (e := (t.1, t.2.1)) hF ho ⟨_, rfl, iff_T (fun hc => ?_) fun h1 => ?_⟩))⟩))
    · have hc : ¬ o = some (t.1, t.2.1) := by simpa using hc
      have e : fitsOv st o t = false := by unfold fitsOv; rw [decide_eq_false hc]; rfl
      have := q m (Ext.refl m)
      rw [e] at this
      exact ifT rfl this
    · have h1 : o = some (t.1, t.2.1) := by simpa using h1
      refine dVar_at rfl ⟨a, rfl, .inl ⟨_, hm⟩, dVar_at rfl ⟨_, g, ?_⟩⟩
      rw [optS_get]
      refine notOv ⟨_, rfl, iff_T (fun hc => ?_) fun h2 => ?_⟩
      · have e : fitsOv st o t = false := by
          unfold fitsOv
          rw [decide_eq_true h1, Bool.true_and]
          unfold ovKind at hc
          cases z : kindAt st t.1 with
          | none => rfl
          | some k =>
            rw [z] at hc
            simp only [Option.some.injEq, Bool.not_eq_true'] at hc
            dsimp only
            rw [hc]; rfl
        have := q m (Ext.refl m)
        rw [e] at this
        exact this
      · cases z : kindAt st t.1 with
        | none => rw [z] at h2; simp [ovKind] at h2
        | some k =>
          rw [z] at h2 g
          have hkk := hk _ (kindAt_ok z)
          refine dVar_at rfl (dVar_at rfl (dVar_at rfl (dVar_at rfl ⟨a, _, rfl, g, slk (by simp), t.1, k, rfl, hkk, fun b m' hb hE hm' => ?_⟩)))
          refine inWays ht hm' ?_
          have e : fitsOv st o t = decide ((t.2.1, t.2.2) ∈ waysK k) := by
            unfold fitsOv
            rw [decide_eq_true h1, Bool.true_and, z]
            unfold ovKind at h2
            simp only [Option.some.injEq, Bool.not_eq_false'] at h2
            dsimp only
            rw [h2, Bool.true_and]
          rw [← e]
          exact q m' hE

end
end PR

namespace PR
open PySem PySem.Spec PyProof.Rows L2 GA GxR DL PL TM

section
variable {P : Program} {w : World} {K : PySem.W.Frag} {mg : Str → Option Value} {base : Heap} {tl td t8 t3 : Tok} {aK aO aE aP P1 P2 : Addr} (T : Txt K mg w tl td t8 t3 aK aO aE aP) (Ok : M → Prop) (hOk : ∀ a b : M, Ok a → b.gh = a.gh → Ok b)
include T hOk

theorem c_is_checked {f : Addr} {fd : FuncData} (F : Fun K "is_checked" "is_checked" s_is_checked f fd) (hm : mg "is_checked" = some (.ref f)) (c_fault : DCal P w K mg base 13 "fault" (spPlT Ok fun p => optF (faultP p))) : DCal P w K mg base 14 "is_checked" (spPlT Ok fun p => .bl (faultP p).isNone) := by
  refine dcal F hm (F.binds (ps := ["plan"]) fun _ _ _ _ _ _ us hl => match us, hl with | [_], _ => rfl) sc_is_checked (fun ds m Q h => ?_) (fun cdv A outer s H E hr => ⟨_, (dss_one (ds_ret (de_cmp dc_isN (de_call c_fault hr (by decide) (by rfl) (da_cons (de_var 0) da_nil)) de_non))), fun ds m Q h => ?_⟩)
  · obtain ⟨p, rfl, _⟩ := h; rfl
  · obtain ⟨p, rfl, hp, q⟩ := h
    dsimp only [dRet, dSeq, dNext, dIfS, dSet, dExpr, dAsg, dPar, dPar3, gD, dOp, dUn, dArgs, dCons, dNil, dC, dB, dNot, dCall, dMeth, dMeth0, dIf, dLst, dTup, dSl, dNoPart, dPart, dM1, dOr, dAnd, dAndV, dOrV, dDGet, dSlA, dGet1]
    dsimp only at q
    refine dVar_at rfl ⟨p, rfl, hp, fun m' hE => ?_⟩
    have hq := q m' hE
    show rdIsN false (optF (faultP p)) .non m' Q
    cases hf : faultP p with
    | none => rw [hf] at hq; exact hq
    | some f => rw [hf] at hq; exact hq

end
end PR

namespace PR
open PySem PySem.Spec PyProof.Rows L2 GA GxR DL PL TM

section
variable {P : Program} {w : World} {K : PySem.W.Frag} {mg : Str → Option Value} {base : Heap} {tl td t8 t3 : Tok} {aK aO aE aP P1 P2 : Addr} (T : Txt K mg w tl td t8 t3 aK aO aE aP) (Ok : M → Prop) (hOk : ∀ a b : M, Ok a → b.gh = a.gh → Ok b)
include T hOk

theorem c_kinds_of {f : Addr} {fd : FuncData} (F : Fun K "kinds_of" "kinds_of" s_kinds_of f fd) (hm : mg "kinds_of" = some (.ref f))  : DCal P w K mg base 1 "kinds_of" spKinds := by
  refine dcal F hm (F.binds (ps := ["plan"]) fun _ _ _ _ _ _ us hl => match us, hl with | [_], _ => rfl) sc_kinds_of (fun ds m Q h => ?_) (fun cdv A outer s H E hr => ⟨_, (dss_one (ds_ret (de_dc (own := [("name", 1), ("kind", 2)]) rfl sc_kinds_of.nd (dpi_tup (de_ix (de_var 0) de_int)) (blkOk_by (N := ["plan", "name", "kind"]) (sc := defScope s_kinds_of) (by decide +kernel)) (fun _ _ _ _ _ => (dg_tup rfl (dgs_cons (pg_name (i := 1) sc_kinds_of.nd rfl (by first | exact Or.inl rfl | exact Or.inr rfl)) (dgs_cons (pg_name (i := 2) sc_kinds_of.nd rfl (by first | exact Or.inl rfl | exact Or.inr rfl)) dgs_nil)))) (fun _ _ _ _ _ => dpts_nil) (fun _ _ _ _ _ => (de_var 1)) (fun _ _ _ _ _ => (de_var 2))))), fun ds m Q h => ?_⟩)
  · obtain ⟨p, rfl, _⟩ := h; rfl
  · obtain ⟨p, rfl, hp, q⟩ := h
    dsimp only [dRet, dSeq, dNext, dIfS, dSet, dExpr, dAsg, dPar, dPar3, gD, dOp, dUn, dArgs, dCons, dNil, dC, dB, dNot, dCall, dMeth, dMeth0, dIf, dLst, dTup, dSl, dNoPart, dPart, dM1, dOr, dAnd, dAndV, dOrV, dDGet, dSlA, dGet1]
    refine dDC_gen (xs := p.st.map strD) kfS vfS (iT_w fun R hR => ?_) (by rw [List.length_map]; have := hp.n1; omega) (fun d hd m' _ Ry Rn hy => ?_) (fun a m' ha hE hm => ?_)
    · dsimp only [dRet, dSeq, dNext, dIfS, dSet, dExpr, dAsg, dPar, dPar3, gD, dOp, dUn, dArgs, dCons, dNil, dC, dB, dNot, dCall, dMeth, dMeth0, dIf, dLst, dTup, dSl, dNoPart, dPart, dM1, dOr, dAnd, dAndV, dOrV, dDGet, dSlA, dGet1]
      exact dVar_at rfl (SeqD.ix (.inl rfl) rfl hR)
    · obtain ⟨s, _, rfl⟩ := List.mem_map.mp hd
      dsimp only [dRet, dSeq, dNext, dIfS, dSet, dExpr, dAsg, dPar, dPar3, gD, dOp, dUn, dArgs, dCons, dNil, dC, dB, dNot, dCall, dMeth, dMeth0, dIf, dLst, dTup, dSl, dNoPart, dPart, dM1, dOr, dAnd, dAndV, dOrV, dDGet, dSlA, dGet1]
      exact ⟨[.str s.1, .str s.2], .inl rfl, rfl, yesT (dVar_at rfl (dVar_at rfl hy))⟩
    · refine q a m' ha hE ?_
      rw [hm, List.foldl_map]; rfl

end
end PR

namespace PR
open PySem PySem.Spec PyProof.Rows L2 GA GxR DL PL TM

section
variable {P : Program} {w : World} {K : PySem.W.Frag} {mg : Str → Option Value} {base : Heap} {tl td t8 t3 : Tok} {aK aO aE aP P1 P2 : Addr} (T : Txt K mg w tl td t8 t3 aK aO aE aP) (Ok : M → Prop) (hOk : ∀ a b : M, Ok a → b.gh = a.gh → Ok b)
include T hOk

theorem c_law_checked {f : Addr} {fd : FuncData} (F : Fun K "_law_checked" "_law_checked" s_law_checked f fd) (hm : mg "_law_checked" = some (.ref f)) (c_law_draw : DCal P w K mg base 1 "_law_draw" spDrawG) (c_law_pick : DCal P w K mg base 2 "_law_pick" spPick) (c_law_name : DCal P w K mg base 3 "_law_name" spName) (c_law_over : DCal P w K mg base 2 "_law_over" spOver2) (c_law_joints : DCal P w K mg base 3 "_law_joints" spJoints2) : DCal P w K mg base 4 "_law_checked" spChecked2 := by
  refine dcal F hm (F.binds (ps := ["deck", "used", "most"]) fun _ _ _ _ _ _ us hl => match us, hl with | [_, _, _], _ => rfl) sc_law_checked (fun ds m Q h => ?_) (fun cdv A outer s H E hr => ⟨_, (dss_cons (ds_asg (de_tup (da_cons (de_disp (.cons de_int (.cons de_int (.cons de_int .nil)))) (da_cons de_newK (da_cons (de_lst da_nil) (da_cons de_newT da_nil))))) (dg_tup rfl (dgs_cons (pg_name (i := 6) sc_law_checked.nd rfl (by first | exact Or.inl rfl | exact Or.inr rfl)) (dgs_cons (pg_name (i := 7) sc_law_checked.nd rfl (by first | exact Or.inl rfl | exact Or.inr rfl)) (dgs_cons (pg_name (i := 5) sc_law_checked.nd rfl (by first | exact Or.inl rfl | exact Or.inr rfl)) (dgs_cons (pg_name (i := 8) sc_law_checked.nd rfl (by first | exact Or.inl rfl | exact Or.inr rfl)) dgs_nil))))))
      (dss_cons (ds_par3 rfl sc_law_checked.nd (i := 9) (j := 10) (l := 11) rfl rfl rfl (by decide) (by decide) (by decide) rfl rfl rfl (da_cons (de_lst da_nil) (da_cons (de_lst da_nil) (da_cons (de_lst da_nil) da_nil))) (by rfl))
      (dss_cons (ds_for PassesOwn.never rfl (dpi_range (by rfl) T.range (de_call c_law_draw hr (by decide) (by rfl) (da_cons (de_var 0) (da_cons (de_add (de_var 2) de_int) da_nil)))) (dg_name (i := 3) sc_law_checked.nd rfl (by first | exact Or.inl rfl | exact Or.inr rfl)) (dss_cons (ds_set (i := 12) sc_law_checked.nd rfl (by first | exact Or.inl rfl | exact Or.inr rfl) (de_call c_law_pick hr (by decide) (by rfl) (da_cons (de_var 0) (da_cons (de_lst (da_cons de_str (da_cons de_str (da_cons de_str (da_cons de_str (da_cons de_str (da_cons de_str da_nil))))))) da_nil))))
      (dss_cons (ds_set (i := 13) sc_law_checked.nd rfl (by first | exact Or.inl rfl | exact Or.inr rfl) (de_call c_law_name hr (by decide) (by rfl) (da_cons (de_var 0) (da_cons (de_var 1) da_nil))))
      (dss_cons (ds_expr (de_append (de_var 9) (de_tup (da_cons (de_var 13) (da_cons (de_var 12) da_nil)))))
      (dss_cons (ds_dput hr (de_var 7) (de_var 13) (de_var 12))
      (dss_one (ds_set (i := 5) sc_law_checked.nd rfl (by first | exact Or.inl rfl | exact Or.inr rfl) (de_add (de_var 5) (de_lc (own := [("end", 14)]) rfl sc_law_checked.nd (dpi_range (by rfl) T.range (de_dget hr (de_var 6) (de_var 12))) (blkOk_by (N := ["deck", "used", "most", "turn", "joints", "free", "many", "kinds", "joined", "stretches", "gates", "signals", "kind", "name", "end"]) (sc := defScope s_law_checked) (by decide +kernel)) (fun _ _ _ _ _ => (dg_name (i := 14) sc_law_checked.nd rfl (by first | exact Or.inl rfl | exact Or.inr rfl))) (fun _ _ _ _ _ => dpts_nil) (fun _ _ _ _ _ => (de_tup (da_cons (de_var 13) (da_cons (de_var 14) da_nil)))))))))))))
      (dss_cons (ds_set (i := 4) sc_law_checked.nd rfl (by first | exact Or.inl rfl | exact Or.inr rfl) (de_call c_law_joints hr (by decide) (by rfl) (da_cons (de_var 0) (da_cons (de_var 5) (da_cons (de_var 8) da_nil)))))
      (dss_cons (ds_setLc (i := 5) (own := [("end", 14)]) rfl sc_law_checked.nd rfl rfl (sw_true rfl rfl rfl (by decide +kernel)) (dpi_list (de_var 5)) (blkOk_by (N := ["deck", "used", "most", "turn", "joints", "free", "many", "kinds", "joined", "stretches", "gates", "signals", "kind", "name", "end"]) (sc := defScope s_law_checked) (by decide +kernel)) (fun _ _ _ _ _ => (dg_name (i := 14) sc_law_checked.nd rfl (by first | exact Or.inl rfl | exact Or.inr rfl))) (fun _ _ _ _ _ => (dpts_one (dt_cmp (dc_eq hr) (de_dget hr (de_var 7) (de_ix (de_var 14) de_int)) de_str))) (fun _ _ _ _ _ => (de_var 14)))
      (dss_cons (ds_for PassesOwn.never rfl (dpi_range (by rfl) T.range (de_call c_law_draw hr (by decide) (by rfl) (da_cons (de_var 0) (da_cons de_int da_nil)))) (dg_name (i := 3) sc_law_checked.nd rfl (by first | exact Or.inl rfl | exact Or.inr rfl)) (dss_one (ds_if (dt_cmp (dc_ne hr) (de_var 5) (de_lst da_nil)) (dss_one (ds_expr (de_append (de_var 10) (de_tup (da_cons (de_call c_law_name hr (by decide) (by rfl) (da_cons (de_var 0) (da_cons (de_var 1) da_nil))) (da_cons (de_popAt (de_var 5) (de_call c_law_draw hr (by decide) (by rfl) (da_cons (de_var 0) (da_cons (de_len (by rfl) T.len (da_cons (de_var 5) da_nil)) da_nil)))) da_nil)))))) dss_nil)))
      (dss_cons (ds_lock (n := 8) (ds_setLc (i := 5) (own := [("end", 14)]) rfl sc_law_checked.nd rfl rfl (sw_true rfl rfl rfl (by decide +kernel)) (dpi_keys (n := 8) (pe_var rfl (by first | exact Or.inl rfl | exact Or.inr (Or.inl rfl) | exact Or.inr (Or.inr rfl)))) (blkOk_by (N := ["deck", "used", "most", "turn", "joints", "free", "many", "kinds", "joined", "stretches", "gates", "signals", "kind", "name", "end"]) (sc := defScope s_law_checked) (by decide +kernel)) (fun _ _ _ _ _ => (dg_name (i := 14) sc_law_checked.nd rfl (by first | exact Or.inl rfl | exact Or.inr rfl))) (fun _ _ _ _ _ => (dpts_one (dt_cmp (dc_eq hr) (de_dget hr (de_var 7) (de_ix (de_var 14) de_int)) de_str))) (fun _ _ _ _ _ => (de_var 14))))
      (dss_cons (ds_for PassesOwn.never rfl (dpi_range (by rfl) T.range (de_call c_law_draw hr (by decide) (by rfl) (da_cons (de_var 0) (da_cons de_int da_nil)))) (dg_name (i := 3) sc_law_checked.nd rfl (by first | exact Or.inl rfl | exact Or.inr rfl)) (dss_one (ds_if (dt_cmp (dc_ne hr) (de_var 5) (de_lst da_nil)) (dss_cons (ds_set (i := 14) sc_law_checked.nd rfl (by first | exact Or.inl rfl | exact Or.inr rfl) (de_popAt (de_var 5) (de_call c_law_draw hr (by decide) (by rfl) (da_cons (de_var 0) (da_cons (de_len (by rfl) T.len (da_cons (de_var 5) da_nil)) da_nil)))))
      (dss_one (ds_expr (de_append (de_var 11) (de_tup (da_cons (de_call c_law_name hr (by decide) (by rfl) (da_cons (de_var 0) (da_cons (de_var 1) da_nil))) (da_cons (de_var 14) (da_cons (de_call c_law_over hr (by decide) (by rfl) (da_cons (de_var 0) (da_cons (de_var 7) (da_cons (de_dget hr (de_var 8) (de_var 14)) da_nil)))) da_nil)))))))) dss_nil)))
      (dss_one (ds_ret (de_tup (da_cons (de_bty call_tuple_of argl_tuple (by rfl) T.tuple (by decide +kernel) (da_cons (de_var 9) da_nil)) (da_cons (de_bty call_tuple_of argl_tuple (by rfl) T.tuple (by decide +kernel) (da_cons (de_var 4) da_nil)) (da_cons (de_bty call_tuple_of argl_tuple (by rfl) T.tuple (by decide +kernel) (da_cons (de_var 10) da_nil)) (da_cons (de_bty call_tuple_of argl_tuple (by rfl) T.tuple (by decide +kernel) (da_cons (de_var 11) da_nil)) da_nil))))))))))))))), fun ds m Q h => ?_⟩)
  · obtain ⟨d, u, us, k, rfl, _⟩ := h; rfl
  · obtain ⟨d, u, us0, k, rfl, hd, hu, hl0, hk12, q⟩ := h
    dsimp only [dRet, dSeq, dNext, dIfS, dSet, dExpr, dAsg, dPar, dPar3, gD, dOp, dUn, dArgs, dCons, dNil, dC, dB, dNot, dCall, dMeth, dMeth0, dIf, dLst, dTup, dSl, dNoPart, dPart, dM1, dOr, dAnd, dAndV, dOrV, dDGet, dSlA, dGet1]
    refine dDisp_many fun pm hpm => ?_
    dsimp only [dNewK, dNewT]
    have EA : Ext m ((m.set pm (.dic [])).set pm (.dic manyD)) := (Ext.new hpm).set hpm
    have v0 : ∀ a ∈ [u], m.mu a ≠ none := fun a ha => by rw [List.mem_singleton.mp ha, hu]; exact fun z => by cases z
    have ndA := nd_add (o := .dic []) (by simp : [u].Nodup) v0 hpm
    have vA : ∀ a ∈ [u] ++ [pm], ((m.set pm (.dic [])).set pm (.dic manyD)).mu a ≠ none := fun a ha => by
      by_cases z : a = pm
      · subst z; rw [M.set_same]; exact fun z => by cases z
      · rw [M.set_ne z]; exact ndA.2 a ha
    have mA : ((m.set pm (.dic [])).set pm (.dic manyD)).mu pm = some (.dic manyD) := M.set_same
    generalize (m.set pm (.dic [])).set pm (.dic manyD) = m1 at EA vA mA ⊢
    intro pk hpk
    have ndB := nd_add (o := .dic (strKV [])) ndA.1 vA hpk
    have EB := Ext.new (o := .dic (strKV [])) hpk
    have kB : (m1.set pk (.dic (strKV []))).mu pk = _ := M.set_same
    have eqB : m1.set pk (.dic []) = m1.set pk (.dic (strKV [])) := rfl
    rw [eqB]
    generalize m1.set pk (.dic (strKV [])) = m2 at EB ndB kB ⊢
    refine ⟨slk (by simp), fun pf hpf => ?_⟩
    have ndC := nd_add (o := .lst []) ndB.1 ndB.2 hpf
    have EC := Ext.new (o := .lst []) hpf
    have fC : (m2.set pf (.lst [])).mu pf = _ := M.set_same
    generalize m2.set pf (.lst []) = m3 at EC ndC fC ⊢
    intro pj hpj
    have ndD := nd_add (o := .dit []) ndC.1 ndC.2 hpj
    have ED := Ext.new (o := .dit []) hpj
    have jD : (m3.set pj (.dit [])).mu pj = _ := M.set_same
    generalize m3.set pj (.dit []) = m4 at ED ndD jD ⊢
    refine ⟨slk (by simp), [.ref pm, .ref pk, .ref pf, .ref pj], .inl rfl, rfl, slk (by simp), fun ps hps => ?_⟩
    have ndE := nd_add (o := .lst []) ndD.1 ndD.2 hps
    have EE := Ext.new (o := .lst []) hps
    have sE : (m4.set ps (.lst [])).mu ps = _ := M.set_same
    generalize m4.set ps (.lst []) = m5 at EE ndE sE ⊢
    refine ⟨slk (by simp), fun pg hpg => ?_⟩
    have ndF := nd_add (o := .lst []) ndE.1 ndE.2 hpg
    have EF := Ext.new (o := .lst []) hpg
    have gF : (m5.set pg (.lst [])).mu pg = _ := M.set_same
    generalize m5.set pg (.lst []) = m6 at EF ndF gF ⊢
    refine ⟨slk (by simp), fun pi hpi => ?_⟩
    have ndG := nd_add (o := .lst []) ndF.1 ndF.2 hpi
    have EG := Ext.new (o := .lst []) hpi
    have iG : (m6.set pi (.lst [])).mu pi = _ := M.set_same
    generalize m6.set pi (.lst []) = m7 at EG ndG iG ⊢
    have nd := ndG.1
    have E7 := (((((EA.trans EB).trans EC).trans ED).trans EE).trans EF).trans EG
    have N : ∀ (i j : Nat) (a b : Addr), ([u, pm, pk, pf, pj, ps, pg, pi] : List Addr)[i]? = some a → ([u, pm, pk, pf, pj, ps, pg, pi] : List Addr)[j]? = some b → i ≠ j → a ≠ b := fun i j a b h1 h2 h3 => nd_ne nd h1 h2 h3
    have nupm : pm ≠ u := N 1 0 _ _ rfl rfl (by decide)
    have nupk : pk ≠ u := N 2 0 _ _ rfl rfl (by decide)
    have nupj : pj ≠ u := N 4 0 _ _ rfl rfl (by decide)
    have nups : ps ≠ u := N 5 0 _ _ rfl rfl (by decide)
    have nupg : pg ≠ u := N 6 0 _ _ rfl rfl (by decide)
    have nupi : pi ≠ u := N 7 0 _ _ rfl rfl (by decide)
    have nsm : pm ≠ ps := N 1 5 _ _ rfl rfl (by decide)
    have nsk : pk ≠ ps := N 2 5 _ _ rfl rfl (by decide)
    have nsj : pj ≠ ps := N 4 5 _ _ rfl rfl (by decide)
    have nsg : pg ≠ ps := N 6 5 _ _ rfl rfl (by decide)
    have nsi : pi ≠ ps := N 7 5 _ _ rfl rfl (by decide)
    have nkm : pm ≠ pk := N 1 2 _ _ rfl rfl (by decide)
    have nkj : pj ≠ pk := N 4 2 _ _ rfl rfl (by decide)
    have nkg : pg ≠ pk := N 6 2 _ _ rfl rfl (by decide)
    have nki : pi ≠ pk := N 7 2 _ _ rfl rfl (by decide)
    have njm : pm ≠ pj := N 1 4 _ _ rfl rfl (by decide)
    have njg : pg ≠ pj := N 6 4 _ _ rfl rfl (by decide)
    have nji : pi ≠ pj := N 7 4 _ _ rfl rfl (by decide)
    have ngi : pi ≠ pg := N 7 6 _ _ rfl rfl (by decide)
    have ngm : pm ≠ pg := N 1 6 _ _ rfl rfl (by decide)
    have nim : pm ≠ pi := N 1 7 _ _ rfl rfl (by decide)
    have fr : ∀ {x y : M} {p : Addr}, Ext x y → y.mu p = none → x.mu p = none := fun {x y p} hE hp => by
      cases e : x.mu p with
      | none => rfl
      | some o => rw [hE.old _ _ e] at hp; cases hp
    have frC : ∀ {y : M} {p : Addr} {o : DO}, Chg u m y → y.mu u = some o → y.mu p = none → m.mu p = none := fun {y p o} hE hu' hp => by
      cases e : m.mu p with
      | none => rfl
      | some o' => rw [hE.old _ _ (fun z => by subst z; rw [hu'] at hp; cases hp) e] at hp; cases hp
    have f_pk : m.mu pk = none := fr EA hpk
    have f_pj : m.mu pj = none := fr ((EA.trans EB).trans EC) hpj
    have f_ps : m.mu ps = none := fr (((EA.trans EB).trans EC).trans ED) hps
    have f_pg : m.mu pg = none := fr ((((EA.trans EB).trans EC).trans ED).trans EE) hpg
    have f_pi : m.mu pi = none := fr (((((EA.trans EB).trans EC).trans ED).trans EE).trans EF) hpi
    refine ⟨_, _, _, rfl, ?_⟩
    refine dFor_draw (n := (k : Int) + 1) (by omega) (by intro R hR; dsimp only [dRet, dSeq, dNext, dIfS, dSet, dExpr, dAsg, dPar, dPar3, gD, dOp, dUn, dArgs, dCons, dNil, dC, dB, dNot, dCall, dMeth, dMeth0, dIf, dLst, dTup, dSl, dNoPart, dPart, dM1, dOr, dAnd, dAndV, dOrV, dDGet, dSlA, dGet1]; exact dVar_at rfl (dVar_at rfl (aI (drw (hd.ext E7.gh) (by omega) (by omega) hR)))) (fun i δ m' => ∃ (kvs : List (Str × Str)) (es : List PL.End) (pf : Addr) (d3 d12 d13 d14 : Option D),
      δ = [some d, some (.ref u), some (.int k), d3, none, some (.ref pf), some (.ref pm), some (.ref pk), some (.ref pj), some (.ref ps), some (.ref pg), some (.ref pi), d12, d13, d14] ∧ Chg u m m' ∧
      m'.mu u = some (.lst ((us0 ++ kvs.map (·.1)).map D.str)) ∧ m'.mu pm = some (.dic manyD) ∧ m'.mu pk = some (.dic (strKV kvs)) ∧ m'.mu pj = some (.dit []) ∧ m'.mu ps = some (.lst (kvs.map strD)) ∧ m'.mu pg = some (.lst []) ∧ m'.mu pi = some (.lst []) ∧ m'.mu pf = some (.lst (es.map endD)) ∧
      (pf ≠ u ∧ pf ≠ pk ∧ pf ≠ pj ∧ pf ≠ ps ∧ pf ≠ pg ∧ pf ≠ pi ∧ m.mu pf = none) ∧ NV us0 (us0 ++ kvs.map (·.1)) (kvs.map (·.1)) ∧ kvs.length = i ∧ (∀ p ∈ kvs, strOk' p) ∧ (∀ e ∈ es, KE kvs e) ∧ es.length ≤ 4 * i ∧ es = stEnds kvs) ?_ ?_ ?_
    · refine ⟨[], [], pf, _, _, _, _, rfl, E7.chg u, by rw [E7.old _ _ hu]; simp, ?_, ?_, ?_, ?_, ?_, iG, ?_, ⟨N 3 0 _ _ rfl rfl (by decide), N 3 2 _ _ rfl rfl (by decide), N 3 4 _ _ rfl rfl (by decide), N 3 5 _ _ rfl rfl (by decide), N 3 6 _ _ rfl rfl (by decide), N 3 7 _ _ rfl rfl (by decide), fr (EA.trans EB) hpf⟩, by simpa using NV.init us0, rfl, by simp, by simp, by simp, rfl⟩
      · exact (((((EB.trans EC).trans ED).trans EE).trans EF).trans EG).old _ _ mA
      · exact ((((EC.trans ED).trans EE).trans EF).trans EG).old _ _ kB
      · exact ((EE.trans EF).trans EG).old _ _ jD
      · exact (EF.trans EG).old _ _ sE
      · exact EG.old _ _ gF
      · exact (((ED.trans EE).trans EF).trans EG).old _ _ fC
    · rintro i δ m' hi ⟨kvs, es, pf', d3, d12, d13, d14, rfl, hC, h1, h2, h3, h4, h5, h6, h7, h8, ⟨x1, x2, x3, x4, x5, x6, xm⟩, hnv, hkl, hst, hes, hesl, heq⟩
      have hnd := hnv.nd
      dsimp only [dRet, dSeq, dNext, dIfS, dSet, dExpr, dAsg, dPar, dPar3, gD, dOp, dUn, dArgs, dCons, dNil, dC, dB, dNot, dCall, dMeth, dMeth0, dIf, dLst, dTup, dSl, dNoPart, dPart, dM1, dOr, dAnd, dAndV, dOrV, dDGet, dSlA, dGet1]
      have hdk := hd.ext hC.gh
      refine dVar_at rfl ⟨slk (by simp), fun p hp => pk' (l := ["plain", "plain", "plain", "points", "points", "crossing"]) (hdk.ext rfl) M.set_same (by simp) (by simp) fun kind hkind => ?_⟩
      have hkS := kinds6 kind hkind
      have E1 := Ext.new (o := .lst ((["plain", "plain", "plain", "points", "points", "crossing"] : List Str).map D.str)) hp
      have a1 := E1.old _ _ h1; have a2 := E1.old _ _ h2; have a3 := E1.old _ _ h3; have a4 := E1.old _ _ h4; have a5 := E1.old _ _ h5; have a6 := E1.old _ _ h6; have a7 := E1.old _ _ h7; have a8 := E1.old _ _ h8
      have C1 := hC.ext E1
      have eq1 : m'.set p (.lst [.str "plain", .str "plain", .str "plain", .str "points", .str "points", .str "crossing"]) = m'.set p (.lst ((["plain", "plain", "plain", "points", "points", "crossing"] : List Str).map D.str)) := rfl
      rw [eq1]
      generalize m'.set p (.lst ((["plain", "plain", "plain", "points", "points", "crossing"] : List Str).map D.str)) = n1 at C1 a1 a2 a3 a4 a5 a6 a7 a8 ⊢
      refine dVar_at rfl (dVar_at rfl ⟨d, u, us0 ++ kvs.map (·.1), rfl, hd.ext C1.gh, a1, by rw [List.length_append, List.length_map]; omega, fun s n2 hs hn0 hC2 hu2 => ?_⟩)
      have hn : s ∉ kvs.map (·.1) := fun z => hn0 (List.mem_append_right _ z)
      have b2 := hC2.old _ _ nupm a2; have b3 := hC2.old _ _ nupk a3; have b4 := hC2.old _ _ nupj a4; have b5 := hC2.old _ _ nups a5; have b6 := hC2.old _ _ nupg a6; have b7 := hC2.old _ _ nupi a7; have b8 := hC2.old _ _ x1 a8
      have C2 : Chg u m n2 := ⟨hC2.gh.trans C1.gh, fun x o z w => hC2.old x o z (C1.old x o z w)⟩
      refine dVar_at rfl ⟨⟨ps, _, rfl, b5⟩, dVar_at rfl (dVar_at rfl ⟨slk (by simp), ap b5 (by rw [List.length_map]; omega) ?_⟩)⟩
      have e5 : kvs.map strD ++ [D.tup [D.str s, D.str kind]] = (kvs ++ [(s, kind)]).map strD := by rw [List.map_append]; rfl
      rw [e5]
      have c1 : (n2.set ps (.lst ((kvs ++ [(s, kind)]).map strD))).mu u = _ := (M.set_ne nups.symm).trans hu2
      have c2 : (n2.set ps (.lst ((kvs ++ [(s, kind)]).map strD))).mu pm = _ := (M.set_ne nsm).trans b2
      have c3 : (n2.set ps (.lst ((kvs ++ [(s, kind)]).map strD))).mu pk = _ := (M.set_ne nsk).trans b3
      have c4 : (n2.set ps (.lst ((kvs ++ [(s, kind)]).map strD))).mu pj = _ := (M.set_ne nsj).trans b4
      have c5 : (n2.set ps (.lst ((kvs ++ [(s, kind)]).map strD))).mu ps = _ := M.set_same
      have c6 : (n2.set ps (.lst ((kvs ++ [(s, kind)]).map strD))).mu pg = _ := (M.set_ne nsg).trans b6
      have c7 : (n2.set ps (.lst ((kvs ++ [(s, kind)]).map strD))).mu pi = _ := (M.set_ne nsi).trans b7
      have c8 : (n2.set ps (.lst ((kvs ++ [(s, kind)]).map strD))).mu pf' = _ := (M.set_ne x4).trans b8
      have C3 : Chg u m (n2.set ps (.lst ((kvs ++ [(s, kind)]).map strD))) := ⟨C2.gh, fun x o z w => by rw [M.set_ne (neOf w f_ps)]; exact C2.old x o z w⟩
      generalize n2.set ps (.lst ((kvs ++ [(s, kind)]).map strD)) = n3 at c1 c2 c3 c4 c5 c6 c7 c8 C3 ⊢
      dsimp only [dDPut]
      refine dVar_at rfl (dVar_at rfl (dVar_at rfl ⟨pk, rfl, .inl ⟨strKV kvs, .inr s, c3, rfl, slk (by unfold strKV; rw [List.length_map]; omega), ?_⟩⟩))
      rw [putStr hn]
      have g1 : (n3.set pk (.dic (strKV (kvs ++ [(s, kind)])))).mu u = _ := (M.set_ne nupk.symm).trans c1
      have g2 : (n3.set pk (.dic (strKV (kvs ++ [(s, kind)])))).mu pm = _ := (M.set_ne nkm).trans c2
      have g3 : (n3.set pk (.dic (strKV (kvs ++ [(s, kind)])))).mu pk = _ := M.set_same
      have g4 : (n3.set pk (.dic (strKV (kvs ++ [(s, kind)])))).mu pj = _ := (M.set_ne nkj).trans c4
      have g5 : (n3.set pk (.dic (strKV (kvs ++ [(s, kind)])))).mu ps = _ := (M.set_ne nsk.symm).trans c5
      have g6 : (n3.set pk (.dic (strKV (kvs ++ [(s, kind)])))).mu pg = _ := (M.set_ne nkg).trans c6
      have g7 : (n3.set pk (.dic (strKV (kvs ++ [(s, kind)])))).mu pi = _ := (M.set_ne nki).trans c7
      have g8 : (n3.set pk (.dic (strKV (kvs ++ [(s, kind)])))).mu pf' = _ := (M.set_ne x2).trans c8
      have C4 : Chg u m (n3.set pk (.dic (strKV (kvs ++ [(s, kind)])))) := ⟨C3.gh, fun x o z w => by rw [M.set_ne (neOf w f_pk)]; exact C3.old x o z w⟩
      generalize n3.set pk (.dic (strKV (kvs ++ [(s, kind)]))) = n4 at g1 g2 g3 g4 g5 g6 g7 g8 C4 ⊢
      obtain ⟨n, hnE, hval, n0, n4', npl⟩ := many_val2 hkS
      refine dVar_at rfl ?_
      refine dLC_gen (I := fun _ => True) (Rel := fun x o => ∃ j : Nat, x = D.int (j : Int) ∧ (j : Int) < n ∧ o = some (endD (s, (j : Int)))) trivial (fun _ _ _ _ => trivial) (iR_w (j := n) (by intro R hR; dsimp only [dDGet]; exact dVar_at rfl (dVar_at rfl ⟨pm, _, rfl, .inl ⟨manyD, .inr kind, g2, rfl, hval.symm⟩, hR⟩)) (by omega) (by omega)) (slk (by rw [rangeD_len]; omega)) (fun x hx m' hE' _ Ry Rn hy hn => ?_) (fun p m3 ys hp hE3 _ hm3 ho => ?_)
      · unfold rangeD at hx
        obtain ⟨j, hj, rfl⟩ := List.mem_map.mp hx
        have hj : j < n.toNat := List.mem_range.mp hj
        dsimp only [dRet, dSeq, dNext, dIfS, dSet, dExpr, dAsg, dPar, dPar3, gD, dOp, dUn, dArgs, dCons, dNil, dC, dB, dNot, dCall, dMeth, dMeth0, dIf, dLst, dTup, dSl, dNoPart, dPart, dM1, dOr, dAnd, dAndV, dOrV, dDGet, dSlA, dGet1]
        refine yesT ?_
        exact dVar_at rfl (dVar_at rfl ⟨slk (by simp), hy _ _ ⟨j, rfl, by omega, rfl⟩ (Ext.refl _)⟩)
      · have hys := Outs.mapOf (f := fun j : Nat => D.int (j : Int)) (h := fun j : Nat => endD (s, (j : Int))) (P := fun j : Nat => (j : Int) < n) (l := List.range n.toNat) (fun a b e => by
          injection e with e
          rw [e]) ho
        obtain ⟨es2, hes2e, rfl⟩ : ∃ es2 : List PL.End, es2 = (List.range n.toNat).map (fun j : Nat => (s, (j : Int))) ∧ ys = es2.map endD := ⟨_, rfl, by rw [hys, List.map_map]; rfl⟩
        have hl2 : es2.length = n.toNat := by rw [hes2e, List.length_map, List.length_range]
        have hes2 : ∀ x ∈ es2, KE (kvs ++ [(s, kind)]) x := fun x hx => by
          rw [hes2e] at hx
          obtain ⟨j, hj, rfl⟩ := List.mem_map.mp hx
          have hj : j < n.toNat := List.mem_range.mp hj
          refine ⟨⟨hs, by unfold numOk; dsimp only; omega⟩, kind, List.mem_append_right _ List.mem_cons_self, hkS, fun z => ?_⟩
          have := npl z
          show (j : Int) ≤ 1
          omega
        refine addL (hE3.old _ _ g8) hm3 (by simp only [List.length_map]; omega) fun p2 hp2 => ?_
        have e8 : es.map endD ++ es2.map endD = (es ++ es2).map endD := by rw [List.map_append]
        rw [e8]
        have E5 := hE3.trans (Ext.new (o := .lst ((es ++ es2).map endD)) hp2)
        have EN : ∀ a o, n4.mu a = some o → p2 ≠ a := fun a o z => (neOf (hE3.old _ _ z) hp2).symm
        refine ⟨kvs ++ [(s, kind)], es ++ es2, p2, _, _, _, _, rfl, C4.ext E5, by rw [E5.old _ _ g1]; simp, E5.old _ _ g2, E5.old _ _ g3, E5.old _ _ g4, E5.old _ _ g5, E5.old _ _ g6, E5.old _ _ g7, M.set_same, ⟨EN _ _ g1, EN _ _ g3, EN _ _ g4, EN _ _ g5, EN _ _ g6, EN _ _ g7, frC (C4.ext hE3) (hE3.old _ _ g1) hp2⟩, ?_, by rw [List.length_append, hkl]; rfl, ?_, ?_, by rw [List.length_append]; omega, by rw [heq, stEnds_snoc, hes2e, hnE]⟩
        · have z := hnv.step hn0
          rw [List.append_assoc] at z
          rw [List.map_append]; exact z
        · intro x hx
          rcases List.mem_append.mp hx with hx | hx
          · exact hst x hx
          · rw [List.mem_singleton.mp hx]; exact ⟨hs, hkS⟩
        · intro x hx
          rcases List.mem_append.mp hx with hx | hx
          · exact (hes x hx).more
          · exact hes2 x hx
    · rintro r δ m' hr ⟨kvs, es, pf', d3, d12, d13, d14, rfl, hC, h1, h2, h3, h4, h5, h6, h7, h8, ⟨x1, x2, x3, x4, x5, x6, xm⟩, hnv, hkl, hst, hes, hesl, heq⟩
      have hnd := hnv.nd
      dsimp only [dRet, dSeq, dNext, dIfS, dSet, dExpr, dAsg, dPar, dPar3, gD, dOp, dUn, dArgs, dCons, dNil, dC, dB, dNot, dCall, dMeth, dMeth0, dIf, dLst, dTup, dSl, dNoPart, dPart, dM1, dOr, dAnd, dAndV, dOrV, dDGet, dSlA, dGet1]
      have hdk := hd.ext hC.gh
      refine dVar_at rfl (dVar_at rfl (dVar_at rfl ⟨KE kvs, d, pf', pj, es, rfl, hdk, x3, h8, h4, by omega, by rw [heq]; exact stEnds_nd hnd, hes, fun e h => h.1, fun a m2 js es2 jkv hC2 ha y8 y4 ya hjs hjl hes2 hesl2 hjkv hjkl hJX => ?_⟩))
      have y1 := hC2.old _ _ x1.symm nupj.symm h1
      have y3 := hC2.old _ _ x2.symm nkj.symm h3
      have y5 := hC2.old _ _ x4.symm nsj.symm h5
      have y6 := hC2.old _ _ x5.symm njg h6
      have y7 := hC2.old _ _ x6.symm nji h7
      have au := neOf h1 ha
      have ak := neOf h3 ha
      have aj := neOf h4 ha
      have as' := neOf h5 ha
      have ag := neOf h6 ha
      have ai := neOf h7 ha
      have C2 : Chg u m m2 := ⟨hC2.gh.trans hC.gh, fun x o z w => hC2.old _ _ (neOf w xm) (neOf w f_pj) (hC.old _ _ z w)⟩
      have f_a : m.mu a = none := frC hC h1 ha
      clear hC2 ha h1 h2 h3 h4 h5 h6 h7 h8 hC hdk
      have getK : ∀ {x : M} {e : PL.End}, x.mu pk = some (.dic (strKV kvs)) → KE kvs e → ∃ kind, kindAt kvs e.1 = some kind ∧ GetD x pk (.str e.1) (some (.str kind)) := fun {x e} hx he => by
        obtain ⟨_, kind, hm, _⟩ := he
        exact ⟨kind, (kind_iff hnd).mpr hm, .inl ⟨_, .inr e.1, hx, rfl, (valStr hm hnd).symm⟩⟩
      have pT : ∀ {e : PL.End} {kind : Str}, kindAt kvs e.1 = some kind → decide (kind = "plain") = plainAt kvs e := fun {e kind} h => by
        unfold plainAt
        rw [h]; simp
      refine dLC_gen (I := fun _ => True) (Rel := fun x o => ∃ e : PL.End, x = endD e ∧ True ∧ o = if plainAt kvs e = true then some (endD e) else none) trivial (fun _ _ _ _ => trivial) (iL_w (xs := es2.map endD) (fun R hR => dVar_at rfl hR) y8) (slk (by rw [List.length_map]; omega)) (fun x hx m' hE' _ Ry Rn hy hn => ?_) (fun pq m3 ys hpq hE3 _ hm3 ho => ?_)
      · obtain ⟨e, he, rfl⟩ := List.mem_map.mp hx
        obtain ⟨kind, hkk, hg⟩ := getK (hE'.old _ _ y3) (hes2 e he)
        dsimp only [dRet, dSeq, dNext, dIfS, dSet, dExpr, dAsg, dPar, dPar3, gD, dOp, dUn, dArgs, dCons, dNil, dC, dB, dNot, dCall, dMeth, dMeth0, dIf, dLst, dTup, dSl, dNoPart, dPart, dM1, dOr, dAnd, dAndV, dOrV, dDGet, dSlA, dGet1]
        exact dVar_at rfl (dVar_at rfl (endD_ix0 ⟨pk, _, rfl, hg, eqT ⟨_, rfl, iff_T (fun hc => dVar_at rfl (hy _ _ ⟨e, rfl, trivial, by rw [← pT hkk, if_pos hc]⟩ (Ext.refl _))) fun hc => hn _ ⟨e, rfl, trivial, by rw [← pT hkk, hc, if_neg Bool.false_ne_true]⟩ (Ext.refl _)⟩⟩))
      have hys3 := Outs.filterOf (f := endD) (P := fun _ => True) (b := plainAt kvs) (fun a b e => endD_inj e) ho
      obtain ⟨es3, he3, rfl⟩ : ∃ es3 : List PL.End, es3 = es2.filter (plainAt kvs) ∧ ys = es3.map endD := ⟨_, rfl, hys3⟩
      have hes3 : ∀ e ∈ es3, e ∈ es2 := fun e he => by rw [he3] at he; exact (List.mem_filter.mp he).1
      have hl3 := ho.len
      rw [List.length_map, List.length_map] at hl3
      have C3 := C2.ext hE3
      have qu := (neOf y1 hpq).symm
      have qk := (neOf y3 hpq).symm
      have qj := (neOf y4 hpq).symm
      have qs := (neOf y5 hpq).symm
      have qg := (neOf y6 hpq).symm
      have qi := (neOf y7 hpq).symm
      have qa := (neOf ya hpq).symm
      have f_q : m.mu pq = none := frC C2 y1 hpq
      have y1 := hE3.old _ _ y1; have y3 := hE3.old _ _ y3; have y4 := hE3.old _ _ y4; have y5 := hE3.old _ _ y5; have y6 := hE3.old _ _ y6; have y7 := hE3.old _ _ y7; have ya := hE3.old _ _ ya
      refine dFor_draw (n := 5) (by decide) (by intro R hR; dsimp only [dRet, dSeq, dNext, dIfS, dSet, dExpr, dAsg, dPar, dPar3, gD, dOp, dUn, dArgs, dCons, dNil, dC, dB, dNot, dCall, dMeth, dMeth0, dIf, dLst, dTup, dSl, dNoPart, dPart, dM1, dOr, dAnd, dAndV, dOrV, dDGet, dSlA, dGet1]; exact dVar_at rfl (drw (hd.ext C3.gh) (by decide) (by decide) hR)) (fun i δ m' => ∃ (us : List Str) (ga : List (Str × PL.End)) (fs : List PL.End) (d3 d12 d13 d14 : Option D),
        δ = [some d, some (.ref u), some (.int k), d3, some (.ref a), some (.ref pq), some (.ref pm), some (.ref pk), some (.ref pj), some (.ref ps), some (.ref pg), some (.ref pi), d12, d13, d14] ∧ Chg u m m' ∧
        m'.mu u = some (.lst (us.map D.str)) ∧ m'.mu pk = some (.dic (strKV kvs)) ∧ m'.mu pj = some (.dit (joKV jkv)) ∧ m'.mu ps = some (.lst (kvs.map strD)) ∧ m'.mu pg = some (.lst (ga.map gaD)) ∧ m'.mu pi = some (.lst []) ∧ m'.mu a = some (.lst (js.map joD)) ∧ m'.mu pq = some (.lst (fs.map endD)) ∧
        us.length ≤ 32 + i ∧ ga.length ≤ i ∧ (∀ g ∈ ga, gaOk g) ∧ (∀ e ∈ fs, e ∈ es2) ∧ fs.length ≤ 48 ∧ NV us0 us (kvs.map (·.1) ++ ga.map (·.1)) ∧ (ga.map (·.2) ++ fs).Perm es3) ?_ ?_ ?_
      · exact ⟨_, [], es3, _, _, _, _, rfl, C3, y1, y3, y4, y5, y6, y7, ya, hm3, by rw [List.length_append, List.length_map]; omega, by simp, by simp, hes3, by omega, by simpa using hnv, by simp⟩
      · rintro i δ m' hi ⟨us, ga, fs, d3, d12, d13, d14, rfl, hC, h1, h3, h4, h5, h6, h7, h8, h9, hul, hgl, hga, hfs, hfl, hnv2, hpm⟩
        dsimp only [dRet, dSeq, dNext, dIfS, dSet, dExpr, dAsg, dPar, dPar3, gD, dOp, dUn, dArgs, dCons, dNil, dC, dB, dNot, dCall, dMeth, dMeth0, dIf, dLst, dTup, dSl, dNoPart, dPart, dM1, dOr, dAnd, dAndV, dOrV, dDGet, dSlA, dGet1]
        have fin : ∀ x ∈ fs.map endD, Fine x := fun x hx => by
          obtain ⟨e, he, rfl⟩ := List.mem_map.mp hx
          exact end_fine (hes2 e (hfs e he)).1
        refine dVar_at rfl ⟨slk (by simp), fun p hp => ne_nil ((Ext.new hp).old _ _ h9) M.set_same fin ⟨_, rfl, ?_⟩⟩
        have E1 := Ext.new (o := .lst []) hp
        have C1 := hC.ext E1
        have h1 := E1.old _ _ h1; have h3 := E1.old _ _ h3; have h4 := E1.old _ _ h4; have h5 := E1.old _ _ h5; have h6 := E1.old _ _ h6; have h7 := E1.old _ _ h7; have h8 := E1.old _ _ h8; have h9 := E1.old _ _ h9
        generalize m'.set p (.lst []) = n1 at C1 h1 h3 h4 h5 h6 h7 h8 h9 ⊢
        refine iff_T (fun hc => ?_) fun _ => ⟨us, ga, fs, _, _, _, _, rfl, C1, h1, h3, h4, h5, h6, h7, h8, h9, by omega, by omega, hga, hfs, hfl, hnv2, hpm⟩
        have hfn : 0 < fs.length := by cases fs with | nil => cases hc | cons _ _ => simp
        refine dVar_at rfl ⟨⟨pg, _, rfl, h6⟩, dVar_at rfl (dVar_at rfl ⟨d, u, us, rfl, hd.ext C1.gh, h1, by omega, fun s n2 hs hn hC2 hu2 => ?_⟩)⟩
        have b3 := hC2.old _ _ nupk h3; have b4 := hC2.old _ _ nupj h4; have b5 := hC2.old _ _ nups h5; have b6 := hC2.old _ _ nupg h6; have b7 := hC2.old _ _ nupi h7; have b8 := hC2.old _ _ au.symm h8; have b9 := hC2.old _ _ qu h9
        have C2' : Chg u m n2 := ⟨hC2.gh.trans C1.gh, fun x o z w => hC2.old x o z (C1.old x o z w)⟩
        refine dVar_at rfl ⟨⟨pq, _, rfl, b9⟩, dVar_at rfl (dVar_at rfl ⟨.ref pq, fs.length, rfl, ⟨_, b9, (List.length_map ..).symm⟩, drw (hd.ext C2'.gh) (by omega) (by omega) fun r r0 r1 => popL b9 r0 (by rw [List.length_map]; omega) (by rw [List.length_map]; omega) fun y hy hk' => ?_⟩)⟩
        obtain ⟨e, he', rfl⟩ := map_get hk'
        have he := List.mem_of_getElem? he'
        rw [erase_map]
        have c1 : (n2.set pq (.lst ((fs.eraseIdx r.toNat).map endD))).mu u = _ := (M.set_ne qu.symm).trans hu2
        have c3 : (n2.set pq (.lst ((fs.eraseIdx r.toNat).map endD))).mu pk = _ := (M.set_ne qk.symm).trans b3
        have c4 : (n2.set pq (.lst ((fs.eraseIdx r.toNat).map endD))).mu pj = _ := (M.set_ne qj.symm).trans b4
        have c5 : (n2.set pq (.lst ((fs.eraseIdx r.toNat).map endD))).mu ps = _ := (M.set_ne qs.symm).trans b5
        have c6 : (n2.set pq (.lst ((fs.eraseIdx r.toNat).map endD))).mu pg = _ := (M.set_ne qg.symm).trans b6
        have c7 : (n2.set pq (.lst ((fs.eraseIdx r.toNat).map endD))).mu pi = _ := (M.set_ne qi.symm).trans b7
        have c8 : (n2.set pq (.lst ((fs.eraseIdx r.toNat).map endD))).mu a = _ := (M.set_ne qa.symm).trans b8
        have c9 : (n2.set pq (.lst ((fs.eraseIdx r.toNat).map endD))).mu pq = _ := M.set_same
        have C3' : Chg u m (n2.set pq (.lst ((fs.eraseIdx r.toNat).map endD))) := ⟨C2'.gh, fun x o z w => by rw [M.set_ne (neOf w f_q)]; exact C2'.old x o z w⟩
        generalize n2.set pq (.lst ((fs.eraseIdx r.toNat).map endD)) = n3 at c1 c3 c4 c5 c6 c7 c8 c9 C3' ⊢
        refine ⟨slk (by simp), ap c6 (by rw [List.length_map]; omega) ⟨us ++ [s], ga ++ [(s, e)], fs.eraseIdx r.toNat, _, _, _, _, rfl, ⟨C3'.gh, fun x o z w => by rw [M.set_ne (neOf w f_pg)]; exact C3'.old x o z w⟩, (M.set_ne nupg.symm).trans c1, (M.set_ne nkg.symm).trans c3, (M.set_ne njg.symm).trans c4, (M.set_ne nsg.symm).trans c5, by rw [M.set_same, List.map_append]; rfl, (M.set_ne ngi).trans c7, (M.set_ne ag.symm).trans c8, (M.set_ne qg).trans c9, by rw [List.length_append]; show us.length + 1 ≤ _; omega, by rw [List.length_append]; show ga.length + 1 ≤ _; omega, ?_, fun x hx => hfs x (List.mem_of_mem_eraseIdx hx), Nat.le_trans (List.length_eraseIdx_le _ _) hfl, ?_, ?_⟩⟩
        rotate_left
        · have z := hnv2.step hn
          rw [List.append_assoc] at z
          rw [List.map_append]; exact z
        · refine List.Perm.trans ?_ hpm
          rw [List.map_append, List.append_assoc]
          exact (perm_erase he').append_left _
        intro x hx
        rcases List.mem_append.mp hx with hx | hx
        · exact hga x hx
        · rw [List.mem_singleton.mp hx]; exact ⟨hs, (hes2 e (hfs e he)).1⟩
      · rintro r2 δ m' hr2 ⟨us, ga, fs, d3, d12, d13, d14, rfl, hC, h1, h3, h4, h5, h6, h7, h8, h9, hul, hgl, hga, hfs, hfl, hnv2, hpm⟩
        dsimp only [dRet, dSeq, dNext, dIfS, dSet, dExpr, dAsg, dPar, dPar3, gD, dOp, dUn, dArgs, dCons, dNil, dC, dB, dNot, dCall, dMeth, dMeth0, dIf, dLst, dTup, dSl, dNoPart, dPart, dM1, dOr, dAnd, dAndV, dOrV, dDGet, dSlA, dGet1]
        dsimp only [dLockS, dSet]
        refine ⟨pj, joKV jkv, rfl, h4, fun lu => ?_⟩
        have hkeys : (joKV jkv).map (fun p => D.tup (p.1.map kD)) = (jkv.map (·.1)).map endD := by unfold joKV; rw [List.map_map, List.map_map]; rfl
        have Lj : (m'.set pj (.lck (joKV jkv) lu)).mu pj = _ := M.set_same
        have L1 : (m'.set pj (.lck (joKV jkv) lu)).mu u = _ := (M.set_ne nupj.symm).trans h1
        have L3 : (m'.set pj (.lck (joKV jkv) lu)).mu pk = _ := (M.set_ne nkj.symm).trans h3
        have L5 : (m'.set pj (.lck (joKV jkv) lu)).mu ps = _ := (M.set_ne nsj.symm).trans h5
        have L6 : (m'.set pj (.lck (joKV jkv) lu)).mu pg = _ := (M.set_ne njg).trans h6
        have L7 : (m'.set pj (.lck (joKV jkv) lu)).mu pi = _ := (M.set_ne nji).trans h7
        have L8 : (m'.set pj (.lck (joKV jkv) lu)).mu a = _ := (M.set_ne aj.symm).trans h8
        have LC : Chg u m (m'.set pj (.lck (joKV jkv) lu)) := ⟨hC.gh, fun x o z w => by rw [M.set_ne (neOf w f_pj)]; exact hC.old x o z w⟩
        generalize m'.set pj (.lck (joKV jkv) lu) = L0 at Lj L1 L3 L5 L6 L7 L8 LC ⊢
        refine dLC_gen (I := fun _ => True) (xs := (joKV jkv).map fun p => D.tup (p.1.map kD)) (Rel := fun x o => ∃ e : PL.End, x = endD e ∧ True ∧ o = if plainAt kvs e = true then some (endD e) else none) trivial (fun _ _ _ _ => trivial) (fun R hR => ⟨pj, joKV jkv, lu, rfl, Lj, hR _ L0 (Ext.refl _) fun m'' hE => hE.old _ _ Lj⟩) (slk (by unfold joKV; rw [List.length_map, List.length_map]; omega)) (fun x hx m' hE' _ Ry Rn hy hn => ?_) (fun pr m4 ys hpr hE4 _ hm4 ho => ?_)
        · rw [hkeys] at hx
          obtain ⟨e, he, rfl⟩ := List.mem_map.mp hx
          obtain ⟨pp, hpp, rfl⟩ := List.mem_map.mp he
          obtain ⟨kind, hkk, hg⟩ := getK (hE'.old _ _ L3) (hjkv pp hpp).1
          dsimp only [dRet, dSeq, dNext, dIfS, dSet, dExpr, dAsg, dPar, dPar3, gD, dOp, dUn, dArgs, dCons, dNil, dC, dB, dNot, dCall, dMeth, dMeth0, dIf, dLst, dTup, dSl, dNoPart, dPart, dM1, dOr, dAnd, dAndV, dOrV, dDGet, dSlA, dGet1]
          exact dVar_at rfl (dVar_at rfl (endD_ix0 ⟨pk, _, rfl, hg, eqT ⟨_, rfl, iff_T (fun hc => dVar_at rfl (hy _ _ ⟨pp.1, rfl, trivial, by rw [← pT hkk, if_pos hc]⟩ (Ext.refl _))) fun hc => hn _ ⟨pp.1, rfl, trivial, by rw [← pT hkk, hc, if_neg Bool.false_ne_true]⟩ (Ext.refl _)⟩⟩))
        rw [hkeys] at ho
        have hys4 := Outs.filterOf (f := endD) (P := fun _ => True) (b := plainAt kvs) (fun a b e => endD_inj e) ho
        obtain ⟨fs0, hf0, rfl⟩ : ∃ fs0 : List PL.End, fs0 = (jkv.map (·.1)).filter (plainAt kvs) ∧ ys = fs0.map endD := ⟨_, rfl, hys4⟩
        have hfs0 : ∀ e ∈ fs0, e ∈ jkv.map (·.1) := fun e he => by rw [hf0] at he; exact (List.mem_filter.mp he).1
        have hl4 := ho.len
        rw [List.length_map, List.length_map, List.length_map] at hl4
        have ru := (neOf L1 hpr).symm
        have rk := (neOf L3 hpr).symm
        have rj := (neOf Lj hpr).symm
        have rs := (neOf L5 hpr).symm
        have rg := (neOf L6 hpr).symm
        have ri := (neOf L7 hpr).symm
        have ra := (neOf L8 hpr).symm
        have f_r : m.mu pr = none := frC LC L1 hpr
        refine ⟨hE4.old _ _ Lj, ?_⟩
        have C4 := LC.ext hE4
        have y1 : (m4.set pj (.dit (joKV jkv))).mu u = _ := (M.set_ne nupj.symm).trans (hE4.old _ _ L1)
        have y3 : (m4.set pj (.dit (joKV jkv))).mu pk = _ := (M.set_ne nkj.symm).trans (hE4.old _ _ L3)
        have y4 : (m4.set pj (.dit (joKV jkv))).mu pj = _ := M.set_same
        have y5 : (m4.set pj (.dit (joKV jkv))).mu ps = _ := (M.set_ne nsj.symm).trans (hE4.old _ _ L5)
        have y6 : (m4.set pj (.dit (joKV jkv))).mu pg = _ := (M.set_ne njg).trans (hE4.old _ _ L6)
        have y7 : (m4.set pj (.dit (joKV jkv))).mu pi = _ := (M.set_ne nji).trans (hE4.old _ _ L7)
        have y8 : (m4.set pj (.dit (joKV jkv))).mu a = _ := (M.set_ne aj.symm).trans (hE4.old _ _ L8)
        have y9 : (m4.set pj (.dit (joKV jkv))).mu pr = _ := (M.set_ne rj).trans hm4
        have C5 : Chg u m (m4.set pj (.dit (joKV jkv))) := ⟨C4.gh, fun x o z w => by rw [M.set_ne (neOf w f_pj)]; exact C4.old x o z w⟩
        generalize m4.set pj (.dit (joKV jkv)) = m5 at y1 y3 y4 y5 y6 y7 y8 y9 C5 ⊢
        refine dFor_draw (n := 11) (by decide) (by intro R hR; dsimp only [dRet, dSeq, dNext, dIfS, dSet, dExpr, dAsg, dPar, dPar3, gD, dOp, dUn, dArgs, dCons, dNil, dC, dB, dNot, dCall, dMeth, dMeth0, dIf, dLst, dTup, dSl, dNoPart, dPart, dM1, dOr, dAnd, dAndV, dOrV, dDGet, dSlA, dGet1]; exact dVar_at rfl (drw (hd.ext C5.gh) (by decide) (by decide) hR)) (fun i δ m' => ∃ (us : List Str) (ss : List (Str × PL.End × Option PL.Step)) (fs : List PL.End) (d3 d12 d13 d14 : Option D),
          δ = [some d, some (.ref u), some (.int k), d3, some (.ref a), some (.ref pr), some (.ref pm), some (.ref pk), some (.ref pj), some (.ref ps), some (.ref pg), some (.ref pi), d12, d13, d14] ∧ Chg u m m' ∧
          m'.mu u = some (.lst (us.map D.str)) ∧ m'.mu pk = some (.dic (strKV kvs)) ∧ m'.mu pj = some (.dit (joKV jkv)) ∧ m'.mu ps = some (.lst (kvs.map strD)) ∧ m'.mu pg = some (.lst (ga.map gaD)) ∧ m'.mu pi = some (.lst (ss.map siD)) ∧ m'.mu a = some (.lst (js.map joD)) ∧ m'.mu pr = some (.lst (fs.map endD)) ∧
          us.length ≤ 37 + i ∧ ss.length ≤ i ∧ (∀ g ∈ ss, siOk g) ∧ (∀ e ∈ fs, e ∈ jkv.map (·.1)) ∧ fs.length ≤ 32 ∧ NV us0 us (kvs.map (·.1) ++ ga.map (·.1) ++ ss.map (·.1)) ∧ (ss.map (·.2.1) ++ fs).Perm fs0 ∧ ∀ s ∈ ss, ∀ t, s.2.2 = some t → ∃ e', (s.2.1, e') ∈ jkv ∧ ovOk kvs e' t) ?_ ?_ ?_
        · exact ⟨us, [], fs0, _, _, _, _, rfl, C5, y1, y3, y4, y5, y6, y7, y8, y9, by omega, by simp, by simp, hfs0, by omega, by simpa using hnv2, by simp, by simp⟩
        · rintro i δ m' hi ⟨us, ss, fs, d3, d12, d13, d14, rfl, hC, h1, h3, h4, h5, h6, h7, h8, h9, hul, hgl, hss, hfs, hfl, hnv3, hpm3, hov⟩
          dsimp only [dRet, dSeq, dNext, dIfS, dSet, dExpr, dAsg, dPar, dPar3, gD, dOp, dUn, dArgs, dCons, dNil, dC, dB, dNot, dCall, dMeth, dMeth0, dIf, dLst, dTup, dSl, dNoPart, dPart, dM1, dOr, dAnd, dAndV, dOrV, dDGet, dSlA, dGet1]
          have hKe : ∀ e ∈ jkv.map (·.1), KE kvs e := fun e he => by
            obtain ⟨pp, hpp, rfl⟩ := List.mem_map.mp he
            exact (hjkv pp hpp).1
          have fin : ∀ x ∈ fs.map endD, Fine x := fun x hx => by
            obtain ⟨e, he, rfl⟩ := List.mem_map.mp hx
            exact end_fine (hKe e (hfs e he)).1
          refine dVar_at rfl ⟨slk (by simp), fun p hp => ne_nil ((Ext.new hp).old _ _ h9) M.set_same fin ⟨_, rfl, ?_⟩⟩
          have E1 := Ext.new (o := .lst []) hp
          have C1 := hC.ext E1
          have h1 := E1.old _ _ h1; have h3 := E1.old _ _ h3; have h4 := E1.old _ _ h4; have h5 := E1.old _ _ h5; have h6 := E1.old _ _ h6; have h7 := E1.old _ _ h7; have h8 := E1.old _ _ h8; have h9 := E1.old _ _ h9
          generalize m'.set p (.lst []) = n1 at C1 h1 h3 h4 h5 h6 h7 h8 h9 ⊢
          refine iff_T (fun hc => ?_) fun _ => ⟨us, ss, fs, _, _, _, _, rfl, C1, h1, h3, h4, h5, h6, h7, h8, h9, by omega, by omega, hss, hfs, hfl, hnv3, hpm3, hov⟩
          have hfn : 0 < fs.length := by cases fs with | nil => cases hc | cons _ _ => simp
          refine dVar_at rfl ⟨⟨pr, _, rfl, h9⟩, dVar_at rfl (dVar_at rfl ⟨.ref pr, fs.length, rfl, ⟨_, h9, (List.length_map ..).symm⟩, drw (hd.ext C1.gh) (by omega) (by omega) fun r r0 r1 => popL h9 r0 (by rw [List.length_map]; omega) (by rw [List.length_map]; omega) fun y hy hk' => ?_⟩)⟩
          obtain ⟨e, he', rfl⟩ := map_get hk'
          have he := List.mem_of_getElem? he'
          rw [erase_map]
          have c1 : (n1.set pr (.lst ((fs.eraseIdx r.toNat).map endD))).mu u = _ := (M.set_ne ru.symm).trans h1
          have c3 : (n1.set pr (.lst ((fs.eraseIdx r.toNat).map endD))).mu pk = _ := (M.set_ne rk.symm).trans h3
          have c4 : (n1.set pr (.lst ((fs.eraseIdx r.toNat).map endD))).mu pj = _ := (M.set_ne rj.symm).trans h4
          have c5 : (n1.set pr (.lst ((fs.eraseIdx r.toNat).map endD))).mu ps = _ := (M.set_ne rs.symm).trans h5
          have c6 : (n1.set pr (.lst ((fs.eraseIdx r.toNat).map endD))).mu pg = _ := (M.set_ne rg.symm).trans h6
          have c7 : (n1.set pr (.lst ((fs.eraseIdx r.toNat).map endD))).mu pi = _ := (M.set_ne ri.symm).trans h7
          have c8 : (n1.set pr (.lst ((fs.eraseIdx r.toNat).map endD))).mu a = _ := (M.set_ne ra.symm).trans h8
          have c9 : (n1.set pr (.lst ((fs.eraseIdx r.toNat).map endD))).mu pr = _ := M.set_same
          have C3' : Chg u m (n1.set pr (.lst ((fs.eraseIdx r.toNat).map endD))) := ⟨C1.gh, fun x o z w => by rw [M.set_ne (neOf w f_r)]; exact C1.old x o z w⟩
          generalize n1.set pr (.lst ((fs.eraseIdx r.toNat).map endD)) = n3 at c1 c3 c4 c5 c6 c7 c8 c9 C3' ⊢
          refine dVar_at rfl ⟨⟨pi, _, rfl, c7⟩, dVar_at rfl (dVar_at rfl ⟨d, u, us, rfl, hd.ext C3'.gh, c1, by omega, fun s n2 hs hn hC2 hu2 => ?_⟩)⟩
          have b3 := hC2.old _ _ nupk c3; have b4 := hC2.old _ _ nupj c4; have b5 := hC2.old _ _ nups c5; have b6 := hC2.old _ _ nupg c6; have b7 := hC2.old _ _ nupi c7; have b8 := hC2.old _ _ au.symm c8; have b9 := hC2.old _ _ ru c9
          have C2' : Chg u m n2 := ⟨hC2.gh.trans C3'.gh, fun x o z w => hC2.old x o z (C3'.old x o z w)⟩
          obtain ⟨e', hv, hm'⟩ := getJo (hfs e he)
          refine dVar_at rfl (dVar_at rfl (dVar_at rfl (dVar_at rfl (dVar_at rfl ⟨pj, endD e', rfl, .inr ⟨joKV jkv, eKey e, b4, rfl, hv.symm⟩, d, pk, kvs, e', rfl, hd.ext C2'.gh, b3, hnd, ⟨(hjkv _ hm').2.1, by
            rw [hJX.kv] at hm'
            obtain ⟨j, hj, w⟩ := mem_jpairs.mp hm'
            obtain ⟨sk, hsk, z1, z2, z3⟩ := mem_stEnds.mp (show e' ∈ stEnds kvs by rw [← heq]; exact hJX.sub (mem_jends.mpr ⟨j, hj, by rcases w with ⟨_, w⟩ | ⟨_, w⟩ <;> simp [w]⟩))
            exact ⟨sk.2, by rw [z1]; exact hsk, (hst _ hsk).2, z3⟩⟩, fun o ho' => ?_⟩))))
          refine ⟨slk (by simp), ap b7 (by rw [List.length_map]; omega) ⟨us ++ [s], ss ++ [(s, e, o)], fs.eraseIdx r.toNat, _, _, _, _, rfl, ⟨C2'.gh, fun x o z w => by rw [M.set_ne (neOf w f_pi)]; exact C2'.old x o z w⟩, (M.set_ne nupi.symm).trans hu2, (M.set_ne nki.symm).trans b3, (M.set_ne nji.symm).trans b4, (M.set_ne nsi.symm).trans b5, (M.set_ne ngi.symm).trans b6, by rw [M.set_same, List.map_append]; rfl, (M.set_ne ai.symm).trans b8, (M.set_ne ri).trans b9, by rw [List.length_append]; show us.length + 1 ≤ _; omega, by rw [List.length_append]; show ss.length + 1 ≤ _; omega, ?_, fun x hx => hfs x (List.mem_of_mem_eraseIdx hx), Nat.le_trans (List.length_eraseIdx_le _ _) hfl, ?_, ?_, ?_⟩⟩
          · intro x hx
            rcases List.mem_append.mp hx with hx | hx
            · exact hss x hx
            · rw [List.mem_singleton.mp hx]; exact ⟨hs, (hKe e (hfs e he)).1, fun t ht => (ho' t ht).1⟩
          · have z := hnv3.step hn
            rw [List.append_assoc] at z
            rw [List.map_append]; exact z
          · refine List.Perm.trans ?_ hpm3
            rw [List.map_append, List.append_assoc]
            exact (perm_erase he').append_left _
          · intro x hx t ht
            rcases List.mem_append.mp hx with hx | hx
            · exact hov x hx t ht
            · have hx := List.mem_singleton.mp hx
              subst hx
              exact ⟨e', hm', (ho' t ht).2⟩
        · rintro r3 δ m' hr3 ⟨us, ss, fs, d3, d12, d13, d14, rfl, hC, h1, h3, h4, h5, h6, h7, h8, h9, hul, hgl', hss, hfs, hfl, hnv3, hpm3, hov⟩
          dsimp only
          refine dVar_at rfl (tupL h5 (dVar_at rfl (tupL h8 (dVar_at rfl (tupL h6 (dVar_at rfl (tupL h7 ⟨slk (by simp), q ⟨kvs, js, ga, ss⟩ m' ⟨hst, hjs, hga, hss, ?_, ?_, ?_, ?_⟩ (chk_drawn hnv3.nd (heq ▸ hJX) (he3 ▸ hpm) (hf0 ▸ hpm3) hov) (by show kvs.length ≤ k; omega) hnv3.new hC (by rw [h1, hnv3.eq]; rfl)⟩)))))))
          · show kvs.length ≤ 12; omega
          · exact hjl
          · show ga.length ≤ 4; omega
          · show ss.length ≤ 10; omega

end
end PR

namespace PR
open PySem PySem.Spec PyProof.Rows L2 GA GxR DL PL TM

section
variable {P : Program} {w : World} {K : PySem.W.Frag} {mg : Str → Option Value} {base : Heap} {tl td t8 t3 : Tok} {aK aO aE aP P1 P2 : Addr} (T : Txt K mg w tl td t8 t3 aK aO aE aP) (Ok : M → Prop) (hOk : ∀ a b : M, Ok a → b.gh = a.gh → Ok b)
include T hOk

theorem c_law_deck {f : Addr} {fd : FuncData} (F : Fun K "_law_deck" "_law_deck" s_law_deck f fd) (hm : mg "_law_deck" = some (.ref f))  : DCal P w K mg base 1 "_law_deck" (fun ds m Q => ∃ (aS : Addr) (ns : List Int), ds = [.ref aS] ∧ (∀ H, m.gh.inv H → SqL K H aS (ns.map V.int)) ∧ ns.length ≤ 63 ∧ ∀ aD aC m', Ext m m' → m.mu aD = none → m.mu aC = none → aD ≠ aC → DeckAt m' aD aC → Q (.ref aD) m') := by
  refine dcal F hm (F.binds (ps := ["script"]) fun _ _ _ _ _ _ us hl => match us, hl with | [_], _ => rfl) sc_law_deck (fun ds m Q h => ?_) (fun cdv A outer s H E hr => ⟨_, (dss_cons (ds_set (i := 1) sc_law_deck.nd rfl (by first | exact Or.inl rfl | exact Or.inr rfl) de_int)
      (dss_cons (ds_for PassesOwn.never rfl (dpi_list (de_sliceG (de_var 0) dpo_none (dpo_some de_int))) (dg_name (i := 2) sc_law_deck.nd rfl (by first | exact Or.inl rfl | exact Or.inr rfl)) (dss_one (ds_set (i := 1) sc_law_deck.nd rfl (by first | exact Or.inl rfl | exact Or.inr rfl) (de_mod (de_bty call_int1 argl_int (by rfl) T.int (by decide +kernel) (da_cons (de_add (de_add (de_mul (de_var 1) de_int) (de_mod (de_bty call_int1 argl_int (by rfl) T.int (by decide +kernel) (da_cons (de_var 2) da_nil)) de_int)) de_int) da_nil)) de_int))))
      (dss_one (ds_ret (de_disp (.cons (de_revL (de_bty call_list_of argl_list (by rfl) T.list (by decide +kernel) (da_cons (de_sliceG (de_var 0) dpo_none (dpo_some de_int)) da_nil))) (.cons (de_var 1) (.cons de_int .nil)))))))), fun ds m Q h => ?_⟩)
  · obtain ⟨aS, ns, rfl, _⟩ := h; rfl
  · obtain ⟨aS, ns, rfl, hm, hl, q⟩ := h
    dsimp only [dRet, dSeq, dNext, dIfS, dSet, dExpr, dAsg, dPar, gD, dOp, dUn, dArgs, dCons, dNil, dC, dB, dNot, dCall, dMeth, dMeth0, dIf, dLst, dTup]
    dsimp only [dFor, iL, dSlG, dNoPart, dPart, dC]
    refine dVar_at rfl ⟨63, rfl, aS, ns, rfl, hm, fun p hp => ⟨p, _, rfl, M.set_same, ?_⟩⟩
    rw [cutL_map]
    have hl1 := cutL_le ns none (some 63)
    generalize cutL ns none (some 63) = ns1 at hl1 ⊢
    refine ⟨fun i δ m' => m' = m.set p (.lst (ns1.map D.int)) ∧ δ[0]? = some (some (.ref aS)) ∧ ∃ x : Int, 0 ≤ x ∧ x < 2147483587 ∧ δ[1]? = some (some (.int x)) ∧ δ.length = 3, ⟨rfl, rfl, 13747808, by decide, by decide, rfl, rfl⟩, fun i δ m' h => ?_, ?_, ?_⟩
    · rw [h.1]; exact M.set_same
    · rintro i d δ m' hd ⟨rfl, hδ, x, h1, h2, hx, hlen⟩
      rw [List.getElem?_map] at hd
      obtain ⟨c, hc, rfl⟩ : ∃ c, ns1[i]? = some c ∧ d = D.int c := by
        cases e : ns1[i]? with
        | none => rw [e] at hd; cases hd
        | some c => rw [e] at hd; cases hd; exact ⟨c, rfl, rfl⟩
      match δ, hlen with
      | [d0, d1, d2], _ =>
        dsimp only [dSet, dOp, dArgs, dCons, dNil, dC, gD]
        exact dVar_at hx (rI (Or.inr ⟨by decide, by decide⟩) (dVar_at rfl (iI (rI (by decide) (aI (aI (iI (rI (by decide) ⟨rfl, hδ, _, (emod_lt' (by decide)).1, (emod_lt' (by decide)).2, rfl, rfl⟩))))))))
    · rintro δ m' ⟨rfl, hδ, x, h1, h2, hx, hlen⟩
      dsimp only [dDisp, dPairs, dRevL, dArgs, dCons, dNil, dSlG, dNoPart, dPart, dC]
      intro pD hD
      have e1 : m.mu pD = none := by
        by_cases z : pD = p
        · subst z; rw [M.set_same] at hD; cases hD
        · rw [M.set_ne z] at hD; exact hD
      have E0 : Ext m ((m.set p (.lst (ns1.map D.int))).set pD (.dic [])) := (Ext.new hp).set e1
      generalize hM0 : (m.set p (.lst (ns1.map D.int))).set pD (.dic []) = m0 at E0 ⊢
      have e0 : m0.mu pD = some (.dic []) := by rw [← hM0]; exact M.set_same
      refine dVar_at hδ ⟨63, rfl, aS, ns, rfl, (fun H i => hm H (by rw [E0.gh] at i; exact i)), fun p2 hp2 => ⟨_, _, rfl, .inr (.inr ⟨p2, rfl, M.set_same⟩), fun p3 hp3 => ⟨p3, _, rfl, M.set_same, fun p4 hp4 => dVar_at hx ?_⟩⟩⟩
      rw [cutL_map] at hp3 hp4 ⊢
      rw [← List.map_reverse]
      have hl2 := cutL_le ns none (some 63)
      generalize cutL ns none (some 63) = ns2 at hl2 hp4 hp3 ⊢
      have E1 : Ext m0 (((m0.set p2 (.lst (ns2.map D.int))).set p3 (.lst (ns2.map D.int))).set p4 (.lst (ns2.reverse.map D.int))) := (((Ext.new hp2).trans (Ext.new hp3)).trans (Ext.new hp4))
      have e4 : (((m0.set p2 (.lst (ns2.map D.int))).set p3 (.lst (ns2.map D.int))).set p4 (.lst (ns2.reverse.map D.int))).mu p4 = some (.lst (ns2.reverse.map D.int)) := M.set_same
      have f4 : m0.mu p4 = none := by
        cases e : m0.mu p4 with
        | none => rfl
        | some o => rw [((Ext.new hp2).trans (Ext.new hp3)).old _ _ e] at hp4; cases hp4
      generalize (((m0.set p2 (.lst (ns2.map D.int))).set p3 (.lst (ns2.map D.int))).set p4 (.lst (ns2.reverse.map D.int))) = m4 at E1 e4 ⊢
      have ne : pD ≠ p4 := fun z => by subst z; rw [e0] at f4; cases f4
      have f4m : m.mu p4 = none := by
        cases e : m.mu p4 with
        | none => rfl
        | some o => rw [E0.old _ _ e] at f4; cases f4
      refine ⟨E1.old _ _ e0, q pD p4 _ ((E0.trans E1).set e1) e1 f4m ne ⟨x, 0, ns2.reverse, ?_, ?_, h1, h2, by decide, by rw [List.length_reverse]; omega⟩⟩
      · rw [M.set_same]; with_unfolding_all rfl
      · rw [M.set_ne ne.symm]; exact e4


end
end PR

namespace PR
open PySem PySem.Spec PyProof.Rows L2 GA GxR DL PL TM

section
variable {P : Program} {w : World} {K : PySem.W.Frag} {mg : Str → Option Value} {base : Heap} {tl td t8 t3 : Tok} {aK aO aE aP P1 P2 : Addr} (T : Txt K mg w tl td t8 t3 aK aO aE aP) (Ok : M → Prop) (hOk : ∀ a b : M, Ok a → b.gh = a.gh → Ok b)
include T hOk

theorem c_law_draw {f : Addr} {fd : FuncData} (F : Fun K "_law_draw" "_law_draw" s_law_draw f fd) (hm : mg "_law_draw" = some (.ref f))  : DCal P w K mg base 1 "_law_draw" spDraw := by
  refine dcal F hm (F.binds (ps := ["deck", "many"]) fun _ _ _ _ _ _ us hl => match us, hl with | [_, _], _ => rfl) sc_law_draw (fun ds m Q h => ?_) (fun cdv A outer s H E hr => ⟨_, (dss_cons (ds_dput hr (de_var 0) de_str (de_add (de_dget hr (de_var 0) de_str) de_int))
      (dss_cons (ds_set (i := 2) sc_law_draw.nd rfl (by first | exact Or.inl rfl | exact Or.inr rfl) (de_add (de_dget hr (de_var 0) de_str) (de_mul de_int (de_dget hr (de_var 0) de_str))))
      (dss_cons (ds_if (dt_cmp (dc_ne hr) (de_dget hr (de_var 0) de_str) (de_lst da_nil)) (dss_cons (ds_set (i := 3) sc_law_draw.nd rfl (by first | exact Or.inl rfl | exact Or.inr rfl) (de_pop (de_dget hr (de_var 0) de_str)))
      (dss_cons (ds_if (dt_cmp dc_ge (de_var 3) (de_pow de_int de_int)) (dss_cons (ds_expr (de_append (de_dget hr (de_var 0) de_str) (de_fdiv (de_var 3) (de_blt (call_max2 rfl) argl_max (by rfl) T.max (by decide +kernel) (da_cons de_int (da_cons (de_var 1) da_nil))))))
      (dss_one (ds_ret (de_mod (de_bty call_int1 argl_int (by rfl) T.int (by decide +kernel) (da_cons (de_var 3) da_nil)) (de_var 1))))) dss_nil)
      (dss_one (ds_set (i := 2) sc_law_draw.nd rfl (by first | exact Or.inl rfl | exact Or.inr rfl) (de_add (de_var 2) (de_mod (de_bty call_int1 argl_int (by rfl) T.int (by decide +kernel) (da_cons (de_var 3) da_nil)) de_int)))))) dss_nil)
      (dss_cons (ds_set (i := 2) sc_law_draw.nd rfl (by first | exact Or.inl rfl | exact Or.inr rfl) (de_mod (de_bty call_int1 argl_int (by rfl) T.int (by decide +kernel) (da_cons (de_add (de_mul (de_var 2) de_int) de_int) da_nil)) de_int))
      (dss_cons (ds_set (i := 2) sc_law_draw.nd rfl (by first | exact Or.inl rfl | exact Or.inr rfl) (de_mod (de_bty call_int1 argl_int (by rfl) T.int (by decide +kernel) (da_cons (de_add (de_add (de_mul (de_var 2) (de_var 2)) (de_mul de_int (de_dget hr (de_var 0) de_str))) de_int) da_nil)) de_int))
      (dss_cons (ds_set (i := 2) sc_law_draw.nd rfl (by first | exact Or.inl rfl | exact Or.inr rfl) (de_mod (de_bty call_int1 argl_int (by rfl) T.int (by decide +kernel) (da_cons (de_mul (de_var 2) de_int) da_nil)) de_int))
      (dss_one (ds_ret (de_mod (de_bty call_int1 argl_int (by rfl) T.int (by decide +kernel) (da_cons (de_fdiv (de_var 2) de_int) da_nil)) (de_var 1)))))))))), fun ds m Q h => ?_⟩)
  · obtain ⟨aD, aC, n, rfl, _⟩ := h; rfl
  · obtain ⟨aD, aC, n, rfl, hn, hn2, hne, hd, q⟩ := h
    obtain ⟨x, k, ns, e1, e2, x1, x2, k1, nl⟩ := hd.ex
    have big : (52713 : Int) < 2 ^ 64 ∧ (61473 : Int) < 2 ^ 64 ∧ (39373 : Int) < 2 ^ 64 ∧ (40692 : Int) < 2 ^ 64 := by decide
    have g1 : ∀ {m' : M} {c : Int}, m'.mu aD = some (.dic (deckD aC x c)) → GetD m' aD (.str "draws") (some (.int c)) := fun h => .inl ⟨_, .inr "draws", h, rfl, dk_draws.symm⟩
    have g2 : ∀ {m' : M} {c : Int}, m'.mu aD = some (.dic (deckD aC x c)) → GetD m' aD (.str "mixed") (some (.int x)) := fun h => .inl ⟨_, .inr "mixed", h, rfl, dk_mixed.symm⟩
    have g3 : ∀ {m' : M} {c : Int}, m'.mu aD = some (.dic (deckD aC x c)) → GetD m' aD (.str "cells") (some (.ref aC)) := fun h => .inl ⟨_, .inr "cells", h, rfl, dk_cells.symm⟩
    have hk : 0 ≤ k + 1 := by omega
    refine seqR3 (fun δ m2 => (∃ (nb : Int) (d : Option D), δ = [some (.ref aD), some (.int n), some (.int nb), d]) ∧ Step' m m2 aD aC ∧ ∃ k2, m2.mu aD = some (.dic (deckD aC x k2))) ?_ fun R hR => ?_
    · rintro δ m2 ⟨⟨nb, d, rfl⟩, hs, k2, hk2⟩
      dsimp only [dRet, dSeq, dNext, dIfS, dSet, dExpr, dAsg, dPar, gD, dOp, dUn, dArgs, dCons, dNil, dC, dB, dNot, dCall, dMeth, dMeth0, dIf, dLst, dTup]
      dsimp only [dDPut, dDGet, dIfS, dOp, dB, dC, dLst, dNil, dCons, dArgs]
      refine dVar_at rfl (rI (Or.inr ⟨by decide, big.2.2.1⟩) (aI (iI (rI (by decide) ?_))))
      obtain ⟨l1, l2⟩ := emod_lt' (x := nb * 39373 + 37) (n := 2147483647) (by decide)
      generalize (nb * 39373 + 37) % 2147483647 = y1 at l1 l2 ⊢
      refine dVar_at rfl (dVar_at rfl (rI (Or.inl ⟨by omega, by omega⟩) (dVar_at rfl ⟨aD, _, rfl, g1 hk2, rI (Or.inl ⟨by decide, big.1⟩) (aI (aI (iI (rI (by decide) ?_))))⟩)))
      generalize (y1 * y1 + 52713 * k2 + 101) % 2147483587 = y2
      refine dVar_at rfl (rI (Or.inr ⟨by decide, big.2.2.2⟩) (iI (rI (by decide) ?_)))
      generalize y2 * 40692 % 2147483563 = y3
      exact dVar_at rfl (rI ⟨by decide, by decide⟩ (iI (dVar_at rfl (rI hn (q _ _ (emod_lt' hn).1 (emod_lt' hn).2 hs)))))
    dsimp only [dRet, dSeq, dNext, dIfS, dSet, dExpr, dAsg, dPar, gD, dOp, dUn, dArgs, dCons, dNil, dC, dB, dNot, dCall, dMeth, dMeth0, dIf, dLst, dTup]
    dsimp only [dDPut, dDGet, dIfS, dOp, dB, dC, dLst, dNil, dCons, dArgs]
    refine dVar_at rfl ⟨aD, _, rfl, g1 e1, aI (dVar_at rfl ⟨aD, rfl, .inl ⟨_, .inr "draws", e1, rfl, (by show 3 < sizeLine; decide), ?_⟩⟩)⟩
    rw [dk_put]
    have e3 : (m.set aD (.dic (deckD aC x (k + 1)))).mu aC = some (.lst (ns.map D.int)) := by rw [M.set_ne hne.symm]; exact e2
    have e4 : (m.set aD (.dic (deckD aC x (k + 1)))).mu aD = some (.dic (deckD aC x (k + 1))) := M.set_same
    have e5 : ∀ a o, a ≠ aD → a ≠ aC → m.mu a = some o → (m.set aD (.dic (deckD aC x (k + 1)))).mu a = some o := fun a o z1 z2 h => by rw [M.set_ne z1]; exact h
    have e6 : (m.set aD (.dic (deckD aC x (k + 1)))).gh = m.gh := rfl
    have e4' : (m.set aD (.dic [(.inr "cells", .ref aC), (.inr "mixed", .int x), (.inr "draws", .int (k + 1))])) = m.set aD (.dic (deckD aC x (k + 1))) := rfl
    rw [e4']
    generalize m.set aD (.dic (deckD aC x (k + 1))) = m1 at e3 e4 e5 e6 ⊢
    generalize k + 1 = k2 at e3 e4 e5 e6 hk ⊢
    refine dVar_at rfl ⟨aD, _, rfl, g2 e4, dVar_at rfl ⟨aD, _, rfl, g1 e4, rI (Or.inl ⟨by decide, big.2.1⟩) (aI ?_)⟩⟩
    generalize x + 61473 * k2 = nb
    refine dVar_at rfl ⟨aD, _, rfl, g3 e4, (by decide), fun p hp => ?_⟩
    have E1 : Ext m1 (m1.set p (.lst [])) := Ext.new hp
    refine ne_nil (E1.old _ _ e3) M.set_same (fun d hd => ?_) ⟨_, rfl, ?_⟩
    · obtain ⟨c, _, rfl⟩ := List.mem_map.mp hd; exact Fine.int c
    have e3 := E1.old _ _ e3
    have e4 := E1.old _ _ e4
    have e5 : ∀ a o, a ≠ aD → a ≠ aC → m.mu a = some o → (m1.set p (.lst [])).mu a = some o := fun a o z1 z2 h => E1.old _ _ (e5 a o z1 z2 h)
    have e6 : (m1.set p (.lst [])).gh = m.gh := e6
    generalize m1.set p (.lst []) = m2 at e3 e4 e5 e6 ⊢
    refine iff_T (fun hc => ?_) fun hc => ?_
    · obtain ⟨ns', c, rfl⟩ : ∃ ns' c, ns = ns' ++ [c] := by
        rcases List.eq_nil_or_concat ns with rfl | ⟨l, c, rfl⟩
        · cases hc
        · exact ⟨l, c, by simp⟩
      rw [List.map_append] at e3
      refine dVar_at rfl ⟨aD, _, rfl, g3 e4, ⟨aC, _, rfl, e3⟩, aC, _, .int c, rfl, rfl, e3, (by simp), ?_⟩
      have e7 : (ns'.map D.int ++ [c].map D.int).dropLast = ns'.map D.int := by simp
      rw [e7]
      have f3 : (m2.set aC (.lst (ns'.map D.int))).mu aC = some (.lst (ns'.map D.int)) := M.set_same
      have f4 : (m2.set aC (.lst (ns'.map D.int))).mu aD = some (.dic (deckD aC x k2)) := by rw [M.set_ne hne]; exact e4
      have f5 : ∀ a o, a ≠ aD → a ≠ aC → m.mu a = some o → (m2.set aC (.lst (ns'.map D.int))).mu a = some o := fun a o z1 z2 h => by rw [M.set_ne z2]; exact e5 a o z1 z2 h
      have f6 : (m2.set aC (.lst (ns'.map D.int))).gh = m.gh := e6
      generalize m2.set aC (.lst (ns'.map D.int)) = m3 at f3 f4 f5 f6 ⊢
      have nl' : ns'.length ≤ 62 := by simp at nl; omega
      refine dVar_at rfl (rI ⟨by decide, by decide, by decide⟩ (bI ⟨_, rfl, iff_T (fun hb => ?_) fun hb => ?_⟩))
      · have hj : 2 ≤ (if n > 2 then n else 2) ∧ (if n > 2 then n else 2) < 1073741824 := by split <;> omega
        refine dVar_at rfl ⟨aD, _, rfl, g3 f4, ⟨aC, _, rfl, f3⟩, dVar_at rfl (dVar_at rfl ⟨2, n, rfl, rI ⟨by omega, hj.2⟩ ⟨aC, _, _, rfl, rfl, f3, slk (by rw [List.length_map]; omega), ?_⟩⟩)⟩
        have e8 : ns'.map D.int ++ [D.int (c / if n > 2 then n else 2)] = (ns' ++ [c / if n > 2 then n else 2]).map D.int := by simp
        rw [e8]
        refine dVar_at rfl (iI (dVar_at rfl (rI hn (q _ _ (emod_lt' hn).1 (emod_lt' hn).2 ⟨f6, fun a o z1 z2 h => ?_, x, k2, _, ?_, M.set_same, x1, x2, hk, ?_⟩))))
        · rw [M.set_ne z2]; exact f5 a o z1 z2 h
        · rw [M.set_ne hne]; exact f4
        · rw [List.length_append]; show ns'.length + 1 ≤ 63; omega
      · exact dVar_at rfl (dVar_at rfl (iI (rI (by decide) (aI (hR _ _ ⟨⟨_, _, rfl⟩, ⟨f6, f5, x, k2, ns', f4, f3, x1, x2, hk, by omega⟩, k2, f4⟩)))))
    · exact hR _ _ ⟨⟨nb, _, rfl⟩, ⟨e6, e5, x, k2, ns, e4, e3, x1, x2, hk, nl⟩, k2, e4⟩


end
end PR

namespace PR
open PySem PySem.Spec PyProof.Rows L2 GA GxR DL PL TM

section
variable {P : Program} {w : World} {K : PySem.W.Frag} {mg : Str → Option Value} {base : Heap} {tl td t8 t3 : Tok} {aK aO aE aP P1 P2 : Addr} (T : Txt K mg w tl td t8 t3 aK aO aE aP) (Ok : M → Prop) (hOk : ∀ a b : M, Ok a → b.gh = a.gh → Ok b)
include T hOk

theorem c_law_ended {f : Addr} {fd : FuncData} (F : Fun K "_law_ended" "_law_ended" s_law_ended f fd) (hm : mg "_law_ended" = some (.ref f)) (c_law_pick : DCal P w K mg base 2 "_law_pick" spPick) (c_law_draw : DCal P w K mg base 1 "_law_draw" spDrawG) (c_law_name : DCal P w K mg base 3 "_law_name" spName) : DCal P w K mg base 4 "_law_ended" spEnded := by
  refine dcal F hm (F.binds (ps := ["deck", "host", "used"]) fun _ _ _ _ _ _ us hl => match us, hl with | [_, _, _], _ => rfl) sc_law_ended (fun ds m Q h => ?_) (fun cdv A outer s H E hr => ⟨_, (dss_cons (ds_set (i := 3) sc_law_ended.nd rfl (by first | exact Or.inl rfl | exact Or.inr rfl) (de_call c_law_pick hr (by decide) (by rfl) (da_cons (de_var 0) (da_cons (de_lst (da_cons (de_tup (da_cons (de_ix (de_ix (de_ix (de_var 1) de_int) de_int) de_int) (da_cons de_int da_nil))) (da_cons (de_tup (da_cons (de_ix (de_ix (de_ix (de_var 1) de_int) de_int) de_int) (da_cons de_int da_nil))) (da_cons (de_tup (da_cons (de_ix (de_ix (de_ix (de_var 1) de_int) de_int) de_int) (da_cons de_int da_nil))) (da_cons (de_tup (da_cons (de_call c_law_name hr (by decide) (by rfl) (da_cons (de_var 0) (da_cons (de_var 2) da_nil))) (da_cons de_int da_nil))) da_nil))))) da_nil))))
      (dss_cons (ds_par3 rfl sc_law_ended.nd (i := 4) (j := 5) (l := 6) rfl rfl rfl (by decide) (by decide) (by decide) rfl rfl rfl (da_cons (de_call c_law_draw hr (by decide) (by rfl) (da_cons (de_var 0) (da_cons de_int da_nil))) (da_cons (de_tup (da_cons (de_ix (de_ix (de_ix (de_var 1) de_int) de_int) de_int) (da_cons de_int da_nil))) (da_cons (de_call c_law_name hr (by decide) (by rfl) (da_cons (de_var 0) (da_cons (de_var 2) da_nil))) da_nil))) (by rfl))
      (dss_cons (ds_if (dt_cmp dc_lt (de_var 4) de_int) (dss_one (ds_ret (de_ifE (dt_cmp (dc_eq hr) (de_var 4) de_int) (de_tup (da_cons de_int (da_cons (de_tup (da_cons (de_var 3) (da_cons (de_var 5) da_nil))) (da_cons (de_ix (de_var 3) de_int) (da_cons de_bl da_nil))))) (de_tup (da_cons de_int (da_cons (de_tup (da_cons (de_var 5) (da_cons (de_var 3) da_nil))) (da_cons (de_ix (de_var 5) de_int) (da_cons de_bl da_nil)))))))) dss_nil)
      (dss_one (ds_ret (de_ifE (dt_cmp (dc_eq hr) (de_var 4) de_int) (de_tup (da_cons de_int (da_cons (de_tup (da_cons (de_var 6) (da_cons (de_var 3) da_nil))) (da_cons (de_var 6) (da_cons de_bl da_nil))))) (de_tup (da_cons de_int (da_cons (de_tup (da_cons (de_var 6) (da_cons (de_var 3) (da_cons (de_tup da_nil) da_nil)))) (da_cons (de_var 6) (da_cons de_bl da_nil))))))))))), fun ds m Q h => ?_⟩)
  · obtain ⟨d, h, u, us, a, b, c, e, g, s, r1, r2, r3, o, rfl, _⟩ := h; rfl
  · obtain ⟨d, h, u, us, a, b, c, e, g, s, r1, r2, r3, o, rfl, hd, hK, hu, hul, q⟩ := h
    obtain ⟨h0, h1, h2, h3, nd, x, x0, x1, x2, x3⟩ := (hK m ((Ext.refl m).chg u)).ex
    dsimp only [dRet, dSeq, dNext, dIfS, dSet, dExpr, dAsg, dPar, dPar3, gD, dOp, dUn, dArgs, dCons, dNil, dC, dB, dNot, dCall, dMeth, dMeth0, dIf, dLst, dTup, dSl, dNoPart, dPart, dM1, dOr, dAnd, dAndV, dOrV, dDGet, dSlA, dGet1]
    refine dVar_at rfl (dVar_at rfl (ixL (k := 0) x rfl (ixL (k := 0) x0 rfl ⟨_, rfl, slk (by simp), dVar_at rfl (ixL (k := 0) x rfl (ixL (k := 2) x0 rfl ⟨_, rfl, slk (by simp), dVar_at rfl (ixL (k := 2) x rfl (ixL (k := 0) x2 rfl ⟨_, rfl, slk (by simp), ?_⟩))⟩))⟩)))
    refine dVar_at rfl (dVar_at rfl ⟨d, u, us, rfl, hd, hu, by omega, fun f m1 hf hfn C1 hu1 => ⟨slk (by simp), slk (by simp), fun p1 hp1 => ?_⟩⟩)
    dsimp only
    refine pickL (hd.ext C1.gh) (by simp) (by simp) fun y hy => ?_
    obtain ⟨ex, rfl, hex⟩ : ∃ ex : PL.End, y = endD ex ∧ NoEnd a c g f ex := by
      simp only [List.mem_cons, List.not_mem_nil, or_false] at hy
      rcases hy with rfl | rfl | rfl | rfl
      · exact ⟨(a, 2), rfl, .inl rfl⟩
      · exact ⟨(c, 3), rfl, .inr (.inl rfl)⟩
      · exact ⟨(g, 0), rfl, .inr (.inr (.inl rfl))⟩
      · exact ⟨(f, 0), rfl, .inr (.inr (.inr rfl))⟩
    have C2 := C1.ext (Ext.new (o := .lst [.tup [.str a, .int 2], .tup [.str c, .int 3], .tup [.str g, .int 0], .tup [.str f, .int 0]]) hp1)
    have hu2 := (Ext.new (o := .lst [.tup [.str a, .int 2], .tup [.str c, .int 3], .tup [.str g, .int 0], .tup [.str f, .int 0]]) hp1).old _ _ hu1
    generalize m1.set p1 (.lst [.tup [.str a, .int 2], .tup [.str c, .int 3], .tup [.str g, .int 0], .tup [.str f, .int 0]]) = m2 at C2 hu2 ⊢
    obtain ⟨k0, k1, k2, k3, nd', z, z0, z1, z2, z3⟩ := (hK m2 C2).ex
    refine dVar_at rfl (drw (hd.ext C2.gh) (by decide) (by decide) fun w w0 w1 => dVar_at rfl (ixL (k := 0) z rfl (ixL (k := 3) z0 rfl ⟨_, rfl, slk (by simp), ?_⟩)))
    refine dVar_at rfl (dVar_at rfl ⟨d, u, us ++ [f], rfl, hd.ext C2.gh, hu2, by rw [List.length_append]; simp only [List.length_cons, List.length_nil]; omega, fun nm m3 hn hnn C3 hu3 => ⟨_, _, _, rfl, ?_⟩⟩)
    have C4 := C2.trans C3
    have hu4 : m3.mu u = some (.lst ((us ++ [f, nm]).map D.str)) := by rw [hu3, List.append_assoc]; rfl
    refine dVar_at rfl (bI ⟨_, rfl, iff_T (fun _ => ?_) fun _ => ?_⟩)
    · refine dVar_at rfl (eqI ⟨_, rfl, iff_T (fun _ => ?_) fun _ => ?_⟩)
      · exact dVar_at rfl (dVar_at rfl ⟨slk (by simp), dVar_at rfl (endD_ix0 ⟨slk (by simp), q (.jo (ex, (e, 1))) ex.1 f nm m3 (.j1 hex) hf hn hfn hnn C4 hu4⟩)⟩)
      · exact dVar_at rfl (dVar_at rfl ⟨slk (by simp), dVar_at rfl ⟨_, rfl, slk (by simp), q (.jo ((e, 1), ex)) e f nm m3 (.j2 hex) hf hn hfn hnn C4 hu4⟩⟩)
    · refine dVar_at rfl (eqI ⟨_, rfl, iff_T (fun _ => ?_) fun _ => ?_⟩)
      · exact dVar_at rfl (dVar_at rfl ⟨slk (by simp), dVar_at rfl ⟨slk (by simp), q (.ga (nm, ex)) nm f nm m3 (.ga hex) hf hn hfn hnn C4 hu4⟩⟩)
      · exact dVar_at rfl (dVar_at rfl ⟨slk (by simp), slk (by simp), dVar_at rfl ⟨slk (by simp), q (.si (nm, ex, none)) nm f nm m3 (.si hex) hf hn hfn hnn C4 hu4⟩⟩)

end
end PR

namespace PR
open PySem PySem.Spec PyProof.Rows L2 GA GxR DL PL TM

section
variable {P : Program} {w : World} {K : PySem.W.Frag} {mg : Str → Option Value} {base : Heap} {tl td t8 t3 : Tok} {aK aO aE aP P1 P2 : Addr} (T : Txt K mg w tl td t8 t3 aK aO aE aP) (Ok : M → Prop) (hOk : ∀ a b : M, Ok a → b.gh = a.gh → Ok b)
include T hOk

theorem c_law_host {f : Addr} {fd : FuncData} (F : Fun K "_law_host" "_law_host" s_law_host f fd) (hm : mg "_law_host" = some (.ref f)) (c_law_name : DCal P w K mg base 3 "_law_name" spName) (c_law_draw : DCal P w K mg base 1 "_law_draw" spDrawG) : DCal P w K mg base 5 "_law_host" spHost := by
  refine dcal F hm (F.binds (ps := ["deck", "used"]) fun _ _ _ _ _ _ us hl => match us, hl with | [_, _], _ => rfl) sc_law_host (fun ds m Q h => ?_) (fun cdv A outer s H E hr => ⟨_, (dss_cons (ds_asgL rfl (de_lc (own := [("turn", 8)]) rfl sc_law_host.nd (dpi_range (by rfl) T.range de_int) (blkOk_by (N := ["deck", "used", "joints", "over", "one", "two", "three", "four", "turn", "joint"]) (sc := defScope s_law_host) (by decide +kernel)) (fun _ _ _ _ _ => (dg_name (i := 8) sc_law_host.nd rfl (by first | exact Or.inl rfl | exact Or.inr rfl))) (fun _ _ _ _ _ => dpts_nil) (fun _ _ _ _ _ => (de_call c_law_name hr (by decide) (by rfl) (da_cons (de_var 0) (da_cons (de_var 1) da_nil))))) (dgs_cons (pg_name (i := 4) sc_law_host.nd rfl (by first | exact Or.inl rfl | exact Or.inr rfl)) (dgs_cons (pg_name (i := 5) sc_law_host.nd rfl (by first | exact Or.inl rfl | exact Or.inr rfl)) (dgs_cons (pg_name (i := 6) sc_law_host.nd rfl (by first | exact Or.inl rfl | exact Or.inr rfl)) (dgs_cons (pg_name (i := 7) sc_law_host.nd rfl (by first | exact Or.inl rfl | exact Or.inr rfl)) dgs_nil)))))
      (dss_cons (ds_set (i := 2) sc_law_host.nd rfl (by first | exact Or.inl rfl | exact Or.inr rfl) (de_lst (da_cons (de_tup (da_cons (de_tup (da_cons (de_var 4) (da_cons de_int da_nil))) (da_cons (de_tup (da_cons (de_var 5) (da_cons de_int da_nil))) da_nil))) (da_cons (de_tup (da_cons (de_tup (da_cons (de_var 5) (da_cons de_int da_nil))) (da_cons (de_tup (da_cons (de_var 6) (da_cons de_int da_nil))) da_nil))) (da_cons (de_tup (da_cons (de_tup (da_cons (de_var 6) (da_cons de_int da_nil))) (da_cons (de_tup (da_cons (de_var 7) (da_cons de_int da_nil))) da_nil))) da_nil)))))
      (dss_cons (ds_setLc (i := 2) (own := [("joint", 9)]) rfl sc_law_host.nd rfl rfl (sw_true rfl rfl rfl (by decide +kernel)) (dpi_list (de_var 2)) (blkOk_by (N := ["deck", "used", "joints", "over", "one", "two", "three", "four", "turn", "joint"]) (sc := defScope s_law_host) (by decide +kernel)) (fun _ _ _ _ _ => (dg_name (i := 9) sc_law_host.nd rfl (by first | exact Or.inl rfl | exact Or.inr rfl))) (fun _ _ _ _ _ => dpts_nil) (fun _ _ _ _ _ => (de_ifE (dt_cmp (dc_eq hr) (de_call c_law_draw hr (by decide) (by rfl) (da_cons (de_var 0) (da_cons de_int da_nil))) de_int) (de_var 9) (de_revT (de_var 9)))))
      (dss_cons (ds_set (i := 3) sc_law_host.nd rfl (by first | exact Or.inl rfl | exact Or.inr rfl) (de_ifE (dt_cmp (dc_eq hr) (de_call c_law_draw hr (by decide) (by rfl) (da_cons (de_var 0) (da_cons de_int da_nil))) de_int) (de_tup (da_cons (de_tup (da_cons (de_var 5) (da_cons de_int (da_cons de_int da_nil)))) da_nil)) (de_tup da_nil)))
      (dss_one (ds_ret (de_lst (da_cons (de_lst (da_cons (de_tup (da_cons (de_var 4) (da_cons de_str da_nil))) (da_cons (de_tup (da_cons (de_var 5) (da_cons de_str da_nil))) (da_cons (de_tup (da_cons (de_var 6) (da_cons de_str da_nil))) (da_cons (de_tup (da_cons (de_var 7) (da_cons de_str da_nil))) da_nil))))) (da_cons (de_var 2) (da_cons (de_lst (da_cons (de_tup (da_cons (de_call c_law_name hr (by decide) (by rfl) (da_cons (de_var 0) (da_cons (de_var 1) da_nil))) (da_cons (de_tup (da_cons (de_var 4) (da_cons de_int da_nil))) da_nil))) da_nil)) (da_cons (de_lst (da_cons (de_tup (da_cons (de_call c_law_name hr (by decide) (by rfl) (da_cons (de_var 0) (da_cons (de_var 1) da_nil))) (da_cons (de_tup (da_cons (de_var 4) (da_cons de_int da_nil))) (da_cons (de_var 3) da_nil)))) da_nil)) da_nil))))))))))), fun ds m Q h => ?_⟩)
  · obtain ⟨d, u, us, rfl, _⟩ := h; rfl
  · obtain ⟨d, u, us, rfl, hd, hu, hul, q⟩ := h
    refine seqR1 (fun δ m2 => ∃ (a b c e : Str) (p : Addr) (d8 d9 : Option D), δ = [some d, some (.ref u), none, none, some (.str a), some (.str b), some (.str c), some (.str e), d8, d9] ∧ Chg u m m2 ∧ NV us (us ++ [a, b, c, e]) [a, b, c, e] ∧ (∀ n ∈ [a, b, c, e], nameS n = true) ∧ m2.mu u = some (.lst ((us ++ [a, b, c, e]).map D.str))) ?_ (fun R hR => seqI ?_)
    · rintro δ m2 ⟨a, b, c, e, p, d8, d9, rfl, C2, hnv, hns, hu2⟩
      refine seqI ?_
      dsimp only [dSet, dLst, dTup, dCons, dNil, dC]
      refine dVar_at rfl ⟨slk (by simp), dVar_at rfl ⟨slk (by simp), slk (by simp), dVar_at rfl ⟨slk (by simp), dVar_at rfl ⟨slk (by simp), slk (by simp), dVar_at rfl ⟨slk (by simp), dVar_at rfl ⟨slk (by simp), slk (by simp), slk (by simp), fun pj hpj => ?_⟩⟩⟩⟩⟩⟩
      have eq3 : m2.set pj (.lst [.tup [.tup [.str a, .int 1], .tup [.str b, .int 0]], .tup [.tup [.str b, .int 1], .tup [.str c, .int 0]], .tup [.tup [.str c, .int 1], .tup [.str e, .int 0]]]) = m2.set pj (.lst ([((a, 1), (b, 0)), ((b, 1), (c, 0)), ((c, 1), (e, 0))].map joD)) := rfl
      rw [eq3]
      have C3 := C2.ext (Ext.new (o := .lst ([((a, 1), (b, 0)), ((b, 1), (c, 0)), ((c, 1), (e, 0))].map joD)) hpj)
      have hu3 := (Ext.new (o := .lst ([((a, 1), (b, 0)), ((b, 1), (c, 0)), ((c, 1), (e, 0))].map joD)) hpj).old _ _ hu2
      have hj3 : (m2.set pj (.lst ([((a, 1), (b, 0)), ((b, 1), (c, 0)), ((c, 1), (e, 0))].map joD))).mu pj = _ := M.set_same
      generalize m2.set pj (.lst ([((a, 1), (b, 0)), ((b, 1), (c, 0)), ((c, 1), (e, 0))].map joD)) = m3 at C3 hu3 hj3 ⊢
      refine seqI ?_
      dsimp only [dSet]
      refine dLC_gen (I := fun _ => True) (Rel := fun x o => ∃ (j : PL.End × PL.End) (r : Bool), x = joD j ∧ o = some (joD (revJ r j))) trivial (fun _ _ _ _ => trivial) (iL_w (xs := [((a, 1), (b, 0)), ((b, 1), (c, 0)), ((c, 1), (e, 0))].map joD) (fun R hR => dVar_at rfl hR) hj3) (slk (by simp)) (fun x hx m' hE' _ Ry Rn hy hn => ?_) (fun h1 m4 ys hh1 hE4 _ hm4 ho => ?_)
      · obtain ⟨j, hj, rfl⟩ := List.mem_map.mp hx
        dsimp only [dRet, dSeq, dNext, dIfS, dSet, dExpr, dAsg, dPar, dPar3, gD, dOp, dUn, dArgs, dCons, dNil, dC, dB, dNot, dCall, dMeth, dMeth0, dIf, dLst, dTup, dSl, dNoPart, dPart, dM1, dOr, dAnd, dAndV, dOrV, dDGet, dSlA, dGet1]
        refine yesT (dVar_at rfl (drw (hd.ext (hE'.gh.trans C3.gh)) (by decide) (by decide) fun r r0 r1 => eqI ⟨_, rfl, iff_T (fun _ => dVar_at rfl (hy _ _ ⟨j, false, rfl, rfl⟩ (Ext.refl _))) fun _ => dVar_at rfl ⟨_, rfl, hy _ _ ⟨j, true, rfl, rfl⟩ (Ext.refl _)⟩⟩))
      · obtain ⟨r1, r2, r3, hys⟩ : ∃ r1 r2 r3 : Bool, ys = [revJ r1 ((a, 1), (b, 0)), revJ r2 ((b, 1), (c, 0)), revJ r3 ((c, 1), (e, 0))].map joD := by
          have one : ∀ {j : PL.End × PL.End} {l : List D} {ys : List D}, Outs (fun x o => ∃ (j : PL.End × PL.End) (r : Bool), x = joD j ∧ o = some (joD (revJ r j))) (joD j :: l) ys → ∃ r ys', ys = joD (revJ r j) :: ys' ∧ Outs (fun x o => ∃ (j : PL.End × PL.End) (r : Bool), x = joD j ∧ o = some (joD (revJ r j))) l ys' := fun {j l ys} h => by
            cases h with
            | keep hr t =>
              obtain ⟨j2, r, e1, e2⟩ := hr
              cases e2
              rw [joD_inj e1]
              exact ⟨r, _, rfl, t⟩
            | skip hr t =>
              obtain ⟨j2, r, e1, e2⟩ := hr
              cases e2
          obtain ⟨r1, y1, rfl, o1⟩ := one ho
          obtain ⟨r2, y2, rfl, o2⟩ := one o1
          obtain ⟨r3, y3, rfl, o3⟩ := one o2
          cases o3
          exact ⟨r1, r2, r3, rfl⟩
        subst hys
        have C4 := C3.ext hE4
        have hu4 := hE4.old _ _ hu3
        refine seqR1 (fun δ m5 => ∃ (o : Option PL.Step) (d8 d9 : Option D), δ = [some d, some (.ref u), some (.ref h1), some (ovD o), some (.str a), some (.str b), some (.str c), some (.str e), d8, d9] ∧ m5 = m4 ∧ (o = none ∨ o = some (b, 0, 1))) ?_ (fun R hR => seqI ?_)
        · rintro δ m5 ⟨o, d8, d9, rfl, rfl, ho⟩
          dsimp only [dRet, dSeq, dNext, dIfS, dSet, dExpr, dAsg, dPar, dPar3, gD, dOp, dUn, dArgs, dCons, dNil, dC, dB, dNot, dCall, dMeth, dMeth0, dIf, dLst, dTup, dSl, dNoPart, dPart, dM1, dOr, dAnd, dAndV, dOrV, dDGet, dSlA, dGet1]
          refine dVar_at rfl ⟨slk (by simp), dVar_at rfl ⟨slk (by simp), dVar_at rfl ⟨slk (by simp), dVar_at rfl ⟨slk (by simp), slk (by simp), fun h0 hh0 => ?_⟩⟩⟩⟩
          have eq5 : m5.set h0 (.lst [.tup [.str a, .str "plain"], .tup [.str b, .str "plain"], .tup [.str c, .str "points"], .tup [.str e, .str "plain"]]) = m5.set h0 (.lst (([(a, "plain"), (b, "plain"), (c, "points"), (e, "plain")] : List (Str × Str)).map strD)) := rfl
          rw [eq5]
          have E5 := Ext.new (o := .lst (([(a, "plain"), (b, "plain"), (c, "points"), (e, "plain")] : List (Str × Str)).map strD)) hh0
          have C5 := C4.ext E5
          have hu5 := E5.old _ _ hu4
          have k1 := E5.old _ _ hm4
          have k0 : (m5.set h0 (.lst (([(a, "plain"), (b, "plain"), (c, "points"), (e, "plain")] : List (Str × Str)).map strD))).mu h0 = _ := M.set_same
          have nu0 := neOf hu4 hh0
          have nu1 := neOf hu3 hh1
          have n10 := neOf hm4 hh0
          generalize m5.set h0 (.lst (([(a, "plain"), (b, "plain"), (c, "points"), (e, "plain")] : List (Str × Str)).map strD)) = m6 at C5 hu5 k1 k0 ⊢
          have len4 : (us ++ [a, b, c, e]).length < 60 := by rw [List.length_append]; simp only [List.length_cons, List.length_nil]; omega
          refine dVar_at rfl (dVar_at rfl (dVar_at rfl ⟨d, u, us ++ [a, b, c, e], rfl, hd.ext C5.gh, hu5, len4, fun g m7 hg hgn C7 hu7 => dVar_at rfl ⟨slk (by simp), slk (by simp), slk (by simp), fun h2 hh2 => ?_⟩⟩))
          have j1 := C7.old _ _ nu1.symm k1
          have j0 := C7.old _ _ nu0.symm k0
          have C7' : Chg u m m7 := ⟨C7.gh.trans C5.gh, fun x o z w => C7.old x o z (C5.old x o z w)⟩
          have eq7 : m7.set h2 (.lst [.tup [.str g, .tup [.str a, .int 0]]]) = m7.set h2 (.lst (([(g, (a, 0))] : List (Str × PL.End)).map gaD)) := rfl
          rw [eq7]
          have E8 := Ext.new (o := .lst (([(g, (a, 0))] : List (Str × PL.End)).map gaD)) hh2
          have C8 := C7'.ext E8
          have hu8 := E8.old _ _ hu7
          have i1 := E8.old _ _ j1
          have i0 := E8.old _ _ j0
          have i2 : (m7.set h2 (.lst (([(g, (a, 0))] : List (Str × PL.End)).map gaD))).mu h2 = _ := M.set_same
          have nu2 := neOf hu7 hh2
          have n12 := neOf j1 hh2
          have n02 := neOf j0 hh2
          generalize m7.set h2 (.lst (([(g, (a, 0))] : List (Str × PL.End)).map gaD)) = m8 at C8 hu8 i1 i0 i2 ⊢
          have len5 : (us ++ [a, b, c, e] ++ [g]).length < 60 := by rw [List.length_append, List.length_append]; simp only [List.length_cons, List.length_nil]; omega
          refine dVar_at rfl (dVar_at rfl ⟨d, u, us ++ [a, b, c, e] ++ [g], rfl, hd.ext C8.gh, hu8, len5, fun s m9 hs hsn C9 hu9 => dVar_at rfl ⟨slk (by simp), dVar_at rfl ⟨slk (by simp), slk (by simp), fun h3 hh3 => ?_⟩⟩⟩)
          have l1 := C9.old _ _ nu1.symm i1
          have l0 := C9.old _ _ nu0.symm i0
          have l2 := C9.old _ _ nu2.symm i2
          have C9' : Chg u m m9 := ⟨C9.gh.trans C8.gh, fun x o z w => C9.old x o z (C8.old x o z w)⟩
          have eq9 : m9.set h3 (.lst [.tup [.str s, .tup [.str a, .int 1], ovD o]]) = m9.set h3 (.lst (([(s, (a, 1), o)] : List (Str × PL.End × Option PL.Step)).map siD)) := rfl
          rw [eq9]
          have E10 := Ext.new (o := .lst (([(s, (a, 1), o)] : List (Str × PL.End × Option PL.Step)).map siD)) hh3
          have C10 := C9'.ext E10
          have hu10 := E10.old _ _ hu9
          have q0 := E10.old _ _ l0
          have q1 := E10.old _ _ l1
          have q2 := E10.old _ _ l2
          have q3 : (m9.set h3 (.lst (([(s, (a, 1), o)] : List (Str × PL.End × Option PL.Step)).map siD))).mu h3 = _ := M.set_same
          have n03 := neOf l0 hh3
          have n13 := neOf l1 hh3
          have n23 := neOf l2 hh3
          generalize m9.set h3 (.lst (([(s, (a, 1), o)] : List (Str × PL.End × Option PL.Step)).map siD)) = m10 at C10 hu10 q0 q1 q2 q3 ⊢
          refine ⟨slk (by simp), fun h hh => ?_⟩
          have E11 := Ext.new (o := .lst [.ref h0, .ref h1, .ref h2, .ref h3]) hh
          have fresh6 : ∀ n ∈ [a, b, c, e, g, s], nameS n = true ∧ n ∉ us := fun n hn => by
            simp only [List.mem_cons, List.not_mem_nil, or_false] at hn
            have old : n ∈ [a, b, c, e] → nameS n = true ∧ n ∉ us := fun z => ⟨hns n z, hnv.new n z⟩
            rcases hn with rfl | rfl | rfl | rfl | rfl | rfl
            · exact old (by simp)
            · exact old (by simp)
            · exact old (by simp)
            · exact old (by simp)
            · exact ⟨hg, fun z => hgn (List.mem_append_left _ z)⟩
            · exact ⟨hs, fun z => hsn (List.mem_append_left _ (List.mem_append_left _ z))⟩
          have nd6 : [a, b, c, e, g, s].Nodup := by
            have n4 := hnv.nd
            have e6 : [a, b, c, e, g, s] = [a, b, c, e] ++ [g] ++ [s] := rfl
            rw [e6]
            refine List.nodup_append.mpr ⟨List.nodup_append.mpr ⟨n4, by simp, fun x hx y hy z => ?_⟩, by simp, fun x hx y hy z => ?_⟩
            · rw [List.mem_singleton.mp hy] at z
              exact hgn (List.mem_append_right _ (z ▸ hx))
            · rw [List.mem_singleton.mp hy] at z
              refine hsn ?_
              rw [← z]
              rcases List.mem_append.mp hx with hx | hx
              · exact List.mem_append_left _ (List.mem_append_right _ hx)
              · exact List.mem_append_right _ hx
          refine q h _ a b c e g s r1 r2 r3 o (C10.ext E11) ⟨nd6, ho⟩ fresh6 ⟨h0, h1, h2, h3, ?_, M.set_same, E11.old _ _ q0, E11.old _ _ q1, E11.old _ _ q2, E11.old _ _ q3⟩ ?_
          · have a0 := neOf q0 hh; have a1 := neOf q1 hh; have a2 := neOf q2 hh; have a3 := neOf q3 hh
            simp only [List.nodup_cons, List.mem_cons, List.not_mem_nil, or_false, not_or, List.nodup_nil, and_true, not_false_eq_true]
            exact ⟨⟨a0.symm, a1.symm, a2.symm, a3.symm⟩, ⟨n10.symm, n02, n03⟩, ⟨n12, n13⟩, n23⟩
          · rw [E11.old _ _ hu10]
            simp
        · dsimp only [dSet]
          dsimp only [dRet, dSeq, dNext, dIfS, dSet, dExpr, dAsg, dPar, dPar3, gD, dOp, dUn, dArgs, dCons, dNil, dC, dB, dNot, dCall, dMeth, dMeth0, dIf, dLst, dTup, dSl, dNoPart, dPart, dM1, dOr, dAnd, dAndV, dOrV, dDGet, dSlA, dGet1]
          refine dVar_at rfl (drw (hd.ext C4.gh) (by decide) (by decide) fun r r0 r1 => eqI ⟨_, rfl, iff_T (fun _ => ?_) fun _ => ?_⟩)
          · exact dVar_at rfl ⟨slk (by simp), slk (by simp), hR _ _ ⟨some (b, 0, 1), _, _, rfl, rfl, .inr rfl⟩⟩
          · exact ⟨slk (by simp), hR _ _ ⟨none, _, _, rfl, rfl, .inl rfl⟩⟩
    · dsimp only [dAsgL]
      refine ⟨4, rfl, by decide, by decide, fun p hp => ⟨fun i m' => ∃ ns : List Str, ns.length = i ∧ NV us (us ++ ns) ns ∧ (∀ n ∈ ns, nameS n = true) ∧ Chg u m m' ∧ m'.mu u = some (.lst ((us ++ ns).map D.str)) ∧ m'.mu p = some (.lst (ns.map D.str)), ⟨[], rfl, by simpa using NV.init us, by simp, (Ext.new hp).chg u, by simpa using (Ext.new hp).old _ _ hu, M.set_same⟩, fun _ _ _ => trivial, ?_, ?_⟩⟩
      · rintro i dd m' hi ⟨ns, hl, hv, hn, C, hu', hp'⟩
        have hi4 : i < 4 := by
          have := (List.getElem?_eq_some_iff.mp hi).1
          rw [rangeD_len] at this; exact this
        have npu : p ≠ u := (neOf hu hp).symm
        dsimp only [gD, dYes, dCall, dCons, dNil]
        refine ifT rfl (dVar_at rfl (dVar_at rfl ⟨d, u, us ++ ns, rfl, hd.ext C.gh, hu', by rw [List.length_append]; omega, fun s m4 hs hns C4 hu4 => ⟨ns.map D.str, C4.old _ _ npu hp', slt (by rw [List.length_map]; omega), ns ++ [s], by rw [List.length_append, hl]; rfl, ?_, ?_, ?_, ?_, ?_⟩⟩))
        · have := hv.step hns
          rw [List.append_assoc] at this; exact this
        · intro x hx
          rcases List.mem_append.mp hx with hx | hx
          · exact hn x hx
          · rw [List.mem_singleton.mp hx]; exact hs
        · have Cx : Chg u m m4 := ⟨C4.gh.trans C.gh, fun x o z w => C4.old x o z (C.old x o z w)⟩
          exact ⟨Cx.gh, fun x o z w => by rw [M.set_ne (neOf w hp)]; exact Cx.old x o z w⟩
        · rw [M.set_ne npu.symm, hu4, List.append_assoc]
        · rw [M.set_same, List.map_append]; rfl
      · rintro m' ⟨ns, hl, hv, hn, C, hu', hp'⟩
        have hl : ns.length = 4 := by rw [hl, rangeD_len]; rfl
        obtain ⟨a, b, c, e, rfl⟩ : ∃ a b c e : Str, ns = [a, b, c, e] := by
          match ns, hl with
          | [a, b, c, e], _ => exact ⟨a, b, c, e, rfl⟩
        exact ⟨p, _, rfl, hp', rfl, hR _ _ ⟨a, b, c, e, p, _, _, rfl, C, hv, hn, hu'⟩⟩

end
end PR

namespace PR
open PySem PySem.Spec PyProof.Rows L2 GA GxR DL PL TM

section
variable {P : Program} {w : World} {K : PySem.W.Frag} {mg : Str → Option Value} {base : Heap} {tl td t8 t3 : Tok} {aK aO aE aP P1 P2 : Addr} (T : Txt K mg w tl td t8 t3 aK aO aE aP) (Ok : M → Prop) (hOk : ∀ a b : M, Ok a → b.gh = a.gh → Ok b)
include T hOk

theorem c_law_is_told {f : Addr} {fd : FuncData} (F : Fun K "_law_is_told" "_law_is_told" s_law_is_told f fd) (hm : mg "_law_is_told" = some (.ref f)) (c_fault : DCal P w K mg base 13 "fault" (spPlT Ok fun p => optF (faultP p))) (c_is_checked : DCal P w K mg base 14 "is_checked" (spPlT Ok fun p => .bl (faultP p).isNone)) : DCalG P w K mg base 15 "_law_is_told" (spTold Ok) := by
  refine dcalG F hm (F.binds (ps := ["parts", "wrong"]) fun _ _ _ _ _ _ us hl => match us, hl with | [_, _], _ => rfl) sc_law_is_told (fun ds m Q h => ?_) (fun cdv A outer s H E hr ng => ⟨_, (dss_cons (ds_set (i := 2) sc_law_is_told.nd rfl (by first | exact Or.inl rfl | exact Or.inr rfl) (de_bty call_tuple_of argl_tuple (by rfl) T.tuple (by decide +kernel) (da_cons (de_lc (own := [("part", 5)]) rfl sc_law_is_told.nd (dpi_list (de_var 0)) (blkOk_by (N := ["parts", "wrong", "plan", "due", "first", "part", "kind", "it"]) (sc := defScope s_law_is_told) (by decide +kernel)) (fun _ _ _ _ _ => (dg_name (i := 5) sc_law_is_told.nd rfl (by first | exact Or.inl rfl | exact Or.inr rfl))) (fun _ _ _ _ _ => dpts_nil) (fun _ _ _ _ _ => (de_bty call_tuple_of argl_tuple (by rfl) T.tuple (by decide +kernel) (da_cons (de_var 5) da_nil)))) da_nil)))
      (dss_cons (ds_set (i := 3) sc_law_is_told.nd rfl (by first | exact Or.inl rfl | exact Or.inr rfl) de_non)
      (dss_cons (ds_if (dt_cmp (dc_ne hr) (de_var 1) (de_lst da_nil)) (dss_cons (ds_set (i := 4) sc_law_is_told.nd rfl (by first | exact Or.inl rfl | exact Or.inr rfl) (de_ix (de_sorted hr (by rfl) T.sorted (by decide +kernel) (da_cons (de_lc (own := [("kind", 6), ("it", 7)]) rfl sc_law_is_told.nd (dpi_list (de_var 1)) (blkOk_by (N := ["parts", "wrong", "plan", "due", "first", "part", "kind", "it"]) (sc := defScope s_law_is_told) (by decide +kernel)) (fun _ _ _ _ _ => (dg_tup rfl (dgs_cons (pg_name (i := 6) sc_law_is_told.nd rfl (by first | exact Or.inl rfl | exact Or.inr rfl)) (dgs_cons (pg_name (i := 7) sc_law_is_told.nd rfl (by first | exact Or.inl rfl | exact Or.inr rfl)) dgs_nil)))) (fun _ _ _ _ _ => dpts_nil) (fun _ _ _ _ _ => (de_tup (da_cons (de_var 6) (da_cons (de_ix (de_var 7) de_int) (da_cons (de_index hr (de_ix (de_var 0) (de_ix (de_var 7) de_int)) (de_ix (de_var 7) de_int)) (da_cons (de_ix (de_var 7) de_int) da_nil))))))) da_nil)) de_int))
      (dss_one (ds_set (i := 3) sc_law_is_told.nd rfl (by first | exact Or.inl rfl | exact Or.inr rfl) (de_tup (da_cons (de_ix (de_tup (da_cons de_str (da_cons de_str (da_cons de_str (da_cons de_str (da_cons de_str (da_cons de_str da_nil))))))) (de_ix (de_var 4) de_int)) (da_cons (de_ix (de_var 4) de_int) da_nil)))))) dss_nil)
      (dss_one (ds_ret (de_cmp (dc_eq hr) (de_repr hr ng (by rfl) T.repr (by decide +kernel) (da_cons (de_tup (da_cons (de_call c_fault hr (by decide) (by rfl) (da_cons (de_var 2) da_nil)) (da_cons (de_call c_is_checked hr (by decide) (by rfl) (da_cons (de_var 2) da_nil)) da_nil))) da_nil)) (de_repr hr ng (by rfl) T.repr (by decide +kernel) (da_cons (de_tup (da_cons (de_var 3) (da_cons (de_cmp (dc_eq hr) (de_var 1) (de_lst da_nil)) da_nil))) da_nil)))))))), fun ds m Q h => ?_⟩)
  · obtain ⟨h, u, q, ws, due, rfl, _⟩ := h; rfl
  · obtain ⟨h, u, q, ws, due, rfl, hH, hu, ⟨hq, hO⟩, hl, hw, hok, hf, hd, qq⟩ := h
    obtain ⟨h0, h1, h2, h3, nd, x, x0, x1, x2, x3⟩ := hH.ex
    have wf : ∀ d ∈ ws.map wrD, Fine d := fun d hd => by
      obtain ⟨z, hz, rfl⟩ := List.mem_map.mp hd
      exact wrD_fine (hw z hz).2.1 (hw z hz).2.2
    refine seqR3 (fun δ m2 => ∃ d4 d5 d6 d7 : Option D, δ = [some (.ref h), some (.ref u), some q.d, some (optF due), d4, d5, d6, d7] ∧ Ext m m2) ?_ (fun R hR => seqI ?_)
    · rintro δ m2 ⟨d4, d5, d6, d7, rfl, E2⟩
      dsimp only [dRet, dSeq, dNext, dIfS, dSet, dExpr, dAsg, dPar, dPar3, gD, dOp, dUn, dArgs, dCons, dNil, dC, dB, dNot, dCall, dMeth, dMeth0, dIf, dLst, dTup, dSl, dNoPart, dPart, dM1, dOr, dAnd, dAndV, dOrV, dDGet, dSlA, dGet1]
      refine dVar_at rfl ⟨q, rfl, ⟨hq, hOk _ _ hO E2.gh⟩, fun m3 E3 => dVar_at rfl ⟨q, rfl, ⟨hq, hOk _ _ hO (E2.trans E3).gh⟩, fun m4 E4 => ⟨slk (by simp), ?_⟩⟩⟩
      dsimp only
      rw [hf]
      have ei : (ws.map wrD).isEmpty = due.isNone := by
        rcases hd with ⟨e1, e2⟩ | ⟨k, pt, i, n, rest, e1, _, _, _, e2⟩
        · rw [e1, e2]; rfl
        · rw [e2]
          cases ws with
          | nil => exact absurd rfl e1
          | cons _ _ => rfl
      refine reprT hok (dVar_at rfl (dVar_at rfl ⟨slk (by simp), fun p hp => eq_nil ((Ext.new hp).old _ _ (((E2.trans E3).trans E4).old _ _ hu)) M.set_same wf ⟨slk (by simp), ?_⟩⟩))
      rw [ei]
      refine reprT hok (eqT ?_)
      rw [decide_eq_true rfl]
      exact qq _ (((E2.trans E3).trans E4).trans (Ext.new hp))
    · dsimp only [dSet, dArgs, dCons, dNil]
      refine dLC_gen (I := fun _ => True) (Rel := fun d o => ∃ (a : Addr) (zs : List D), d = .ref a ∧ m.mu a = some (.lst zs) ∧ o = some (.tup zs)) trivial (fun _ _ _ _ => trivial) (iL_w (xs := [.ref h0, .ref h1, .ref h2, .ref h3]) (fun R hR => dVar_at rfl hR) x) (slk (by simp)) (fun d hd m' hE _ Ry Rn hy hn => ?_) (fun p m2 ys hp hE2 _ hm2 ho => ?_)
      · obtain ⟨a, zs, rfl, ha⟩ : ∃ (a : Addr) (zs : List D), d = .ref a ∧ m.mu a = some (.lst zs) := by
          simp only [List.mem_cons, List.not_mem_nil, or_false] at hd
          rcases hd with rfl | rfl | rfl | rfl
          · exact ⟨_, _, rfl, x0⟩
          · exact ⟨_, _, rfl, x1⟩
          · exact ⟨_, _, rfl, x2⟩
          · exact ⟨_, _, rfl, x3⟩
        dsimp only [dRet, dSeq, dNext, dIfS, dSet, dExpr, dAsg, dPar, dPar3, gD, dOp, dUn, dArgs, dCons, dNil, dC, dB, dNot, dCall, dMeth, dMeth0, dIf, dLst, dTup, dSl, dNoPart, dPart, dM1, dOr, dAnd, dAndV, dOrV, dDGet, dSlA, dGet1]
        exact yesT (dVar_at rfl ⟨.ref a, zs, rfl, .inl ⟨a, rfl, hE.old _ _ ha⟩, hy _ _ ⟨a, zs, rfl, ha, rfl⟩ (Ext.refl _)⟩)
      · have one : ∀ {a : Addr} {zs : List D} {l ys : List D}, m.mu a = some (.lst zs) → Outs (fun d o => ∃ (a : Addr) (zs : List D), d = .ref a ∧ m.mu a = some (.lst zs) ∧ o = some (.tup zs)) (.ref a :: l) ys → ∃ ys', ys = .tup zs :: ys' ∧ Outs (fun d o => ∃ (a : Addr) (zs : List D), d = .ref a ∧ m.mu a = some (.lst zs) ∧ o = some (.tup zs)) l ys' := fun {a zs l ys} ha h => by
          cases h with
          | keep hr t =>
            obtain ⟨b, zs2, e1, e2, e3⟩ := hr
            cases e1
            rw [ha] at e2; cases e2
            cases e3
            exact ⟨_, rfl, t⟩
          | skip hr t =>
            obtain ⟨b, zs2, e1, e2, e3⟩ := hr
            cases e3
        obtain ⟨y0, rfl, o0⟩ := one x0 ho
        obtain ⟨y1, rfl, o1⟩ := one x1 o0
        obtain ⟨y2, rfl, o2⟩ := one x2 o1
        obtain ⟨y3, rfl, o3⟩ := one x3 o2
        cases o3
        refine ⟨.ref p, _, rfl, .inl ⟨p, rfl, hm2⟩, ?_⟩
        have eq : D.tup [.tup (q.st.map strD), .tup (q.jo.map joD), .tup (q.ga.map gaD), .tup (q.si.map siD)] = q.d := rfl
        rw [eq]
        refine seqI ?_
        dsimp only [dSet, dC]
        refine seqI ?_
        dsimp only [dRet, dSeq, dNext, dIfS, dSet, dExpr, dAsg, dPar, dPar3, gD, dOp, dUn, dArgs, dCons, dNil, dC, dB, dNot, dCall, dMeth, dMeth0, dIf, dLst, dTup, dSl, dNoPart, dPart, dM1, dOr, dAnd, dAndV, dOrV, dDGet, dSlA, dGet1]
        have x := hE2.old _ _ x; have x0 := hE2.old _ _ x0; have x1 := hE2.old _ _ x1; have x2 := hE2.old _ _ x2; have x3 := hE2.old _ _ x3; have hu := hE2.old _ _ hu
        refine dVar_at rfl ⟨slk (by simp), fun p3 hp3 => ne_nil ((Ext.new hp3).old _ _ hu) M.set_same wf ⟨_, rfl, ?_⟩⟩
        have E3 := hE2.trans (Ext.new (o := .lst []) hp3)
        have N3 := Ext.new (o := .lst []) hp3
        have x := N3.old _ _ x; have x0 := N3.old _ _ x0; have x1 := N3.old _ _ x1; have x2 := N3.old _ _ x2; have x3 := N3.old _ _ x3; have hu := N3.old _ _ hu
        generalize m2.set p3 (.lst []) = m3 at E3 x x0 x1 x2 x3 hu ⊢
        rcases hd with ⟨e1, e2⟩ | ⟨k, pt, i, n, rest, e1, hk0, hk5, hs, e2⟩
        · subst e1 e2
          exact ifF rfl (hR _ _ ⟨_, _, _, _, rfl, E3⟩)
        · refine ifT (by cases ws; exact absurd rfl e1; rfl) ?_
          have HP : PAt (fun _ => True) m3 h q := ⟨h0, h1, h2, h3, nd, fun _ _ => trivial, x, x0, x1, x2, x3⟩
          refine dLC_gen (I := fun _ => True) (Rel := fun d o => ∃ z, d = wrD z ∧ z ∈ ws ∧ o = some (keyOf q z)) trivial (fun _ _ _ _ => trivial) (iL_w (xs := ws.map wrD) (fun R hR => dVar_at rfl hR) hu) (slk (by rw [List.length_map]; omega)) (fun d hd m' hE _ Ry Rn hy hn => ?_) (fun p4 m4 ys hp4 hE4 _ hm4 ho => ?_)
          · obtain ⟨z, hz, rfl⟩ := List.mem_map.mp hd
            obtain ⟨z1, z2, z3⟩ := hw z hz
            obtain ⟨a, _, ra, ha, _, _, _⟩ := HP.at z.2.1
            obtain ⟨g1, g2⟩ := pD_pos z1
            dsimp only [dRet, dSeq, dNext, dIfS, dSet, dExpr, dAsg, dPar, dPar3, gD, dOp, dUn, dArgs, dCons, dNil, dC, dB, dNot, dCall, dMeth, dMeth0, dIf, dLst, dTup, dSl, dNoPart, dPart, dM1, dOr, dAnd, dAndV, dOrV, dDGet, dSlA, dGet1]
            refine ⟨_, .inl rfl, rfl, yesT (dVar_at rfl (dVar_at rfl ⟨_, rfl, dVar_at rfl (dVar_at rfl ⟨_, rfl, ra m' _ ((hE.old _ _ x).trans x.symm) ⟨⟨a, _, rfl, hE.old _ _ ha⟩, dVar_at rfl ⟨_, rfl, a, z.2.1.pD q, z.2.1.d, z.2.1.pos q, z.2.1.d, rfl, rfl, hE.old _ _ ha, pD_fine hq, (Wit.fine z2).1, g1, (eqv_plain (Wit.plain _) (Wit.plain _)).mpr rfl, fun i z' hi hz' => eqv_no (pD_plain _ (List.mem_of_getElem? hz')) (Wit.plain _) (g2 i z' hi hz'), dVar_at rfl ⟨_, rfl, slk (by simp), hy _ _ ⟨z, rfl, hz, rfl⟩ (Ext.refl _)⟩⟩⟩⟩)⟩))⟩
          · have hys := Outs.mapOf (f := wrD) (h := keyOf q) (P := fun z => z ∈ ws) (l := ws) wrD_key ho
            subst hys
            have kf : ∀ d ∈ ws.map (keyOf q), Fine d := fun d hd => by
              obtain ⟨z, hz, rfl⟩ := List.mem_map.mp hd
              exact key_fine (hw z hz).2.2
            refine ⟨p4, _, rfl, hm4, kf, ?_, ?_, fun p5 hp5 => ?_⟩
            · rw [List.map_map]
              exact PySem.W.AllAlike.of fun _ _ => key_alike
            · rw [List.map_map]
              exact PySem.W.Sortable.tuples fun _ => ⟨_, _, rfl⟩
            · rw [hs]
              refine ixL (k := 0) M.set_same rfl ⟨slk (by simp), dVar_at rfl ⟨_, rfl, word_ix hk0 hk5 (dVar_at rfl ⟨_, rfl, slk (by simp), ?_⟩)⟩⟩
              subst e2
              exact hR _ _ ⟨_, _, _, _, rfl, (E3.trans hE4).trans (Ext.new hp5)⟩

end
end PR

namespace PR
open PySem PySem.Spec PyProof.Rows L2 GA GxR DL PL TM

section
variable {P : Program} {w : World} {K : PySem.W.Frag} {mg : Str → Option Value} {base : Heap} {tl td t8 t3 : Tok} {aK aO aE aP P1 P2 : Addr} (T : Txt K mg w tl td t8 t3 aK aO aE aP) (Ok : M → Prop) (hOk : ∀ a b : M, Ok a → b.gh = a.gh → Ok b)
include T hOk

theorem c_law_joints {f : Addr} {fd : FuncData} (F : Fun K "_law_joints" "_law_joints" s_law_joints f fd) (hm : mg "_law_joints" = some (.ref f)) (c_law_draw : DCal P w K mg base 1 "_law_draw" spDrawG) (c_law_pick : DCal P w K mg base 2 "_law_pick" spPick) : DCal P w K mg base 3 "_law_joints" spJoints2 := by
  refine dcal F hm (F.binds (ps := ["deck", "free", "joined"]) fun _ _ _ _ _ _ us hl => match us, hl with | [_, _, _], _ => rfl) sc_law_joints (fun ds m Q h => ?_) (fun cdv A outer s H E hr => ⟨_, (dss_cons (ds_set (i := 3) sc_law_joints.nd rfl (by first | exact Or.inl rfl | exact Or.inr rfl) (de_lst da_nil))
      (dss_cons (ds_for PassesOwn.never rfl (dpi_range (by rfl) T.range (de_call c_law_draw hr (by decide) (by rfl) (da_cons (de_var 0) (da_cons de_int da_nil)))) (dg_name (i := 4) sc_law_joints.nd rfl (by first | exact Or.inl rfl | exact Or.inr rfl)) (dss_cons (ds_set (i := 5) sc_law_joints.nd rfl (by first | exact Or.inl rfl | exact Or.inr rfl) (de_ifE (dt_cmp (dc_ne hr) (de_var 1) (de_lst da_nil)) (de_call c_law_pick hr (by decide) (by rfl) (da_cons (de_var 0) (da_cons (de_var 1) da_nil))) (de_tup (da_cons de_str (da_cons de_int da_nil)))))
      (dss_cons (ds_setLc (i := 6) (own := [("end", 8)]) rfl sc_law_joints.nd rfl rfl (sw_true rfl rfl rfl (by decide +kernel)) (dpi_list (de_var 1)) (blkOk_by (N := ["deck", "free", "joined", "joints", "turn", "one", "others", "other", "end"]) (sc := defScope s_law_joints) (by decide +kernel)) (fun _ _ _ _ _ => (dg_name (i := 8) sc_law_joints.nd rfl (by first | exact Or.inl rfl | exact Or.inr rfl))) (fun _ _ _ _ _ => (dpts_one (dt_cmp (dc_ne hr) (de_ix (de_var 8) de_int) (de_ix (de_var 5) de_int)))) (fun _ _ _ _ _ => (de_var 8)))
      (dss_one (ds_if (dt_w (dw_and (dt_cmp (dc_ne hr) (de_var 6) (de_lst da_nil)) (dw_and1 (dt_cmp (dc_ne hr) (de_var 1) (de_lst da_nil))))) (dss_cons (ds_set (i := 7) sc_law_joints.nd rfl (by first | exact Or.inl rfl | exact Or.inr rfl) (de_call c_law_pick hr (by decide) (by rfl) (da_cons (de_var 0) (da_cons (de_var 6) da_nil))))
      (dss_cons (ds_expr (de_append (de_var 3) (de_tup (da_cons (de_var 5) (da_cons (de_var 7) da_nil)))))
      (dss_cons (ds_dput hr (de_var 2) (de_var 5) (de_var 7))
      (dss_cons (ds_dput hr (de_var 2) (de_var 7) (de_var 5))
      (dss_cons (ds_expr (de_remove hr (de_var 1) (de_var 5)))
      (dss_one (ds_expr (de_remove hr (de_var 1) (de_var 7))))))))) dss_nil)))))
      (dss_one (ds_ret (de_var 3))))), fun ds m Q h => ?_⟩)
  · obtain ⟨Pe, d, f, j, es, rfl, _⟩ := h; rfl
  · obtain ⟨Pe, d, f, j, es, rfl, hd, hfj, hf, hj, hl, hnd, hes, hok, q⟩ := h
    dsimp only [dRet, dSeq, dNext, dIfS, dSet, dExpr, dAsg, dPar, dPar3, gD, dOp, dUn, dArgs, dCons, dNil, dC, dB, dNot, dCall, dMeth, dMeth0, dIf, dLst, dTup, dSl, dNoPart, dPart, dM1, dOr, dAnd, dAndV, dOrV, dDGet, dSlA, dGet1]
    refine ⟨slk (by simp), fun a ha => ?_⟩
    have naf := neOf hf ha
    have naj := neOf hj ha
    refine dFor_draw (n := 17) (by decide) (fun R hR => dVar_at rfl (drw (hd.ext rfl) (by decide) (by decide) hR)) (fun i δ m' => ∃ (js : List (PL.End × PL.End)) (es' : List PL.End) (kvs : List (PL.End × PL.End)) (d4 d5 d6 d7 d8 : Option D), δ = [some d, some (.ref f), some (.ref j), some (.ref a), d4, d5, d6, d7, d8] ∧ Chg2 f j m m' ∧
      m'.mu f = some (.lst (es'.map endD)) ∧ m'.mu j = some (.dit (joKV kvs)) ∧ m'.mu a = some (.lst (js.map joD)) ∧ (∀ x ∈ js, joOk x) ∧ js.length ≤ i ∧ (∀ e ∈ es', Pe e) ∧ es'.length ≤ es.length ∧ (∀ p ∈ kvs, Pe p.1 ∧ Pe p.2) ∧ kvs.length ≤ 2 * i ∧ JX es js es' kvs) ?_ ?_ ?_
    · exact ⟨[], es, [], _, _, _, _, _, rfl, ⟨rfl, fun x o _ _ z => (Ext.new ha).old x o z⟩, (Ext.new ha).old _ _ hf, (Ext.new ha).old _ _ hj, M.set_same, by simp, by simp, hes, Nat.le_refl _, by simp, by simp, JX.init es⟩
    · rintro i δ m' hi ⟨js, es', kvs, d4, d5, d6, d7, d8, rfl, hC, h1, h2, h3, h4, h5, h6, h7, h8, h9, hX⟩
      have hdk := hd.ext hC.gh
      have fin : ∀ x ∈ es'.map endD, Fine x := fun x hx => by
        obtain ⟨e, he, rfl⟩ := List.mem_map.mp hx
        exact end_fine (hok e (h6 e he))
      dsimp only [gD]
      refine seqR1 (fun δ2 m2 => ∃ nm k d5', (δ2 = [some d, some (.ref f), some (.ref j), some (.ref a), d5', some (.tup [.str nm, .int k]), d6, d7, d8]) ∧ Ext m' m2 ∧ (es' ≠ [] → (nm, k) ∈ es')) ?_ fun R hR => ?_
      · rintro δ2 m2 ⟨nm, k, d5', rfl, hE, hin⟩
        have f1 := hE.old _ _ h1
        refine seqR1 (fun δ3 m3 => ∃ (p : Addr) (os : List PL.End), (δ3 = [some d, some (.ref f), some (.ref j), some (.ref a), d5', some (.tup [.str nm, .int k]), some (.ref p), d7, d8]) ∧ Ext m' m3 ∧ m3.mu p = some (.lst (os.map endD)) ∧ (∀ e ∈ os, e ∈ es' ∧ e.1 ≠ nm) ∧ os.length ≤ es'.length) ?_ fun R hR => ?_
        · rintro δ3 m3 ⟨p, os, rfl, hE3, hp, hos, hosl⟩
          dsimp only [dRet, dSeq, dNext, dIfS, dSet, dExpr, dAsg, dPar, dPar3, gD, dOp, dUn, dArgs, dCons, dNil, dC, dB, dNot, dCall, dMeth, dMeth0, dIf, dLst, dTup, dSl, dNoPart, dPart, dM1, dOr, dAnd, dAndV, dOrV, dDGet, dSlA, dGet1]
          have finO : ∀ x ∈ os.map endD, Fine x := fun x hx => by
            obtain ⟨e, he, rfl⟩ := List.mem_map.mp hx
            exact end_fine (hok e (h6 e (hos e he).1))
          refine dVar_at rfl ⟨slk (by simp), fun p1 hp1 => ne_nil ((Ext.new hp1).old _ _ hp) M.set_same finO ⟨_, rfl, iff_T (fun hne => ?_) fun _ => ?_⟩⟩
          · have hE4 := hE3.trans (Ext.new (o := .lst []) hp1)
            have hp4 := (Ext.new (o := .lst []) hp1).old _ _ hp
            generalize m3.set p1 (.lst []) = m4 at hE4 hp4 ⊢
            refine dVar_at rfl ⟨slk (by simp), fun p2 hp2 => ne_nil ((Ext.new hp2).old _ _ (hE4.old _ _ h1)) M.set_same fin ⟨_, rfl, iff_T (fun _ => ?_) fun _ => ?_⟩⟩
            · have hE5 := hE4.trans (Ext.new (o := .lst []) hp2)
              have hp5 := (Ext.new (o := .lst []) hp2).old _ _ hp4
              generalize m4.set p2 (.lst []) = m5 at hE5 hp5 ⊢
              have hone : os ≠ [] := fun z => by subst z; cases hne
              refine dVar_at rfl (dVar_at rfl (pk (hdk.ext hE5.gh) hp5 hone (by omega) fun e he => ?_))
              obtain ⟨heI, heN⟩ := hos e he
              have hesne : es' ≠ [] := fun z => by subst z; cases heI
              have h0I := hin hesne
              have en : (D.tup [.str nm, .int k]) = endD (nm, k) := rfl
              have g1 := hE5.old _ _ h1
              have g2 := hE5.old _ _ h2
              have g3 := hE5.old _ _ h3
              refine dVar_at rfl ⟨⟨a, _, rfl, g3⟩, dVar_at rfl (dVar_at rfl ⟨slk (by simp), ap g3 (by rw [List.length_map]; omega) ?_⟩)⟩
              have e3 : js.map joD ++ [D.tup [D.tup [.str nm, .int k], endD e]] = (js ++ [((nm, k), e)]).map joD := by rw [List.map_append]; rfl
              rw [e3]
              have k3 : (m5.set a (.lst ((js ++ [((nm, k), e)]).map joD))).mu a = _ := M.set_same
              have k1 : (m5.set a (.lst ((js ++ [((nm, k), e)]).map joD))).mu f = _ := (M.set_ne naf).trans g1
              have k2 : (m5.set a (.lst ((js ++ [((nm, k), e)]).map joD))).mu j = _ := (M.set_ne naj).trans g2
              have k4 : Chg2 f j m (m5.set a (.lst ((js ++ [((nm, k), e)]).map joD))) := ⟨hE5.gh.trans hC.gh, fun x o x1 x2 z => by rw [M.set_ne (neOf z ha)]; exact hE5.old _ _ (hC.old x o x1 x2 z)⟩
              generalize m5.set a (.lst ((js ++ [((nm, k), e)]).map joD)) = m6 at k1 k2 k3 k4 ⊢
              dsimp only [dDPut]
              have hnk1 : ((nm, k) : PL.End) ∉ kvs.map (·.1) := by rw [hX.keys]; exact (hX.nd hnd).2.2 _ h0I
              obtain ⟨kv1, q1, q2, q3, qe1⟩ := putJo2 (e := (nm, k)) (e' := e) (kvs := kvs) hnk1
              have jl : ∀ l : List (PL.End × PL.End), (joKV l).length = l.length := fun l => by unfold joKV; rw [List.length_map]
              refine dVar_at rfl (dVar_at rfl (dVar_at rfl ⟨j, rfl, .inr ⟨joKV kvs, eKey (nm, k), k2, rfl, slk (by rw [jl]; omega), ?_⟩⟩))
              rw [show putD (joKV kvs) (eKey (nm, k)) (endD e) = joKV kv1 from q1]
              have nja : a ≠ j := fun z => naj z.symm
              have nfj : f ≠ j := hfj
              have l2 : (m6.set j (.dit (joKV kv1))).mu j = _ := M.set_same
              have l1 : (m6.set j (.dit (joKV kv1))).mu f = _ := (M.set_ne nfj).trans k1
              have l3 : (m6.set j (.dit (joKV kv1))).mu a = _ := (M.set_ne nja).trans k3
              have l4 : Chg2 f j m (m6.set j (.dit (joKV kv1))) := ⟨k4.gh, fun x o x1 x2 z => by rw [M.set_ne x2]; exact k4.old x o x1 x2 z⟩
              generalize m6.set j (.dit (joKV kv1)) = m7 at l1 l2 l3 l4 ⊢
              have hnk2 : e ∉ kv1.map (·.1) := by
                rw [qe1, List.map_append, hX.keys]
                intro z
                rcases List.mem_append.mp z with z | z
                · exact (hX.nd hnd).2.2 _ heI z
                · have z : e = (nm, k) := by simpa using z
                  exact heN (by rw [z])
              obtain ⟨kv2, q4, q5, q6, qe2⟩ := putJo2 (e := e) (e' := (nm, k)) (kvs := kv1) hnk2
              refine dVar_at rfl (dVar_at rfl (dVar_at rfl ⟨j, rfl, .inr ⟨joKV kv1, eKey e, l2, rfl, slk (by rw [jl]; omega), ?_⟩⟩))
              rw [show putD (joKV kv1) (eKey e) (D.tup [.str nm, .int k]) = joKV kv2 from q4]
              have r2 : (m7.set j (.dit (joKV kv2))).mu j = _ := M.set_same
              have r1 : (m7.set j (.dit (joKV kv2))).mu f = _ := (M.set_ne nfj).trans l1
              have r3 : (m7.set j (.dit (joKV kv2))).mu a = _ := (M.set_ne nja).trans l3
              have r4 : Chg2 f j m (m7.set j (.dit (joKV kv2))) := ⟨l4.gh, fun x o x1 x2 z => by rw [M.set_ne x2]; exact l4.old x o x1 x2 z⟩
              generalize m7.set j (.dit (joKV kv2)) = m8 at r1 r2 r3 r4 ⊢
              refine dVar_at rfl ⟨⟨f, _, rfl, r1⟩, dVar_at rfl (remE (e := (nm, k)) r1 h0I fun i1 hi1 => ?_)⟩
              have heS : e ∈ es'.eraseIdx i1 := stays hi1 heI fun z => heN (by rw [z])
              have s1 : (m8.set f (.lst ((es'.eraseIdx i1).map endD))).mu f = _ := M.set_same
              have s2 : (m8.set f (.lst ((es'.eraseIdx i1).map endD))).mu j = _ := (M.set_ne nfj.symm).trans r2
              have s3 : (m8.set f (.lst ((es'.eraseIdx i1).map endD))).mu a = _ := (M.set_ne naf.symm).trans r3
              have s4 : Chg2 f j m (m8.set f (.lst ((es'.eraseIdx i1).map endD))) := ⟨r4.gh, fun x o x1 x2 z => by rw [M.set_ne x1]; exact r4.old x o x1 x2 z⟩
              generalize m8.set f (.lst ((es'.eraseIdx i1).map endD)) = m9 at s1 s2 s3 s4 ⊢
              refine dVar_at rfl ⟨⟨f, _, rfl, s1⟩, dVar_at rfl (remE (e := e) s1 heS fun i2 hi2 => ?_)⟩
              have hsub : ∀ x ∈ (es'.eraseIdx i1).eraseIdx i2, x ∈ es' := fun x hx => List.mem_of_mem_eraseIdx (List.mem_of_mem_eraseIdx hx)
              have hlen : ((es'.eraseIdx i1).eraseIdx i2).length ≤ es'.length := Nat.le_trans (List.length_eraseIdx_le _ _) (List.length_eraseIdx_le _ _)
              refine ⟨js ++ [((nm, k), e)], (es'.eraseIdx i1).eraseIdx i2, kv2, _, _, _, _, _, rfl, ⟨s4.gh, fun x o x1 x2 z => by rw [M.set_ne x1]; exact s4.old x o x1 x2 z⟩, M.set_same, (M.set_ne nfj.symm).trans s2, (M.set_ne naf.symm).trans s3, ?_, by rw [List.length_append]; show js.length + 1 ≤ i + 1; omega, fun x hx => h6 x (hsub x hx), by omega, ?_, by omega, by rw [qe2, qe1]; exact hX.step hi1 hi2 fun z => heN z.symm⟩
              · intro x hx
                rcases List.mem_append.mp hx with hx | hx
                · exact h4 x hx
                · rw [List.mem_singleton.mp hx]; exact ⟨hok _ (h6 _ h0I), hok _ (h6 _ heI)⟩
              · intro p hp
                rcases q5 p hp with hp | rfl
                · rcases q2 p hp with hp | rfl
                  · exact h8 p hp
                  · exact ⟨h6 _ h0I, h6 _ heI⟩
                · exact ⟨h6 _ heI, h6 _ h0I⟩
            · exact ⟨js, es', kvs, _, _, _, _, _, rfl, ⟨(hE4.trans (Ext.new hp2)).gh.trans hC.gh, fun x o x1 x2 z => (hE4.trans (Ext.new hp2)).old _ _ (hC.old x o x1 x2 z)⟩, (hE4.trans (Ext.new hp2)).old _ _ h1, (hE4.trans (Ext.new hp2)).old _ _ h2, (hE4.trans (Ext.new hp2)).old _ _ h3, h4, by omega, h6, h7, h8, by omega, hX⟩
          · exact ifF rfl ⟨js, es', kvs, _, _, _, _, _, rfl, ⟨(hE3.trans (Ext.new hp1)).gh.trans hC.gh, fun x o x1 x2 z => (hE3.trans (Ext.new hp1)).old _ _ (hC.old x o x1 x2 z)⟩, (hE3.trans (Ext.new hp1)).old _ _ h1, (hE3.trans (Ext.new hp1)).old _ _ h2, (hE3.trans (Ext.new hp1)).old _ _ h3, h4, by omega, h6, h7, h8, by omega, hX⟩
        · dsimp only [dRet, dSeq, dNext, dIfS, dSet, dExpr, dAsg, dPar, dPar3, gD, dOp, dUn, dArgs, dCons, dNil, dC, dB, dNot, dCall, dMeth, dMeth0, dIf, dLst, dTup, dSl, dNoPart, dPart, dM1, dOr, dAnd, dAndV, dOrV, dDGet, dSlA, dGet1]
          refine dLC_gen (I := fun _ => True) (Rel := fun x o => ∃ e : PL.End, e ∈ es' ∧ x = endD e ∧ o = if e.1 = nm then none else some (endD e)) trivial (fun _ _ _ _ => trivial) (iL_w (xs := es'.map endD) (fun R hR => dVar_at rfl hR) f1) (slk (by rw [List.length_map]; omega)) (fun x hx m' hE' _ Ry Rn hy hn => ?_) (fun p m3 ys hp hE3 _ hm3 ho => ?_)
          · obtain ⟨e, he, rfl⟩ := List.mem_map.mp hx
            dsimp only [dRet, dSeq, dNext, dIfS, dSet, dExpr, dAsg, dPar, dPar3, gD, dOp, dUn, dArgs, dCons, dNil, dC, dB, dNot, dCall, dMeth, dMeth0, dIf, dLst, dTup, dSl, dNoPart, dPart, dM1, dOr, dAnd, dAndV, dOrV, dDGet, dSlA, dGet1]
            refine dVar_at rfl (endD_ix0 (dVar_at rfl (SeqD.ix (.inl rfl) rfl (neT ⟨_, rfl, iff_T (fun hc => dVar_at rfl (hy _ _ ⟨e, he, rfl, ?_⟩ (Ext.refl _))) fun hc => hn _ ⟨e, he, rfl, ?_⟩ (Ext.refl _)⟩))))
            · rw [if_neg (by simpa using hc)]
            · rw [if_pos (by simpa using hc)]
          · obtain ⟨os, rfl, hos⟩ := listOf (f := endD) (P := fun e => e ∈ es' ∧ e.1 ≠ nm) (ys := ys) (ho.all fun x hx y hxy => by
              obtain ⟨e, he, _, e2⟩ := hxy
              by_cases z : e.1 = nm
              · rw [if_pos z] at e2; cases e2
              · rw [if_neg z] at e2; cases e2; exact ⟨e, rfl, he, z⟩)
            have := ho.len
            rw [List.length_map, List.length_map] at this
            exact hR _ _ ⟨p, os, rfl, hE.trans hE3, hm3, hos, this⟩
      · dsimp only [dRet, dSeq, dNext, dIfS, dSet, dExpr, dAsg, dPar, dPar3, gD, dOp, dUn, dArgs, dCons, dNil, dC, dB, dNot, dCall, dMeth, dMeth0, dIf, dLst, dTup, dSl, dNoPart, dPart, dM1, dOr, dAnd, dAndV, dOrV, dDGet, dSlA, dGet1]
        refine dVar_at rfl ⟨slk (by simp), fun p hp => ne_nil ((Ext.new hp).old _ _ h1) M.set_same fin ⟨_, rfl, iff_T (fun hc => ?_) fun hc => ?_⟩⟩
        · have hne : es' ≠ [] := fun z => by subst z; cases hc
          exact dVar_at rfl (dVar_at rfl (pk (hdk.ext rfl) ((Ext.new hp).old _ _ h1) hne (by omega) fun e he => hR _ _ ⟨e.1, e.2, _, rfl, Ext.new hp, fun _ => he⟩))
        · exact ⟨slk (by simp), hR _ _ ⟨"", 0, _, rfl, Ext.new hp, fun hne => by cases es' with | nil => exact (hne rfl).elim | cons _ _ => cases hc⟩⟩
    · rintro r δ m' hr ⟨js, es', kvs, d4, d5, d6, d7, d8, rfl, hC, h1, h2, h3, h4, h5, h6, h7, h8, h9, hX⟩
      dsimp only
      exact dVar_at rfl (q a m' js es' kvs hC ha h1 h2 h3 h4 (by omega) h6 h7 h8 (by omega) hX)

end
end PR

namespace PR
open PySem PySem.Spec PyProof.Rows L2 GA GxR DL PL TM

section
variable {P : Program} {w : World} {K : PySem.W.Frag} {mg : Str → Option Value} {base : Heap} {tl td t8 t3 : Tok} {aK aO aE aP P1 P2 : Addr} (T : Txt K mg w tl td t8 t3 aK aO aE aP) (Ok : M → Prop) (hOk : ∀ a b : M, Ok a → b.gh = a.gh → Ok b)
include T hOk

theorem c_law_mixed {f : Addr} {fd : FuncData} (F : Fun K "_law_mixed" "_law_mixed" s_law_mixed f fd) (hm : mg "_law_mixed" = some (.ref f)) (c_law_draw : DCal P w K mg base 1 "_law_draw" spDrawG) : DCal P w K mg base 3 "_law_mixed" spMixed := by
  refine dcal F hm (F.binds (ps := ["deck", "one", "other"]) fun _ _ _ _ _ _ us hl => match us, hl with | [_, _, _], _ => rfl) sc_law_mixed (fun ds m Q h => ?_) (fun cdv A outer s H E hr => ⟨_, (dss_cons (ds_par3 rfl sc_law_mixed.nd (i := 4) (j := 5) (l := 6) rfl rfl rfl (by decide) (by decide) (by decide) rfl rfl rfl (da_cons (de_bty call_list_of argl_list (by rfl) T.list (by decide +kernel) (da_cons (de_var 1) da_nil)) (da_cons (de_bty call_list_of argl_list (by rfl) T.list (by decide +kernel) (da_cons (de_var 2) da_nil)) (da_cons (de_lst da_nil) da_nil))) (by rfl))
      (dss_cons (ds_for PassesOwn.never rfl (dpi_range (by rfl) T.range (de_add (de_len (by rfl) T.len (da_cons (de_var 1) da_nil)) (de_len (by rfl) T.len (da_cons (de_var 2) da_nil)))) (dg_name (i := 3) sc_law_mixed.nd rfl (by first | exact Or.inl rfl | exact Or.inr rfl)) (dss_one (ds_if (dt_w (dw_or (dt_cmp (dc_eq hr) (de_var 5) (de_lst da_nil)) (dw_or1 (dt_w (dw_and (dt_cmp (dc_ne hr) (de_var 4) (de_lst da_nil)) (dw_and1 (dt_cmp dc_lt (de_call c_law_draw hr (by decide) (by rfl) (da_cons (de_var 0) (da_cons (de_add (de_len (by rfl) T.len (da_cons (de_var 4) da_nil)) (de_len (by rfl) T.len (da_cons (de_var 5) da_nil))) da_nil))) (de_len (by rfl) T.len (da_cons (de_var 4) da_nil))))))))) (dss_one (ds_expr (de_append (de_var 6) (de_popAt (de_var 4) de_int)))) (dss_one (ds_expr (de_append (de_var 6) (de_popAt (de_var 5) de_int)))))))
      (dss_one (ds_ret (de_var 6))))), fun ds m Q h => ?_⟩)
  · obtain ⟨d, x, y, xs, ys, rfl, _⟩ := h; rfl
  · obtain ⟨d, x, y, xs, ys, rfl, hd, hx, hy, hf, hl, q⟩ := h
    rw [List.length_append] at hl
    refine seqR1 (fun δ m2 => ∃ a1 a2 a3 : Addr, δ = [some d, some x, some y, none, some (.ref a1), some (.ref a2), some (.ref a3)] ∧ Ext m m2 ∧ m.mu a1 = none ∧ m.mu a2 = none ∧ m.mu a3 = none ∧ a1 ≠ a2 ∧ a1 ≠ a3 ∧ a2 ≠ a3 ∧ m2.mu a1 = some (.lst xs) ∧ m2.mu a2 = some (.lst ys) ∧ m2.mu a3 = some (.lst [])) ?_ (fun R hR => seqI ?_)
    · rintro δ m2 ⟨a1, a2, a3, rfl, E2, f1, f2, f3, n12, n13, n23, h1, h2, h3⟩
      refine seqI (dFor_R (n := xs.length + ys.length) (fun R hR => ?_) (by omega) (fun i δ m' => ∃ (d3 : Option D) (ls rs fs : List D), δ = [some d, some x, some y, d3, some (.ref a1), some (.ref a2), some (.ref a3)] ∧ Ext m m' ∧ m'.mu a1 = some (.lst ls) ∧ m'.mu a2 = some (.lst rs) ∧ m'.mu a3 = some (.lst fs) ∧ ls.length + rs.length + i = xs.length + ys.length ∧ fs.length = i ∧ (fs ++ (ls ++ rs)).Perm (xs ++ ys)) ⟨_, xs, ys, [], rfl, E2, h1, h2, h3, rfl, rfl, List.Perm.refl _⟩ ?_ ?_)
      · dsimp only [dOp, dC, dArgs, dCons, dNil, dCall, dTup, dB, dSlA, dNoPart, dPart]
        exact dVar_at rfl ⟨x, xs.length, rfl, (SeqD_ext hx E2).len, dVar_at rfl ⟨y, ys.length, rfl, (SeqD_ext hy E2).len, aI hR⟩⟩
      · rintro i δ m3 hi ⟨d3, ls, rs, fs, rfl, E3, h1, h2, h3, hn, hfl, hp⟩
        have fl : ∀ z ∈ ls, Fine z := fun z hz => hf z (hp.mem_iff.mp (List.mem_append_right _ (List.mem_append_left _ hz)))
        have fr : ∀ z ∈ rs, Fine z := fun z hz => hf z (hp.mem_iff.mp (List.mem_append_right _ (List.mem_append_right _ hz)))
        have takeL : ∀ (m4 : M) (RR : DK), Ext m m4 → m4.mu a1 = some (.lst ls) → m4.mu a2 = some (.lst rs) → m4.mu a3 = some (.lst fs) → ls ≠ [] → (∀ m5 ls', Ext m m5 → m5.mu a1 = some (.lst ls') → m5.mu a2 = some (.lst rs) → (∃ z, ls = z :: ls' ∧ m5.mu a3 = some (.lst (fs ++ [z]))) → RR .non m5) → rdPopAt (.ref a1) [.int 0] m4 fun z m5 => rdAppend (.ref a3) [z] m5 RR := fun m4 RR E4 k1 k2 k3 hne hq => by
          cases ls with
          | nil => exact (hne rfl).elim
          | cons z ls' =>
            refine popL k1 (by decide) (by simp only [List.length_cons]; omega) (by simp only [List.length_cons] at hn ⊢; omega) fun z' hz' hg => ?_
            have hg : some z = some z' := hg
            cases hg
            refine ap ((M.set_ne n13.symm).trans k3) (by omega) (hq _ ls' ((E4.set f1).set f3) ((M.set_ne n13).trans M.set_same) ((M.set_ne n23).trans ((M.set_ne n12.symm).trans k2)) ⟨z, rfl, M.set_same⟩)
        have takeR : ∀ (m4 : M) (RR : DK), Ext m m4 → m4.mu a1 = some (.lst ls) → m4.mu a2 = some (.lst rs) → m4.mu a3 = some (.lst fs) → rs ≠ [] → (∀ m5 rs', Ext m m5 → m5.mu a1 = some (.lst ls) → m5.mu a2 = some (.lst rs') → (∃ z, rs = z :: rs' ∧ m5.mu a3 = some (.lst (fs ++ [z]))) → RR .non m5) → rdPopAt (.ref a2) [.int 0] m4 fun z m5 => rdAppend (.ref a3) [z] m5 RR := fun m4 RR E4 k1 k2 k3 hne hq => by
          cases rs with
          | nil => exact (hne rfl).elim
          | cons z rs' =>
            refine popL k2 (by decide) (by simp only [List.length_cons]; omega) (by simp only [List.length_cons] at hn ⊢; omega) fun z' hz' hg => ?_
            have hg : some z = some z' := hg
            cases hg
            refine ap ((M.set_ne n23.symm).trans k3) (by omega) (hq _ rs' ((E4.set f2).set f3) ((M.set_ne n13).trans ((M.set_ne n12).trans k1)) ((M.set_ne n23).trans M.set_same) ⟨z, rfl, M.set_same⟩)
        dsimp only [gD]
        dsimp only [dRet, dSeq, dNext, dIfS, dSet, dExpr, dAsg, dPar, dPar3, gD, dOp, dUn, dArgs, dCons, dNil, dC, dB, dNot, dCall, dMeth, dMeth0, dIf, dLst, dTup, dSl, dNoPart, dPart, dM1, dOr, dAnd, dAndV, dOrV, dDGet, dSlA, dGet1]
        refine dVar_at rfl ⟨slk (by simp), fun p1 hp1 => eq_nil ((Ext.new hp1).old _ _ h2) M.set_same fr ⟨_, rfl, ?_⟩⟩
        have E4 := E3.trans (Ext.new (o := .lst []) hp1)
        have h1 := (Ext.new (o := .lst []) hp1).old _ _ h1
        have h2 := (Ext.new (o := .lst []) hp1).old _ _ h2
        have h3 := (Ext.new (o := .lst []) hp1).old _ _ h3
        generalize m3.set p1 (.lst []) = m4 at E4 h1 h2 h3 ⊢
        have stepL : ∀ {zz : D} {l2 : List D}, ls = zz :: l2 → l2.length + rs.length + (i + 1) = xs.length + ys.length ∧ (fs ++ [zz]).length = i + 1 ∧ ((fs ++ [zz]) ++ (l2 ++ rs)).Perm (xs ++ ys) := fun {zz l2} hz => by
          subst hz
          exact ⟨by simp only [List.length_cons] at hn; omega, by simp [hfl], by simpa using hp⟩
        have stepR : ∀ {zz : D} {l2 : List D}, rs = zz :: l2 → ls.length + l2.length + (i + 1) = xs.length + ys.length ∧ (fs ++ [zz]).length = i + 1 ∧ ((fs ++ [zz]) ++ (ls ++ l2)).Perm (xs ++ ys) := fun {zz l2} hz => by
          subst hz
          refine ⟨by simp only [List.length_cons] at hn; omega, by simp [hfl], List.Perm.trans ?_ hp⟩
          rw [List.append_assoc]
          exact List.Perm.append_left _ (show (zz :: (ls ++ l2)).Perm (ls ++ zz :: l2) from List.perm_middle.symm)
        refine iff_T (fun hz => ?_) fun hz => ?_
        · have hr : rs = [] := List.isEmpty_iff.mp hz
          have hne : ls ≠ [] := fun z => by subst z hr; simp at hn; omega
          exact ifT rfl (dVar_at rfl ⟨⟨a3, _, rfl, h3⟩, dVar_at rfl ⟨⟨a1, _, rfl, h1⟩, takeL m4 _ E4 h1 h2 h3 hne fun m5 l2 E5 e1 e2 ⟨z, hz, e3⟩ => ⟨_, l2, rs, fs ++ [z], rfl, E5, e1, e2, e3, stepL hz⟩⟩⟩)
        · have hrne : rs ≠ [] := fun z => by rw [z] at hz; cases hz
          refine dVar_at rfl ⟨slk (by simp), fun p2 hp2 => ne_nil ((Ext.new hp2).old _ _ h1) M.set_same fl ⟨_, rfl, ?_⟩⟩
          have E5 := E4.trans (Ext.new (o := .lst []) hp2)
          have h1 := (Ext.new (o := .lst []) hp2).old _ _ h1
          have h2 := (Ext.new (o := .lst []) hp2).old _ _ h2
          have h3 := (Ext.new (o := .lst []) hp2).old _ _ h3
          generalize m4.set p2 (.lst []) = m5 at E5 h1 h2 h3 ⊢
          have hrl : 0 < rs.length := List.length_pos_iff.mpr hrne
          refine iff_T (fun hy => ?_) fun hy => ?_
          · have hlne : ls ≠ [] := fun z => by rw [z] at hy; cases hy
            refine dVar_at rfl (dVar_at rfl ⟨.ref a1, ls.length, rfl, ⟨_, h1, rfl⟩, dVar_at rfl ⟨.ref a2, rs.length, rfl, ⟨_, h2, rfl⟩, aI (drw (hd.ext E5.gh) (by omega) (by omega) fun r r0 r1 => dVar_at rfl ⟨.ref a1, ls.length, rfl, ⟨_, h1, rfl⟩, bI ⟨_, rfl, iff_T (fun _ => ?_) fun _ => ?_⟩⟩)⟩⟩)
            · exact dVar_at rfl ⟨⟨a3, _, rfl, h3⟩, dVar_at rfl ⟨⟨a1, _, rfl, h1⟩, takeL m5 _ E5 h1 h2 h3 hlne fun m6 l2 E6 e1 e2 ⟨z, hz, e3⟩ => ⟨_, l2, rs, fs ++ [z], rfl, E6, e1, e2, e3, stepL hz⟩⟩⟩
            · exact dVar_at rfl ⟨⟨a3, _, rfl, h3⟩, dVar_at rfl ⟨⟨a2, _, rfl, h2⟩, takeR m5 _ E5 h1 h2 h3 hrne fun m6 l2 E6 e1 e2 ⟨z, hz, e3⟩ => ⟨_, ls, l2, fs ++ [z], rfl, E6, e1, e2, e3, stepR hz⟩⟩⟩
          · exact ifF rfl (dVar_at rfl ⟨⟨a3, _, rfl, h3⟩, dVar_at rfl ⟨⟨a2, _, rfl, h2⟩, takeR m5 _ E5 h1 h2 h3 hrne fun m6 l2 E6 e1 e2 ⟨z, hz, e3⟩ => ⟨_, ls, l2, fs ++ [z], rfl, E6, e1, e2, e3, stepR hz⟩⟩⟩)
      · rintro δ m3 ⟨d3, ls, rs, fs, rfl, E3, h1, h2, h3, hn, hfl, hp⟩
        have hl0 : ls = [] := List.length_eq_zero_iff.mp (by omega)
        have hr0 : rs = [] := List.length_eq_zero_iff.mp (by omega)
        subst hl0 hr0
        exact dVar_at rfl (q a3 m3 fs f3 E3 h3 (by simpa using hp))
    · dsimp only [dPar3]
      dsimp only [dRet, dSeq, dNext, dIfS, dSet, dExpr, dAsg, dPar, dPar3, gD, dOp, dUn, dArgs, dCons, dNil, dC, dB, dNot, dCall, dMeth, dMeth0, dIf, dLst, dTup, dSl, dNoPart, dPart, dM1, dOr, dAnd, dAndV, dOrV, dDGet, dSlA, dGet1]
      refine dVar_at rfl ⟨x, xs, rfl, hx, fun a1 f1 => dVar_at rfl ⟨y, ys, rfl, SeqD_ext hy (Ext.new f1), fun a2 f2 => ⟨slk (by simp), fun a3 f3 => ⟨_, _, _, rfl, hR _ _ ⟨a1, a2, a3, rfl, ?_, f1, (Ext.new f1).fr f2, (Ext.new f1).fr ((Ext.new f2).fr f3), ?_, ?_, ?_, ?_, ?_, M.set_same⟩⟩⟩⟩⟩
      · exact ((Ext.new f1).trans (Ext.new f2)).trans (Ext.new f3)
      · exact neOf M.set_same f2
      · exact neOf ((Ext.new f2).old _ _ M.set_same) f3
      · exact neOf M.set_same f3
      · exact ((Ext.new f2).trans (Ext.new f3)).old _ _ M.set_same
      · exact (Ext.new f3).old _ _ M.set_same

end
end PR

namespace PR
open PySem PySem.Spec PyProof.Rows L2 GA GxR DL PL TM

section
variable {P : Program} {w : World} {K : PySem.W.Frag} {mg : Str → Option Value} {base : Heap} {tl td t8 t3 : Tok} {aK aO aE aP P1 P2 : Addr} (T : Txt K mg w tl td t8 t3 aK aO aE aP) (Ok : M → Prop) (hOk : ∀ a b : M, Ok a → b.gh = a.gh → Ok b)
include T hOk

theorem c_law_name {f : Addr} {fd : FuncData} (F : Fun K "_law_name" "_law_name" s_law_name f fd) (hm : mg "_law_name" = some (.ref f)) (c_law_draw : DCal P w K mg base 1 "_law_draw" spDrawG) (c_law_pick : DCal P w K mg base 2 "_law_pick" spPick) : DCal P w K mg base 3 "_law_name" spName := by
  refine dcal F hm (F.binds (ps := ["deck", "used"]) fun _ _ _ _ _ _ us hl => match us, hl with | [_, _], _ => rfl) sc_law_name (fun ds m Q h => ?_) (fun cdv A outer s H E hr => ⟨_, (dss_cons (ds_set (i := 2) sc_law_name.nd rfl (by first | exact Or.inl rfl | exact Or.inr rfl) de_str)
      (dss_cons (ds_par rfl sc_law_name.nd (i := 3) (j := 4) rfl rfl (by decide) rfl rfl (da_cons (de_call c_law_draw hr (by decide) (by rfl) (da_cons (de_var 0) (da_cons de_int da_nil))) (da_cons (de_ix (de_var 2) (de_call c_law_draw hr (by decide) (by rfl) (da_cons (de_var 0) (da_cons de_int da_nil)))) da_nil)) (by rfl))
      (dss_cons (ds_if (dt_cmp (dc_eq hr) (de_var 3) de_int) (dss_cons (ds_set (i := 5) sc_law_name.nd rfl (by first | exact Or.inl rfl | exact Or.inr rfl) (de_lst (da_cons de_str (da_cons de_str (da_cons de_str (da_cons de_str (da_cons de_str (da_cons de_str (da_cons de_str (da_cons de_str (da_cons de_str (da_cons de_str da_nil))))))))))))
      (dss_one (ds_set (i := 4) sc_law_name.nd rfl (by first | exact Or.inl rfl | exact Or.inr rfl) (de_call c_law_pick hr (by decide) (by rfl) (da_cons (de_var 0) (da_cons (de_var 5) da_nil)))))) (dss_one (ds_if (dt_cmp (dc_eq hr) (de_var 3) de_int) (dss_cons (ds_set (i := 6) sc_law_name.nd rfl (by first | exact Or.inl rfl | exact Or.inr rfl) (de_call c_law_draw hr (by decide) (by rfl) (da_cons (de_var 0) (da_cons de_int da_nil))))
      (dss_one (ds_set (i := 4) sc_law_name.nd rfl (by first | exact Or.inl rfl | exact Or.inr rfl) (de_add (de_ifE (dt_cmp dc_gt (de_var 6) de_int) (de_add (de_slice de_str dpo_none (dpo_some (de_var 6))) (de_ix (de_var 2) (de_call c_law_draw hr (by decide) (by rfl) (da_cons (de_var 0) (da_cons de_int da_nil))))) (de_var 4)) (de_slice de_str (dpo_some (de_add (de_var 6) de_int)) dpo_none))))) (dss_one (ds_set (i := 4) sc_law_name.nd rfl (by first | exact Or.inl rfl | exact Or.inr rfl) (de_add (de_var 4) (de_join de_str (de_lc (own := [("at", 6)]) rfl sc_law_name.nd (dpi_range (by rfl) T.range (de_call c_law_draw hr (by decide) (by rfl) (da_cons (de_var 0) (da_cons de_int da_nil)))) (blkOk_by (N := ["deck", "used", "letters", "way", "name", "some", "at", "spare"]) (sc := defScope s_law_name) (by decide +kernel)) (fun _ _ _ _ _ => (dg_name (i := 6) sc_law_name.nd rfl (by first | exact Or.inl rfl | exact Or.inr rfl))) (fun _ _ _ _ _ => dpts_nil) (fun _ _ _ _ _ => (de_ix (de_var 2) (de_call c_law_draw hr (by decide) (by rfl) (da_cons (de_var 0) (da_cons de_int da_nil)))))))))))))
      (dss_cons (ds_if (dt_cmp dc_in (de_var 4) (de_var 1)) (dss_one (ds_set (i := 4) sc_law_name.nd rfl (by first | exact Or.inl rfl | exact Or.inr rfl) (de_ix (de_lc (own := [("spare", 7)]) rfl sc_law_name.nd (dpi_list (de_lc (own := [("at", 6)]) rfl sc_law_name.nd (dpi_range (by rfl) T.range de_int) (blkOk_by (N := ["deck", "used", "letters", "way", "name", "some", "at", "spare"]) (sc := defScope s_law_name) (by decide +kernel)) (fun _ _ _ _ _ => (dg_name (i := 6) sc_law_name.nd rfl (by first | exact Or.inl rfl | exact Or.inr rfl))) (fun _ _ _ _ _ => dpts_nil) (fun _ _ _ _ _ => (de_add de_str (de_bty call_str_int argl_str (by rfl) T.str (by decide +kernel) (da_cons (de_var 6) da_nil)))))) (blkOk_by (N := ["deck", "used", "letters", "way", "name", "some", "at", "spare"]) (sc := defScope s_law_name) (by decide +kernel)) (fun _ _ _ _ _ => (dg_name (i := 7) sc_law_name.nd rfl (by first | exact Or.inl rfl | exact Or.inr rfl))) (fun _ _ _ _ _ => (dpts_one (dt_cmp dc_notIn (de_var 7) (de_var 1)))) (fun _ _ _ _ _ => (de_var 7))) de_int))) dss_nil)
      (dss_cons (ds_expr (de_append (de_var 1) (de_var 4)))
      (dss_one (ds_ret (de_var 4)))))))), fun ds m Q h => ?_⟩)
  · obtain ⟨d, u, us, rfl, _⟩ := h; rfl
  · obtain ⟨d, u, us, rfl, hd, hu, hl, q⟩ := h
    refine seqR3 (fun δ m2 => ∃ s, nameS s = true ∧ Ext m m2 ∧ ∃ d2 d3 d5 d6 d7, δ = [some d, some (.ref u), d2, d3, some (.str s), d5, d6, d7]) ?_ fun R hR => ?_
    · rintro δ m2 ⟨s, hs, hE, d2, d3, d5, d6, d7, rfl⟩
      refine seqR1 (fun δ m2 => ∃ s, nameS s = true ∧ s ∉ us ∧ Ext m m2 ∧ ∃ d2 d3 d5 d6 d7, δ = [some d, some (.ref u), d2, d3, some (.str s), d5, d6, d7]) ?_ fun R hR => ?_
      · rintro δ m2 ⟨s, hs, hn, hE, d2, d3, d5, d6, d7, rfl⟩
        dsimp only [dRet, dSeq, dNext, dIfS, dSet, dExpr, dAsg, dPar, gD, dOp, dUn, dArgs, dCons, dNil, dC, dB, dNot, dCall, dMeth, dMeth0, dIf, dLst, dTup, dSl, dNoPart, dPart, dM1]
        have hu2 := hE.old _ _ hu
        refine dVar_at rfl ⟨⟨u, _, rfl, hu2⟩, dVar_at rfl ⟨u, _, _, rfl, rfl, hu2, slk (by rw [List.length_map]; omega), dVar_at rfl ?_⟩⟩
        exact q s _ hs hn ((hE.chg u).set) (by rw [M.set_same, List.map_append]; rfl)
      · dsimp only [dRet, dSeq, dNext, dIfS, dSet, dExpr, dAsg, dPar, gD, dOp, dUn, dArgs, dCons, dNil, dC, dB, dNot, dCall, dMeth, dMeth0, dIf, dLst, dTup, dSl, dNoPart, dPart, dM1]
        have hu2 := hE.old _ _ hu
        refine dVar_at rfl (dVar_at rfl (inL (.inr (.inr ⟨u, rfl, hu2⟩)) ⟨_, rfl, iff_T (fun hc => ?_) fun hc => hR _ _ ⟨s, hs, (by simpa using hc), hE, _, _, _, _, _, rfl⟩⟩))
        refine dLC_gen (I := fun _ => True) (xs := (List.range 60).map fun i => D.str (spareS i)) (Rel := fun d o => ∃ t, d = D.str t ∧ o = if t ∈ us then none else some (.str t)) trivial (fun _ _ _ _ => trivial) (iL_new fun R hR => ?_) (slk (by simp)) (fun x hx m' hE' _ Ry Rn hy hn => ?_) (fun p m3 ys hp hE3 _ hm3 ho => ?_)
        · refine dLC_gen (I := fun _ => True) (Rel := fun d o => ∃ i : Nat, d = D.int (i : Int) ∧ i < 60 ∧ o = some (D.str (spareS i))) trivial (fun _ _ _ _ => trivial) (iR_w (j := 60) (fun R hR => hR) (by decide) (by decide)) (slk (by rw [rangeD_len]; decide)) (fun x hx m' hE' _ Ry Rn hy hn => ?_) (fun p m3 ys hp hE3 _ hm3 ho => ?_)
          · unfold rangeD at hx
            obtain ⟨i, hi, rfl⟩ := List.mem_map.mp hx
            have hi : i < 60 := List.mem_range.mp hi
            dsimp only [dRet, dSeq, dNext, dIfS, dSet, dExpr, dAsg, dPar, gD, dOp, dUn, dArgs, dCons, dNil, dC, dB, dNot, dCall, dMeth, dMeth0, dIf, dLst, dTup, dSl, dNoPart, dPart, dM1]
            refine yesT (dVar_at rfl (strI (num60 i hi) (aS (Nat.le_trans (spare_len i hi) (by decide)) ?_)))
            exact hy _ _ ⟨i, rfl, hi, rfl⟩ (Ext.refl _)
          · have e := Outs.mapOf (f := fun i : Nat => D.int (i : Int)) (h := fun i => D.str (spareS i)) (P := fun i => i < 60) (l := List.range 60) spare_fun ho
            exact hR p m3 hE3 (by rw [hm3, e])
        · obtain ⟨i, hi, rfl⟩ := List.mem_map.mp hx
          dsimp only [dRet, dSeq, dNext, dIfS, dSet, dExpr, dAsg, dPar, gD, dOp, dUn, dArgs, dCons, dNil, dC, dB, dNot, dCall, dMeth, dMeth0, dIf, dLst, dTup, dSl, dNoPart, dPart, dM1]
          refine dVar_at rfl (dVar_at rfl (inL (.inr (.inr ⟨u, rfl, hE'.old _ _ hu2⟩)) ⟨_, rfl, iff_T (fun hc => dVar_at rfl (hy _ _ ⟨_, rfl, ?_⟩ (Ext.refl _))) fun hc => hn _ ⟨_, rfl, ?_⟩ (Ext.refl _)⟩))
          · rw [if_neg (by simpa using hc)]
          · rw [if_pos (by simpa using hc)]
        · obtain ⟨i, hi, hfree⟩ := spare_free hl
          have hne := ho.ne (d := D.str (spareS i)) (List.mem_map.mpr ⟨i, List.mem_range.mpr hi, rfl⟩) (by rintro ⟨t, e, e2⟩; cases e; rw [if_neg hfree] at e2; cases e2)
          obtain ⟨y, hy, hmem⟩ := atI_mem (xs := ys) (i := 0) (by decide) (by have := List.length_pos_iff.mpr hne; omega)
          have hall := ho.all (P := fun y => ∃ t, y = D.str t ∧ nameS t = true ∧ t ∉ us) (fun x hx y hxy => by
            obtain ⟨j, hj, rfl⟩ := List.mem_map.mp hx
            obtain ⟨t, e, e2⟩ := hxy
            cases e
            by_cases z : spareS j ∈ us
            · rw [if_pos z] at e2; cases e2
            · rw [if_neg z] at e2; cases e2; exact ⟨_, rfl, spare_ok ⟨j, List.mem_range.mp hj⟩, z⟩)
          obtain ⟨t, rfl, h1, h2⟩ := hall y hmem
          exact SeqD.ix (.inr (.inr ⟨p, rfl, hm3⟩)) hy (hR _ _ ⟨t, h1, h2, hE.trans hE3, _, _, _, _, _, rfl⟩)
    · dsimp only [dRet, dSeq, dNext, dIfS, dSet, dExpr, dAsg, dPar, gD, dOp, dUn, dArgs, dCons, dNil, dC, dB, dNot, dCall, dMeth, dMeth0, dIf, dLst, dTup, dSl, dNoPart, dPart, dM1]
      refine dVar_at rfl ⟨d, 5, rfl, by decide, by decide, hd, fun way w0 w5 => ?_⟩
      dsimp only
      refine dVar_at rfl (dVar_at rfl ⟨d, 26, rfl, by decide, by decide, hd, fun r r0 r1 => ?_⟩)
      obtain ⟨c, hc, c1, c2⟩ := ix26 r0 r1
      refine strIx (by rw [l_letters]; decide) hc ⟨_, _, rfl, dVar_at rfl (eqI ⟨_, rfl, iff_T (fun _ => ?_) fun _ => dVar_at rfl (eqI ⟨_, rfl, iff_T (fun _ => ?_) fun _ => ?_⟩)⟩)⟩
      · refine ⟨slk (by decide), fun p hp => dVar_at rfl (dVar_at rfl ⟨d, .ref p, wordsL.map D.str, rfl, hd.ext rfl, .inr (.inr ⟨p, rfl, M.set_same⟩), (fun z => by cases z), by decide, fun y hy => ?_⟩)⟩
        obtain ⟨s, hs, rfl⟩ := List.mem_map.mp hy
        exact hR _ _ ⟨s, words_ok s hs, Ext.new hp, _, _, _, _, _, rfl⟩
      · refine dVar_at rfl ⟨d, 8, rfl, by decide, by decide, hd, fun at' a0 a8 => ?_⟩
        dsimp only
        refine dVar_at rfl (bI ⟨_, rfl, iff_T (fun hz => ?_) fun hz => ?_⟩)
        · have hz : 0 < at' := by simpa using hz
          refine dVar_at rfl ⟨at', rfl, slS (by rw [l_main]; decide) (dVar_at rfl (dVar_at rfl ⟨d, 36, rfl, by decide, by decide, hd, fun r2 r20 r21 => ?_⟩))⟩
          obtain ⟨c', hc', c'2⟩ := ix36 r20 r21
          have hok := main_cut hz a8 c'2
          have hlen := (nameS_len hok).2
          have hl1 : (cutS mainS none (some at') ++ (⟨#[c']⟩ : Str)).length ≤ 1000 := by rw [len_app] at hlen; omega
          refine strIx (by rw [l_letters]; decide) hc' (aS hl1 (dVar_at rfl (aI ⟨_, rfl, slS (by rw [l_main]; decide) (aS (Nat.le_trans hlen (by decide)) (hR _ _ ⟨_, hok, Ext.refl m, _, _, _, _, _, rfl⟩))⟩)))
        · have hz : at' = 0 := by simp at hz; omega
          subst hz
          have hok := main_cut0 c1 c2
          have hlen := (nameS_len hok).2
          refine dVar_at rfl (dVar_at rfl (aI ⟨_, rfl, slS (by rw [l_main]; decide) (aS (Nat.le_trans hlen (by decide)) (hR _ _ ⟨_, hok, Ext.refl m, _, _, _, _, _, rfl⟩))⟩))
      · refine dVar_at rfl ⟨⟨_, rfl⟩, dLC_draw (n := 8) (by decide) (fun R hR => dVar_at rfl ⟨d, 8, rfl, by decide, by decide, hd, hR⟩) fun k hk => ?_⟩
        refine dLC_gen (I := fun _ => True) (Rel := fun d o => ∃ c, sgnC c = true ∧ o = some (.str ⟨#[c]⟩)) trivial (fun _ _ _ _ => trivial) cw_w (slk (by rw [rangeD_len]; omega)) (fun x hx m' hE' _ Ry Rn hy hn => ?_) (fun p m3 ys hp hE3 _ hm3 ho => ?_)
        · dsimp only [dRet, dSeq, dNext, dIfS, dSet, dExpr, dAsg, dPar, gD, dOp, dUn, dArgs, dCons, dNil, dC, dB, dNot, dCall, dMeth, dMeth0, dIf, dLst, dTup, dSl, dNoPart, dPart, dM1]
          refine yesT (dVar_at rfl (dVar_at rfl ⟨d, 36, rfl, by decide, by decide, hd.ext hE'.gh, fun r2 r20 r21 => ?_⟩))
          obtain ⟨c', hc', c'2⟩ := ix36 r20 r21
          exact strIx (by rw [l_letters]; decide) hc' (hy _ _ ⟨c', c'2, rfl⟩ (Ext.refl _))
        · obtain ⟨cs, rfl, h2, h3⟩ := ho.exL
          rw [rangeD_len] at h3
          have hok : nameS (⟨#[c]⟩ ++ Txt.join "" (cs.map fun c => ⟨#[c]⟩)) = true := nameS_of join_signs c1 c2 h2 (by omega)
          have hlen := (nameS_len hok).2
          refine ⟨"", .ref p, cs.map fun c => ⟨#[c]⟩, rfl, rfl, .inr (.inr ⟨p, rfl, by rw [hm3, List.map_map]; rfl⟩), ?_, aS (by omega) (hR _ _ ⟨_, hok, hE3, _, _, _, _, _, rfl⟩)⟩
          have e1 : ("" : Str).length = 0 := rfl
          have e2 : ((cs.map fun c => (⟨#[c]⟩ : Str)).map (·.length)).sum ≤ ((cs.map fun c => (⟨#[c]⟩ : Str)).map (·.length)).length * 1 := sum_le fun x hx => by
            simp only [List.map_map, List.mem_map] at hx
            obtain ⟨_, _, rfl⟩ := hx
            exact Nat.le_refl 1
          simp only [List.length_map] at e2
          rw [e1]; omega


end
end PR

namespace PR
open PySem PySem.Spec PyProof.Rows L2 GA GxR DL PL TM

section
variable {P : Program} {w : World} {K : PySem.W.Frag} {mg : Str → Option Value} {base : Heap} {tl td t8 t3 : Tok} {aK aO aE aP P1 P2 : Addr} (T : Txt K mg w tl td t8 t3 aK aO aE aP) (Ok : M → Prop) (hOk : ∀ a b : M, Ok a → b.gh = a.gh → Ok b)
include T hOk

theorem c_law_named {f : Addr} {fd : FuncData} (F : Fun K "_law_named" "_law_named" s_law_named f fd) (hm : mg "_law_named" = some (.ref f)) (c_law_pick : DCal P w K mg base 2 "_law_pick" spPick) : DCal P w K mg base 3 "_law_named" spNamed := by
  refine dcal F hm (F.binds (ps := ["deck", "host"]) fun _ _ _ _ _ _ us hl => match us, hl with | [_, _], _ => rfl) sc_law_named (fun ds m Q h => ?_) (fun cdv A outer s H E hr => ⟨_, (dss_cons (ds_set (i := 2) sc_law_named.nd rfl (by first | exact Or.inl rfl | exact Or.inr rfl) (de_call c_law_pick hr (by decide) (by rfl) (da_cons (de_var 0) (da_cons (de_lst (da_cons de_int (da_cons de_int (da_cons de_int da_nil)))) da_nil))))
      (dss_cons (ds_setLc (i := 3) (own := [("it", 4)]) rfl sc_law_named.nd rfl rfl (sw_true rfl rfl rfl (by decide +kernel)) (dpi_list (de_ix (de_var 1) de_int)) (blkOk_by (N := ["deck", "host", "part", "names", "it", "name", "last"]) (sc := defScope s_law_named) (by decide +kernel)) (fun _ _ _ _ _ => (dg_name (i := 4) sc_law_named.nd rfl (by first | exact Or.inl rfl | exact Or.inr rfl))) (fun _ _ _ _ _ => dpts_nil) (fun _ _ _ _ _ => (de_ix (de_var 4) de_int)))
      (dss_cons (ds_if (dt_cmp dc_gt (de_var 2) de_int) (dss_one (ds_expr (de_append (de_var 3) (de_ix (de_ix (de_ix (de_var 1) de_int) de_int) de_int)))) dss_nil)
      (dss_cons (ds_if (dt_cmp (dc_eq hr) (de_var 2) de_int) (dss_one (ds_expr (de_append (de_var 3) (de_ix (de_ix (de_ix (de_var 1) de_int) de_int) de_int)))) dss_nil)
      (dss_cons (ds_par rfl sc_law_named.nd (i := 5) (j := 6) rfl rfl (by decide) rfl rfl (da_cons (de_call c_law_pick hr (by decide) (by rfl) (da_cons (de_var 0) (da_cons (de_var 3) da_nil))) (da_cons (de_ix (de_ix (de_ix (de_var 1) de_int) de_int) de_int) da_nil)) (by rfl))
      (dss_cons (ds_set (i := 4) sc_law_named.nd rfl (by first | exact Or.inl rfl | exact Or.inr rfl) (de_ifE (dt_cmp (dc_eq hr) (de_var 2) de_int) (de_tup (da_cons (de_var 5) (da_cons de_str da_nil))) (de_ifE (dt_cmp (dc_eq hr) (de_var 2) de_int) (de_tup (da_cons (de_var 5) (da_cons (de_tup (da_cons (de_var 6) (da_cons de_int da_nil))) da_nil))) (de_tup (da_cons (de_var 5) (da_cons (de_tup (da_cons (de_var 6) (da_cons de_int da_nil))) (da_cons (de_tup da_nil) da_nil)))))))
      (dss_one (ds_ret (de_tup (da_cons (de_var 2) (da_cons (de_var 4) (da_cons (de_var 5) (da_cons de_bl da_nil))))))))))))), fun ds m Q h => ?_⟩)
  · obtain ⟨d, h, a, b, c, e, g, s, r1, r2, r3, o, rfl, _⟩ := h; rfl
  · obtain ⟨d, h, a, b, c, e, g, s, r1, r2, r3, o, rfl, hd, hH, q⟩ := h
    obtain ⟨h0, h1, h2, h3, nd, x, x0, x1, x2, x3⟩ := hH.ex
    dsimp only [dRet, dSeq, dNext, dIfS, dSet, dExpr, dAsg, dPar, dPar3, gD, dOp, dUn, dArgs, dCons, dNil, dC, dB, dNot, dCall, dMeth, dMeth0, dIf, dLst, dTup, dSl, dNoPart, dPart, dM1, dOr, dAnd, dAndV, dOrV, dDGet, dSlA, dGet1]
    refine dVar_at rfl ⟨slk (by simp), fun p1 hp1 => pickL hd (by simp) (by decide) fun y hy => ?_⟩
    obtain ⟨pt, rfl, hpt⟩ : ∃ pt : Int, y = .int pt ∧ (pt = 0 ∨ pt = 2 ∨ pt = 3) := by
      simp only [List.mem_cons, List.not_mem_nil, or_false] at hy
      rcases hy with rfl | rfl | rfl <;> exact ⟨_, rfl, by decide⟩
    have E1 := Ext.new (o := .lst [.int 0, .int 2, .int 3]) hp1
    have x := E1.old _ _ x; have x0 := E1.old _ _ x0; have x2 := E1.old _ _ x2; have x3 := E1.old _ _ x3
    have hd := hd.ext E1.gh
    generalize m.set p1 (.lst [.int 0, .int 2, .int 3]) = m1 at E1 x x0 x2 x3 hd ⊢
    refine dLC_gen (I := fun _ => True) (xs := (hostP a b c e g s r1 r2 r3 o).st.map strD) (Rel := fun x o => ∃ st : Str × Str, x = strD st ∧ True ∧ o = some (D.str st.1)) trivial (fun _ _ _ _ => trivial) (iL_w (fun R hR => dVar_at rfl (ixL (k := 0) x rfl hR)) x0) (slk (by simp [hostP])) (fun z hz m' hE' _ Ry Rn hy hn => ?_) (fun pn m2 ys hpn hE2 _ hm2 ho => ?_)
    · obtain ⟨st, hst, rfl⟩ := List.mem_map.mp hz
      dsimp only [dRet, dSeq, dNext, dIfS, dSet, dExpr, dAsg, dPar, dPar3, gD, dOp, dUn, dArgs, dCons, dNil, dC, dB, dNot, dCall, dMeth, dMeth0, dIf, dLst, dTup, dSl, dNoPart, dPart, dM1, dOr, dAnd, dAndV, dOrV, dDGet, dSlA, dGet1]
      exact yesT (dVar_at rfl ⟨_, rfl, hy _ _ ⟨st, rfl, trivial, rfl⟩ (Ext.refl _)⟩)
    · have hys := Outs.mapOf (f := strD) (h := fun st : Str × Str => D.str st.1) (P := fun _ => True) (l := (hostP a b c e g s r1 r2 r3 o).st) (fun _ _ e => by rw [strD_inj e]) ho
      have hys : ys = [a, b, c, e].map D.str := hys
      subst hys
      have nh := neOf x hpn; have nh0 := neOf x0 hpn; have nh2 := neOf x2 hpn; have nh3 := neOf x3 hpn
      have E2 := E1.trans hE2
      have x := hE2.old _ _ x; have x0 := hE2.old _ _ x0; have x2 := hE2.old _ _ x2; have x3 := hE2.old _ _ x3
      have hd := hd.ext hE2.gh
      have fpn : m.mu pn = none := E1.fr hpn
      rcases hpt with rfl | rfl | rfl
      · refine dVar_at rfl (bI ⟨_, rfl, ifF rfl (dVar_at rfl (eqI ⟨_, rfl, ifF rfl ?_⟩))⟩)
        refine dVar_at rfl (dVar_at rfl (pk (f := D.str) (l := [a, b, c, e]) hd hm2 (by simp) (by simp) fun n hn => ?_))
        refine dVar_at rfl (ixL (k := 0) x rfl (ixL (k := 3) x0 rfl ⟨_, rfl, _, _, rfl, ?_⟩))
        exact dVar_at rfl (eqI ⟨_, rfl, ifT rfl (dVar_at rfl ⟨slk (by simp), dVar_at rfl (dVar_at rfl (dVar_at rfl ⟨slk (by simp), q (.st (n, "crossing")) n _ (.st hn) E2⟩))⟩)⟩)
      · refine dVar_at rfl (bI ⟨_, rfl, ifT rfl (dVar_at rfl ⟨⟨pn, _, rfl, hm2⟩, dVar_at rfl (ixL (k := 2) x rfl (ixL (k := 0) x2 rfl ⟨_, rfl, ap hm2 (by simp) ?_⟩))⟩)⟩)
        have eq3 : m2.set pn (.lst ([a, b, c, e].map D.str ++ [.str g])) = m2.set pn (.lst ([a, b, c, e, g].map D.str)) := rfl
        rw [show m2.set pn (.lst ([a, b, c, e].map D.str ++ [D.str (g, ((a, 0) : PL.End)).1])) = m2.set pn (.lst ([a, b, c, e, g].map D.str)) from rfl]
        have E3 := E2.set (o := .lst ([a, b, c, e, g].map D.str)) fpn
        have y1 : (m2.set pn (.lst ([a, b, c, e, g].map D.str))).mu pn = _ := M.set_same
        have x := (M.set_ne (o := .lst ([a, b, c, e, g].map D.str)) nh).trans x
        have x0 := (M.set_ne (o := .lst ([a, b, c, e, g].map D.str)) nh0).trans x0
        have hd : Dk (m2.set pn (.lst ([a, b, c, e, g].map D.str))) d := hd.ext rfl
        generalize m2.set pn (.lst ([a, b, c, e, g].map D.str)) = m3 at E3 y1 x x0 hd ⊢
        refine dVar_at rfl (eqI ⟨_, rfl, ifF rfl ?_⟩)
        refine dVar_at rfl (dVar_at rfl (pk (f := D.str) (l := [a, b, c, e, g]) hd y1 (by simp) (by simp) fun n hn => ?_))
        refine dVar_at rfl (ixL (k := 0) x rfl (ixL (k := 3) x0 rfl ⟨_, rfl, _, _, rfl, ?_⟩))
        exact dVar_at rfl (eqI ⟨_, rfl, ifF rfl (dVar_at rfl (eqI ⟨_, rfl, ifT rfl (dVar_at rfl (dVar_at rfl ⟨slk (by simp), slk (by simp), dVar_at rfl (dVar_at rfl (dVar_at rfl ⟨slk (by simp), q (.ga (n, (e, 1))) n _ (.ga hn) E3⟩))⟩))⟩))⟩)
      · refine dVar_at rfl (bI ⟨_, rfl, ifT rfl (dVar_at rfl ⟨⟨pn, _, rfl, hm2⟩, dVar_at rfl (ixL (k := 2) x rfl (ixL (k := 0) x2 rfl ⟨_, rfl, ap hm2 (by simp) ?_⟩))⟩)⟩)
        rw [show m2.set pn (.lst ([a, b, c, e].map D.str ++ [D.str (g, ((a, 0) : PL.End)).1])) = m2.set pn (.lst ([a, b, c, e, g].map D.str)) from rfl]
        have E3 := E2.set (o := .lst ([a, b, c, e, g].map D.str)) fpn
        have y1 : (m2.set pn (.lst ([a, b, c, e, g].map D.str))).mu pn = _ := M.set_same
        have x := (M.set_ne (o := .lst ([a, b, c, e, g].map D.str)) nh).trans x
        have x0 := (M.set_ne (o := .lst ([a, b, c, e, g].map D.str)) nh0).trans x0
        have x3 := (M.set_ne (o := .lst ([a, b, c, e, g].map D.str)) nh3).trans x3
        have hd : Dk (m2.set pn (.lst ([a, b, c, e, g].map D.str))) d := hd.ext rfl
        generalize m2.set pn (.lst ([a, b, c, e, g].map D.str)) = m3 at E3 y1 x x0 x3 hd ⊢
        refine dVar_at rfl (eqI ⟨_, rfl, ifT rfl (dVar_at rfl ⟨⟨pn, _, rfl, y1⟩, dVar_at rfl (ixL (k := 3) x rfl (ixL (k := 0) x3 rfl ⟨_, rfl, ap y1 (by simp) ?_⟩))⟩)⟩)
        rw [show m3.set pn (.lst ([a, b, c, e, g].map D.str ++ [D.str (s, ((a, 1) : PL.End), o).1])) = m3.set pn (.lst ([a, b, c, e, g, s].map D.str)) from rfl]
        have E4 := E3.set (o := .lst ([a, b, c, e, g, s].map D.str)) fpn
        have y2 : (m3.set pn (.lst ([a, b, c, e, g, s].map D.str))).mu pn = _ := M.set_same
        have x := (M.set_ne (o := .lst ([a, b, c, e, g, s].map D.str)) nh).trans x
        have x0 := (M.set_ne (o := .lst ([a, b, c, e, g, s].map D.str)) nh0).trans x0
        have hd : Dk (m3.set pn (.lst ([a, b, c, e, g, s].map D.str))) d := hd.ext rfl
        generalize m3.set pn (.lst ([a, b, c, e, g, s].map D.str)) = m4 at E4 y2 x x0 hd ⊢
        refine dVar_at rfl (dVar_at rfl (pk (f := D.str) (l := [a, b, c, e, g, s]) hd y2 (by simp) (by simp) fun n hn => ?_))
        refine dVar_at rfl (ixL (k := 0) x rfl (ixL (k := 3) x0 rfl ⟨_, rfl, _, _, rfl, ?_⟩))
        exact dVar_at rfl (eqI ⟨_, rfl, ifF rfl (dVar_at rfl (eqI ⟨_, rfl, ifF rfl (dVar_at rfl (dVar_at rfl ⟨slk (by simp), slk (by simp), slk (by simp), dVar_at rfl (dVar_at rfl (dVar_at rfl ⟨slk (by simp), q (.si (n, (e, 0), none)) n _ (.si hn) E4⟩))⟩))⟩))⟩)

end
end PR

namespace PR
open PySem PySem.Spec PyProof.Rows L2 GA GxR DL PL TM

section
variable {P : Program} {w : World} {K : PySem.W.Frag} {mg : Str → Option Value} {base : Heap} {tl td t8 t3 : Tok} {aK aO aE aP P1 P2 : Addr} (T : Txt K mg w tl td t8 t3 aK aO aE aP) (Ok : M → Prop) (hOk : ∀ a b : M, Ok a → b.gh = a.gh → Ok b)
include T hOk

theorem c_law_over {f : Addr} {fd : FuncData} (F : Fun K "_law_over" "_law_over" s_law_over f fd) (hm : mg "_law_over" = some (.ref f)) (c_law_draw : DCal P w K mg base 1 "_law_draw" spDrawG) : DCal P w K mg base 2 "_law_over" spOver2 := by
  refine dcal F hm (F.binds (ps := ["deck", "kinds", "end"]) fun _ _ _ _ _ _ us hl => match us, hl with | [_, _, _], _ => rfl) sc_law_over (fun ds m Q h => ?_) (fun cdv A outer s H E hr => ⟨_, (dss_cons (ds_asg (de_var 2) (dg_tup rfl (dgs_cons (pg_name (i := 3) sc_law_over.nd rfl (by first | exact Or.inl rfl | exact Or.inr rfl)) (dgs_cons (pg_name (i := 4) sc_law_over.nd rfl (by first | exact Or.inl rfl | exact Or.inr rfl)) dgs_nil))))
      (dss_cons (ds_if (dt_w (dw_or (dt_cmp (dc_eq hr) (de_call c_law_draw hr (by decide) (by rfl) (da_cons (de_var 0) (da_cons de_int da_nil))) de_int) (dw_or1 (dt_cmp (dc_eq hr) (de_dget hr (de_var 1) (de_var 3)) de_str)))) (dss_one (ds_ret (de_tup da_nil))) dss_nil)
      (dss_one (ds_ret (de_tup (da_cons (de_tup (da_cons (de_var 3) (da_cons (de_var 4) (da_cons (de_ifE (dt_cmp (dc_eq hr) (de_dget hr (de_var 1) (de_var 3)) de_str) (de_sub de_int (de_var 4)) (de_xor (de_var 4) de_int)) da_nil)))) da_nil)))))), fun ds m Q h => ?_⟩)
  · obtain ⟨d, k, kvs, e, rfl, _⟩ := h; rfl
  · obtain ⟨d, k, kvs, e, rfl, hd, hk, nd, ⟨he, kind, hkm, hks, hlt⟩, q⟩ := h
    dsimp only [dRet, dSeq, dNext, dIfS, dSet, dExpr, dAsg, dPar, dPar3, gD, dOp, dUn, dArgs, dCons, dNil, dC, dB, dNot, dCall, dMeth, dMeth0, dIf, dLst, dTup, dSl, dNoPart, dPart, dM1, dOr, dAnd, dAndV, dOrV, dDGet, dSlA, dGet1]
    have hg : GetD m k (.str e.1) (some (.str kind)) := .inl ⟨_, .inr e.1, hk, rfl, (valStr hkm nd).symm⟩
    refine dVar_at rfl ⟨[.str e.1, .int e.2], .inl rfl, rfl, dVar_at rfl (drw hd (by decide) (by decide) fun r r0 r1 => eqI ⟨_, rfl, iff_T (fun _ => ?_) fun _ => ?_⟩)⟩
    · exact ifT rfl ⟨slk (by simp), q none fun t h => by cases h⟩
    · refine dVar_at rfl (dVar_at rfl ⟨k, _, rfl, hg, eqT ⟨_, rfl, iff_T (fun _ => ⟨slk (by simp), q none fun t h => by cases h⟩) fun hnp => ?_⟩⟩)
      refine dVar_at rfl (dVar_at rfl (dVar_at rfl (dVar_at rfl ⟨k, _, rfl, hg, eqT ⟨_, rfl, iff_T (fun hc => ?_) fun hc => ?_⟩⟩)))
      · have hc : kind = "plain" := by simpa using hc
        subst hc
        have h2 := he.2
        refine dVar_at rfl (rI trivial ⟨slk (by simp), slk (by simp), q (some (e.1, e.2, 1 - e.2)) fun t h => ?_⟩)
        cases h
        have e2 : nEnds "plain" = 2 := rfl
        exact ⟨⟨he.1, he.2, by unfold numOk at h2 ⊢; show 0 ≤ 1 - e.2 ∧ 1 - e.2 ≤ 3; omega⟩, rfl, rfl, "plain", hkm, .inl rfl, way_plain h2.1 hlt⟩
      · have hnp : kind ≠ "points" := by simpa using hnp
        have hnq : kind ≠ "plain" := by simpa using hc
        have hcr : kind = "crossing" := by
          rcases kind3 hks with z | z | z
          · exact (hnq z).elim
          · exact (hnp z).elim
          · exact z
        subst hcr
        refine dVar_at rfl (rI trivial ⟨slk (by simp), slk (by simp), q (some (e.1, e.2, Builtin.bitXor e.2 1)) fun t h => ?_⟩)
        cases h
        exact ⟨⟨he.1, he.2, xor_ok he.2⟩, rfl, rfl, "crossing", hkm, .inr rfl, way_cross he.2.1 he.2.2⟩

end
end PR

namespace PR
open PySem PySem.Spec PyProof.Rows L2 GA GxR DL PL TM

section
variable {P : Program} {w : World} {K : PySem.W.Frag} {mg : Str → Option Value} {base : Heap} {tl td t8 t3 : Tok} {aK aO aE aP P1 P2 : Addr} (T : Txt K mg w tl td t8 t3 aK aO aE aP) (Ok : M → Prop) (hOk : ∀ a b : M, Ok a → b.gh = a.gh → Ok b)
include T hOk

theorem c_law_pick {f : Addr} {fd : FuncData} (F : Fun K "_law_pick" "_law_pick" s_law_pick f fd) (hm : mg "_law_pick" = some (.ref f)) (c_law_draw : DCal P w K mg base 1 "_law_draw" spDrawG) : DCal P w K mg base 2 "_law_pick" spPick := by
  refine dcal F hm (F.binds (ps := ["deck", "some"]) fun _ _ _ _ _ _ us hl => match us, hl with | [_, _], _ => rfl) sc_law_pick (fun ds m Q h => ?_) (fun cdv A outer s H E hr => ⟨_, (dss_one (ds_ret (de_ix (de_var 1) (de_call c_law_draw hr (by decide) (by rfl) (da_cons (de_var 0) (da_cons (de_len (by rfl) T.len (da_cons (de_var 1) da_nil)) da_nil)))))), fun ds m Q h => ?_⟩)
  · obtain ⟨d, s, ds', rfl, _⟩ := h; rfl
  · obtain ⟨d, s, ds', rfl, hd, hs, hne, hl, q⟩ := h
    dsimp only [dRet, dSeq, dNext, dIfS, dSet, dExpr, dAsg, dPar, gD, dOp, dUn, dArgs, dCons, dNil, dC, dB, dNot, dCall, dMeth, dMeth0, dIf, dLst, dTup, dSl, dNoPart, dPart, dM1]
    have hn : 0 < ds'.length := List.length_pos_iff.mpr hne
    refine dVar_at rfl (dVar_at rfl (dVar_at rfl ⟨s, ds'.length, rfl, SeqD.len hs, d, ds'.length, rfl, by omega, by omega, hd, fun r h0 h1 => ?_⟩))
    obtain ⟨y, hy, hm⟩ := atI_mem h0 h1
    exact SeqD.ix hs hy (q y hm)


end
end PR

namespace PR
open PySem PySem.Spec PyProof.Rows L2 GA GxR DL PL TM

section
variable {P : Program} {w : World} {K : PySem.W.Frag} {mg : Str → Option Value} {base : Heap} {tl td t8 t3 : Tok} {aK aO aE aP P1 P2 : Addr} (T : Txt K mg w tl td t8 t3 aK aO aE aP) (Ok : M → Prop) (hOk : ∀ a b : M, Ok a → b.gh = a.gh → Ok b)
include T hOk

theorem c_law_wrong {f : Addr} {fd : FuncData} (F : Fun K "_law_wrong" "_law_wrong" s_law_wrong f fd) (hm : mg "_law_wrong" = some (.ref f)) (c_law_pick : DCal P w K mg base 2 "_law_pick" spPick) (c_law_draw : DCal P w K mg base 1 "_law_draw" spDrawG) (c_law_name : DCal P w K mg base 3 "_law_name" spName) : DCal P w K mg base 4 "_law_wrong" spWrong := by
  refine dcal F hm (F.binds (ps := ["deck", "kind", "turn", "host", "used"]) fun _ _ _ _ _ _ us hl => match us, hl with | [_, _, _, _, _], _ => rfl) sc_law_wrong (fun ds m Q h => ?_) (fun cdv A outer s H E hr => ⟨_, (dss_cons (ds_asgL rfl (de_lc (own := [("it", 13)]) rfl sc_law_wrong.nd (dpi_list (de_ix (de_var 3) de_int)) (blkOk_by (N := ["deck", "kind", "turn", "host", "used", "end", "step", "one", "two", "three", "four", "name", "way", "it", "over", "steps"]) (sc := defScope s_law_wrong) (by decide +kernel)) (fun _ _ _ _ _ => (dg_name (i := 13) sc_law_wrong.nd rfl (by first | exact Or.inl rfl | exact Or.inr rfl))) (fun _ _ _ _ _ => dpts_nil) (fun _ _ _ _ _ => (de_ix (de_var 13) de_int))) (dgs_cons (pg_name (i := 7) sc_law_wrong.nd rfl (by first | exact Or.inl rfl | exact Or.inr rfl)) (dgs_cons (pg_name (i := 8) sc_law_wrong.nd rfl (by first | exact Or.inl rfl | exact Or.inr rfl)) (dgs_cons (pg_name (i := 9) sc_law_wrong.nd rfl (by first | exact Or.inl rfl | exact Or.inr rfl)) (dgs_cons (pg_name (i := 10) sc_law_wrong.nd rfl (by first | exact Or.inl rfl | exact Or.inr rfl)) dgs_nil)))))
      (dss_cons (ds_par rfl sc_law_wrong.nd (i := 11) (j := 12) rfl rfl (by decide) rfl rfl (da_cons (de_call c_law_name hr (by decide) (by rfl) (da_cons (de_var 0) (da_cons (de_var 4) da_nil))) (da_cons (de_call c_law_draw hr (by decide) (by rfl) (da_cons (de_var 0) (da_cons de_int da_nil))) da_nil)) (by rfl))
      (dss_cons (ds_if (dt_cmp (dc_eq hr) (de_var 1) de_int) (dss_cons (ds_set (i := 13) sc_law_wrong.nd rfl (by first | exact Or.inl rfl | exact Or.inr rfl) (de_ix (de_lst (da_cons (de_tup (da_cons (de_tup (da_cons (de_var 9) (da_cons de_int da_nil))) (da_cons (de_tup (da_cons (de_var 9) (da_cons de_int da_nil))) da_nil))) (da_cons (de_tup (da_cons (de_tup (da_cons (de_var 10) (da_cons de_int da_nil))) (da_cons (de_tup (da_cons (de_var 10) (da_cons de_int da_nil))) da_nil))) (da_cons (de_tup (da_cons (de_tup (da_cons (de_var 10) (da_cons de_int da_nil))) (da_cons (de_tup (da_cons (de_var 9) (da_cons de_int da_nil))) da_nil))) (da_cons (de_tup (da_cons (de_tup (da_cons (de_var 8) (da_cons de_int da_nil))) (da_cons (de_tup (da_cons (de_var 10) (da_cons de_int da_nil))) da_nil))) da_nil))))) (de_var 12)))
      (dss_cons (ds_set (i := 13) sc_law_wrong.nd rfl (by first | exact Or.inl rfl | exact Or.inr rfl) (de_ifE (dt_cmp (dc_eq hr) (de_call c_law_draw hr (by decide) (by rfl) (da_cons (de_var 0) (da_cons de_int da_nil))) de_int) (de_var 13) (de_revT (de_var 13))))
      (dss_one (ds_ret (de_tup (da_cons de_int (da_cons (de_var 13) (da_cons (de_ix (de_ix (de_var 13) de_int) de_int) (da_cons de_bl da_nil))))))))) dss_nil)
      (dss_cons (ds_if (dt_cmp (dc_eq hr) (de_var 1) de_int) (dss_one (ds_ret (de_tup (da_cons de_int (da_cons (de_tup (da_cons (de_var 11) (da_cons (de_ix (de_lst (da_cons (de_tup (da_cons (de_var 8) (da_cons de_int da_nil))) (da_cons (de_tup (da_cons (de_var 7) (da_cons de_int da_nil))) (da_cons (de_tup (da_cons (de_var 9) (da_cons de_int da_nil))) (da_cons (de_tup (da_cons (de_var 10) (da_cons de_int da_nil))) da_nil))))) (de_var 12)) da_nil))) (da_cons (de_var 11) (da_cons de_bl da_nil))))))) dss_nil)
      (dss_cons (ds_if (dt_cmp (dc_eq hr) (de_var 1) de_int) (dss_cons (ds_set (i := 14) sc_law_wrong.nd rfl (by first | exact Or.inl rfl | exact Or.inr rfl) (de_ifE (dt_cmp (dc_eq hr) (de_call c_law_draw hr (by decide) (by rfl) (da_cons (de_var 0) (da_cons de_int da_nil))) de_int) (de_tup da_nil) (de_tup (da_cons (de_tup (da_cons (de_var 8) (da_cons de_int (da_cons de_int da_nil)))) da_nil))))
      (dss_one (ds_ret (de_tup (da_cons de_int (da_cons (de_tup (da_cons (de_var 11) (da_cons (de_ix (de_lst (da_cons (de_tup (da_cons (de_var 10) (da_cons de_int da_nil))) (da_cons (de_tup (da_cons (de_var 7) (da_cons de_int da_nil))) (da_cons (de_tup (da_cons (de_var 9) (da_cons de_int da_nil))) (da_cons (de_tup (da_cons (de_var 7) (da_cons de_int da_nil))) da_nil))))) (de_var 12)) (da_cons (de_var 14) da_nil)))) (da_cons (de_var 11) (da_cons de_bl da_nil)))))))) dss_nil)
      (dss_cons (ds_if (dt_cmp (dc_eq hr) (de_var 2) de_int) (dss_cons (ds_set (i := 15) sc_law_wrong.nd rfl (by first | exact Or.inl rfl | exact Or.inr rfl) (de_lst (da_cons (de_tup (da_cons (de_var 7) (da_cons de_int (da_cons de_int da_nil)))) (da_cons (de_tup (da_cons (de_var 7) (da_cons de_int (da_cons de_int da_nil)))) (da_cons (de_tup (da_cons (de_var 10) (da_cons de_int (da_cons de_int da_nil)))) (da_cons (de_tup (da_cons (de_var 7) (da_cons de_int (da_cons de_int da_nil)))) (da_cons (de_tup (da_cons (de_var 11) (da_cons de_int (da_cons de_int da_nil)))) (da_cons (de_tup (da_cons (de_var 7) (da_cons de_int (da_cons de_int da_nil)))) (da_cons (de_tup (da_cons (de_var 8) (da_cons de_int (da_cons de_int da_nil)))) da_nil)))))))))
      (dss_one (ds_ret (de_tup (da_cons de_int (da_cons (de_tup (da_cons (de_var 11) (da_cons (de_tup (da_cons (de_var 8) (da_cons de_int da_nil))) (da_cons (de_tup (da_cons (de_call c_law_pick hr (by decide) (by rfl) (da_cons (de_var 0) (da_cons (de_var 15) da_nil))) da_nil)) da_nil)))) (da_cons (de_var 11) (da_cons de_bl da_nil)))))))) dss_nil)
      (dss_cons (ds_set (i := 5) sc_law_wrong.nd rfl (by first | exact Or.inl rfl | exact Or.inr rfl) (de_ix (de_lst (da_cons (de_tup (da_cons (de_var 8) (da_cons de_int da_nil))) (da_cons (de_tup (da_cons (de_var 10) (da_cons de_int da_nil))) da_nil))) (de_mod (de_bty call_int1 argl_int (by rfl) T.int (by decide +kernel) (da_cons (de_var 12) da_nil)) de_int)))
      (dss_cons (ds_set (i := 6) sc_law_wrong.nd rfl (by first | exact Or.inl rfl | exact Or.inr rfl) (de_call c_law_pick hr (by decide) (by rfl) (da_cons (de_var 0) (da_cons (de_lst (da_cons (de_tup (da_cons (de_var 9) (da_cons de_int (da_cons de_int da_nil)))) (da_cons (de_tup (da_cons (de_var 9) (da_cons de_int (da_cons de_int da_nil)))) (da_cons (de_tup (da_cons (de_var 9) (da_cons de_int (da_cons de_int da_nil)))) (da_cons (de_tup (da_cons (de_var 9) (da_cons de_int (da_cons de_int da_nil)))) (da_cons (de_tup (da_cons (de_var 8) (da_cons de_int (da_cons de_int da_nil)))) (da_cons (de_tup (da_cons (de_var 10) (da_cons de_int (da_cons de_int da_nil)))) da_nil))))))) da_nil))))
      (dss_one (ds_ret (de_tup (da_cons de_int (da_cons (de_tup (da_cons (de_var 11) (da_cons (de_var 5) (da_cons (de_tup (da_cons (de_var 6) da_nil)) da_nil)))) (da_cons (de_var 11) (da_cons de_bl da_nil))))))))))))))), fun ds m Q h => ?_⟩)
  · obtain ⟨d, k, t, h, u, us, a, b, c, e, g, s, r1, r2, r3, o, rfl, _⟩ := h; rfl
  · obtain ⟨d, k, t, h, u, us, a, b, c, e, g, s, r1, r2, r3, o, rfl, hd, hk, ht, hH, hu, hul, q⟩ := h
    obtain ⟨h0, h1, h2, h3, nd, x, x0, x1, x2, x3⟩ := hH.ex
    refine seqR1 (fun δ m2 => ∃ (d5 d6 d11 d12 d13 d14 d15 : Option D), δ = [some d, some (.int k), some (.int t), some (.ref h), some (.ref u), d5, d6, some (.str a), some (.str b), some (.str c), some (.str e), d11, d12, d13, d14, d15] ∧ Ext m m2) ?_ (fun R hR => seqI ?_)
    · rintro δ m2 ⟨d5, d6, d11, d12, d13, d14, d15, rfl, E2⟩
      refine seqR1 (fun δ m2 => ∃ (nm : Str) (w : Int) (d5 d6 d13 d14 d15 : Option D), δ = [some d, some (.int k), some (.int t), some (.ref h), some (.ref u), d5, d6, some (.str a), some (.str b), some (.str c), some (.str e), some (.str nm), some (.int w), d13, d14, d15] ∧ 0 ≤ w ∧ w < 4 ∧ nameS nm = true ∧ nm ∉ us ∧ Chg u m m2 ∧ m2.mu u = some (.lst ((us ++ [nm]).map D.str))) ?_ (fun R hR => seqI ?_)
      · rintro δ m3 ⟨nm, w, d5, d6, d13, d14, d15, rfl, w0, w1, hn, hnn, C3, hu3⟩
        have hd3 := hd.ext C3.gh
        have fin : ∀ {mm : M} {RR : DK} {w : Wit} {n : Str} {low : Bool}, Ext m3 mm → WrongOk a b c e nm k t w n low → Q (witD w n low) mm := fun {mm RR w n low} E h => q w n low nm mm h hn hnn (C3.ext E) (E.old _ _ hu3)
        dsimp only [dRet, dSeq, dNext, dIfS, dSet, dExpr, dAsg, dPar, dPar3, gD, dOp, dUn, dArgs, dCons, dNil, dC, dB, dNot, dCall, dMeth, dMeth0, dIf, dLst, dTup, dSl, dNoPart, dPart, dM1, dOr, dAnd, dAndV, dOrV, dDGet, dSlA, dGet1]
        refine dVar_at rfl (eqI ⟨_, rfl, iff_T (fun hk2 => ?_) fun hk2 => ?_⟩)
        · have hk2 : k = 2 := by simpa using hk2
          subst hk2
          have fin2 : ∀ {mm : M} {xx : PL.End × PL.End} {r : Bool}, Ext m3 mm → xx ∈ [((c, 2), (c, 2)), ((e, 1), (e, 1)), ((e, 1), (c, 0)), ((b, 0), (e, 1))] → Q (.tup [.int 1, joD (revJ r xx), .str (revJ r xx).1.1, .bl true]) mm := fun {mm xx r} E h => q _ _ _ nm mm (.jo (r := r) h) hn hnn (C3.ext E) (E.old _ _ hu3)
          refine dVar_at rfl ⟨slk (by simp), dVar_at rfl ⟨slk (by simp), slk (by simp), dVar_at rfl ⟨slk (by simp), dVar_at rfl ⟨slk (by simp), slk (by simp), dVar_at rfl ⟨slk (by simp), dVar_at rfl ⟨slk (by simp), slk (by simp), dVar_at rfl ⟨slk (by simp), dVar_at rfl ⟨slk (by simp), slk (by simp), slk (by simp), fun p hp => ?_⟩⟩⟩⟩⟩⟩⟩⟩
          refine dVar_at rfl (ixAny M.set_same w0 w1 fun y hy => ?_)
          obtain ⟨xx, rfl, hxx⟩ : ∃ xx : PL.End × PL.End, y = joD xx ∧ xx ∈ [((c, 2), (c, 2)), ((e, 1), (e, 1)), ((e, 1), (c, 0)), ((b, 0), (e, 1))] := by
            simp only [List.mem_cons, List.not_mem_nil, or_false] at hy
            rcases hy with rfl | rfl | rfl | rfl
            · exact ⟨((c, 2), (c, 2)), rfl, by simp⟩
            · exact ⟨((e, 1), (e, 1)), rfl, by simp⟩
            · exact ⟨((e, 1), (c, 0)), rfl, by simp⟩
            · exact ⟨((b, 0), (e, 1)), rfl, by simp⟩
          refine dVar_at rfl (drw (hd3.ext rfl) (by decide) (by decide) fun r r0 r1' => eqI ⟨_, rfl, iff_T (fun _ => ?_) fun _ => ?_⟩)
          · exact dVar_at rfl (dVar_at rfl (dVar_at rfl ⟨_, rfl, endD_ix0 ⟨slk (by simp), fin2 (r := false) (Ext.new hp) hxx⟩⟩))
          · exact dVar_at rfl ⟨_, rfl, dVar_at rfl (dVar_at rfl ⟨_, rfl, endD_ix0 ⟨slk (by simp), fin2 (r := true) (Ext.new hp) hxx⟩⟩)⟩
        · have hk2 : k ≠ 2 := by simpa using hk2
          refine dVar_at rfl (eqI ⟨_, rfl, iff_T (fun hk3 => ?_) fun hk3 => ?_⟩)
          · have hk3 : k = 3 := by simpa using hk3
            subst hk3
            refine dVar_at rfl (dVar_at rfl ⟨slk (by simp), dVar_at rfl ⟨slk (by simp), dVar_at rfl ⟨slk (by simp), dVar_at rfl ⟨slk (by simp), slk (by simp), fun p hp => ?_⟩⟩⟩⟩)
            refine dVar_at rfl (ixAny M.set_same w0 w1 fun y hy => ⟨slk (by simp), dVar_at rfl ⟨slk (by simp), ?_⟩⟩)
            obtain ⟨xx, rfl, hxx⟩ : ∃ xx : PL.End, y = endD xx ∧ xx ∈ [(b, 1), (a, 0), (c, 2), (e, 0)] := by
              simp only [List.mem_cons, List.not_mem_nil, or_false] at hy
              rcases hy with rfl | rfl | rfl | rfl
              · exact ⟨(b, 1), rfl, by simp⟩
              · exact ⟨(a, 0), rfl, by simp⟩
              · exact ⟨(c, 2), rfl, by simp⟩
              · exact ⟨(e, 0), rfl, by simp⟩
            exact q _ _ _ nm _ (.ga (t := t) hxx) hn hnn (C3.ext (Ext.new hp)) ((Ext.new hp).old _ _ hu3)
          · have hk3 : k ≠ 3 := by simpa using hk3
            refine dVar_at rfl (eqI ⟨_, rfl, iff_T (fun hk4 => ?_) fun hk4 => ?_⟩)
            · have hk4 : k = 4 := by simpa using hk4
              subst hk4
              have fin4 : ∀ (oo : Option PL.Step), (oo = none ∨ oo = some (b, 0, 1)) → ∀ (y : D) (p : Addr), m3.mu p = none → y ∈ [D.tup [.str e, .int 1], .tup [.str a, .int 1], .tup [.str c, .int 0], .tup [.str a, .int 0]] → Q (.tup [.int 3, .tup [.str nm, y, ovD oo], .str nm, .bl true]) (m3.set p (.lst [D.tup [.str e, .int 1], .tup [.str a, .int 1], .tup [.str c, .int 0], .tup [.str a, .int 0]])) := fun oo hoo y p hp hy => by
                obtain ⟨xx, rfl, hxx⟩ : ∃ xx : PL.End, y = endD xx ∧ xx ∈ [(e, 1), (a, 1), (c, 0), (a, 0)] := by
                  simp only [List.mem_cons, List.not_mem_nil, or_false] at hy
                  rcases hy with rfl | rfl | rfl | rfl
                  · exact ⟨(e, 1), rfl, by simp⟩
                  · exact ⟨(a, 1), rfl, by simp⟩
                  · exact ⟨(c, 0), rfl, by simp⟩
                  · exact ⟨(a, 0), rfl, by simp⟩
                exact q _ _ _ nm _ (.si (t := t) hxx hoo) hn hnn (C3.ext (Ext.new hp)) ((Ext.new hp).old _ _ hu3)
              refine dVar_at rfl (drw hd3 (by decide) (by decide) fun r r0 r1' => eqI ⟨_, rfl, iff_T (fun _ => ?_) fun _ => ?_⟩)
              · refine ⟨slk (by simp), dVar_at rfl (dVar_at rfl ⟨slk (by simp), dVar_at rfl ⟨slk (by simp), dVar_at rfl ⟨slk (by simp), dVar_at rfl ⟨slk (by simp), slk (by simp), fun p hp => ?_⟩⟩⟩⟩)⟩
                exact dVar_at rfl (ixAny M.set_same w0 w1 fun y hy => dVar_at rfl ⟨slk (by simp), dVar_at rfl ⟨slk (by simp), fin4 none (.inl rfl) y p hp hy⟩⟩)
              · refine dVar_at rfl ⟨slk (by simp), slk (by simp), dVar_at rfl (dVar_at rfl ⟨slk (by simp), dVar_at rfl ⟨slk (by simp), dVar_at rfl ⟨slk (by simp), dVar_at rfl ⟨slk (by simp), slk (by simp), fun p hp => ?_⟩⟩⟩⟩)⟩
                exact dVar_at rfl (ixAny M.set_same w0 w1 fun y hy => dVar_at rfl ⟨slk (by simp), dVar_at rfl ⟨slk (by simp), fin4 (some (b, 0, 1)) (.inr rfl) y p hp hy⟩⟩)
            · have hk4 : k ≠ 4 := by simpa using hk4
              have hk5 : k = 5 := by omega
              subst hk5
              rcases ht with rfl | rfl
              · refine dVar_at rfl (eqI ⟨_, rfl, ifT rfl ?_⟩)
                refine dVar_at rfl ⟨slk (by simp), dVar_at rfl ⟨slk (by simp), dVar_at rfl ⟨slk (by simp), dVar_at rfl ⟨slk (by simp), dVar_at rfl ⟨slk (by simp), dVar_at rfl ⟨slk (by simp), dVar_at rfl ⟨slk (by simp), slk (by simp), fun p hp => ?_⟩⟩⟩⟩⟩⟩⟩
                refine dVar_at rfl (dVar_at rfl ⟨slk (by simp), dVar_at rfl (dVar_at rfl (pickL hd3 (by simp) (by simp) fun y hy => ⟨slk (by simp), slk (by simp), dVar_at rfl ⟨slk (by simp), ?_⟩⟩))⟩)
                obtain ⟨xx, rfl, hxx⟩ : ∃ xx : PL.Step, y = stepD xx ∧ xx ∈ [(a, 1, 1), (a, 0, 1), (e, 0, 1), (a, 1, 2), (nm, 1, 0), (a, 1, 3), (b, 0, 1)] := by
                  simp only [List.mem_cons, List.not_mem_nil, or_false] at hy
                  rcases hy with rfl | rfl | rfl | rfl | rfl | rfl | rfl
                  · exact ⟨(a, 1, 1), rfl, by simp⟩
                  · exact ⟨(a, 0, 1), rfl, by simp⟩
                  · exact ⟨(e, 0, 1), rfl, by simp⟩
                  · exact ⟨(a, 1, 2), rfl, by simp⟩
                  · exact ⟨(nm, 1, 0), rfl, by simp⟩
                  · exact ⟨(a, 1, 3), rfl, by simp⟩
                  · exact ⟨(b, 0, 1), rfl, by simp⟩
                exact q _ _ _ nm _ (.o0 hxx) hn hnn (C3.ext (Ext.new hp)) ((Ext.new hp).old _ _ hu3)
              · refine dVar_at rfl (eqI ⟨_, rfl, ifF rfl ?_⟩)
                refine dVar_at rfl ⟨slk (by simp), dVar_at rfl ⟨slk (by simp), slk (by simp), fun p1 hp1 => ?_⟩⟩
                refine dVar_at rfl (iI (rI (by decide) (ixAny M.set_same (by omega) (by show w % 2 < 2; omega) fun y1 hy1 => ?_)))
                obtain ⟨x1e, rfl, hx1e⟩ : ∃ xx : PL.End, y1 = endD xx ∧ xx ∈ [(b, 1), (e, 0)] := by
                  simp only [List.mem_cons, List.not_mem_nil, or_false] at hy1
                  rcases hy1 with rfl | rfl
                  · exact ⟨(b, 1), rfl, by simp⟩
                  · exact ⟨(e, 0), rfl, by simp⟩
                have E4 := Ext.new (o := .lst [D.tup [.str b, .int 1], .tup [.str e, .int 0]]) hp1
                have C4 := C3.ext E4
                have hu4 := E4.old _ _ hu3
                have hd4 := hd.ext C4.gh
                generalize m3.set p1 (.lst [D.tup [.str b, .int 1], .tup [.str e, .int 0]]) = m4 at C4 hu4 hd4 ⊢
                refine dVar_at rfl ?_
                refine dVar_at rfl ⟨slk (by simp), dVar_at rfl ⟨slk (by simp), dVar_at rfl ⟨slk (by simp), dVar_at rfl ⟨slk (by simp), dVar_at rfl ⟨slk (by simp), dVar_at rfl ⟨slk (by simp), slk (by simp), fun p2 hp2 => ?_⟩⟩⟩⟩⟩⟩
                refine pickL hd4 (by simp) (by simp) fun y hy => ?_
                obtain ⟨xx, rfl, hxx⟩ : ∃ xx : PL.Step, y = stepD xx ∧ xx ∈ [(c, 0, 1), (c, 0, 2), (c, 1, 0), (c, 1, 2), (b, 1, 0), (e, 0, 1)] := by
                  simp only [List.mem_cons, List.not_mem_nil, or_false] at hy
                  rcases hy with rfl | rfl | rfl | rfl | rfl | rfl
                  · exact ⟨(c, 0, 1), rfl, by simp⟩
                  · exact ⟨(c, 0, 2), rfl, by simp⟩
                  · exact ⟨(c, 1, 0), rfl, by simp⟩
                  · exact ⟨(c, 1, 2), rfl, by simp⟩
                  · exact ⟨(b, 1, 0), rfl, by simp⟩
                  · exact ⟨(e, 0, 1), rfl, by simp⟩
                exact dVar_at rfl (dVar_at rfl (dVar_at rfl ⟨slk (by simp), slk (by simp), dVar_at rfl ⟨slk (by simp), q _ _ _ nm _ (.o1 hx1e hxx) hn hnn (C4.ext (Ext.new hp2)) ((Ext.new hp2).old _ _ hu4)⟩⟩))
      · dsimp only [dPar]
        dsimp only [dOp, dC, dArgs, dCons, dNil, dCall, dTup, dB, dSlA, dNoPart, dPart]
        refine dVar_at rfl (dVar_at rfl ⟨d, u, us, rfl, hd.ext E2.gh, E2.old _ _ hu, by omega, fun nm m3 hn hnn C3 hu3 => ?_⟩)
        have C := E2.trans_chg C3
        exact dVar_at rfl (drw (hd.ext C.gh) (by decide) (by decide) fun w w0 w1 => ⟨_, _, rfl, hR _ _ ⟨nm, w, _, _, _, _, _, rfl, w0, w1, hn, hnn, C, hu3⟩⟩)
    · dsimp only [dAsgL]
      refine dLC_gen (I := fun _ => True) (xs := (hostP a b c e g s r1 r2 r3 o).st.map strD) (Rel := fun x o => ∃ st : Str × Str, x = strD st ∧ True ∧ o = some (D.str st.1)) trivial (fun _ _ _ _ => trivial) (iL_w (fun R hR => by dsimp only [dOp, dC, dArgs, dCons, dNil, dCall, dTup, dB, dSlA, dNoPart, dPart]; exact dVar_at rfl (ixL (k := 0) x rfl hR)) x0) (slk (by simp [hostP])) (fun z hz m' hE' _ Ry Rn hy hn => ?_) (fun pn m2 ys hpn hE2 _ hm2 ho => ?_)
      · obtain ⟨st, hst, rfl⟩ := List.mem_map.mp hz
        dsimp only [dRet, dSeq, dNext, dIfS, dSet, dExpr, dAsg, dPar, dPar3, gD, dOp, dUn, dArgs, dCons, dNil, dC, dB, dNot, dCall, dMeth, dMeth0, dIf, dLst, dTup, dSl, dNoPart, dPart, dM1, dOr, dAnd, dAndV, dOrV, dDGet, dSlA, dGet1]
        exact yesT (dVar_at rfl ⟨_, rfl, hy _ _ ⟨st, rfl, trivial, rfl⟩ (Ext.refl _)⟩)
      · have hys := Outs.mapOf (f := strD) (h := fun st : Str × Str => D.str st.1) (P := fun _ => True) (l := (hostP a b c e g s r1 r2 r3 o).st) (fun _ _ e => by rw [strD_inj e]) ho
        have hys : ys = [a, b, c, e].map D.str := hys
        subst hys
        exact ⟨pn, _, rfl, hm2, rfl, hR _ _ ⟨_, _, _, _, _, _, _, rfl, hE2⟩⟩

end
end PR

namespace PR
open PySem PySem.Spec PyProof.Rows L2 GA GxR DL PL TM

section
variable {P : Program} {w : World} {K : PySem.W.Frag} {mg : Str → Option Value} {base : Heap} {tl td t8 t3 : Tok} {aK aO aE aP P1 P2 : Addr} (T : Txt K mg w tl td t8 t3 aK aO aE aP) (Ok : M → Prop) (hOk : ∀ a b : M, Ok a → b.gh = a.gh → Ok b)
include T hOk

theorem c_missing_end {f : Addr} {fd : FuncData} (F : Fun K "missing_end" "missing_end" s_missing_end f fd) (hm : mg "missing_end" = some (.ref f)) (c_kinds_of : DCal P w K mg base 1 "kinds_of" spKinds) (c_end_exists : DCal P w K mg base 1 "end_exists" spExists) : DCal P w K mg base 2 "missing_end" (spPl fun p => optS (missEnd p)) := by
  refine dcal F hm (F.binds (ps := ["plan"]) fun _ _ _ _ _ _ us hl => match us, hl with | [_], _ => rfl) sc_missing_end (fun ds m Q h => ?_) (fun cdv A outer s H E hr => ⟨_, (dss_cons (ds_asg (de_var 0) (dg_tup rfl (dgs_cons (pg_name (i := 3) sc_missing_end.nd rfl (by first | exact Or.inl rfl | exact Or.inr rfl)) (dgs_cons (pg_name (i := 4) sc_missing_end.nd rfl (by first | exact Or.inl rfl | exact Or.inr rfl)) (dgs_cons (pg_name (i := 5) sc_missing_end.nd rfl (by first | exact Or.inl rfl | exact Or.inr rfl)) (dgs_cons (pg_name (i := 6) sc_missing_end.nd rfl (by first | exact Or.inl rfl | exact Or.inr rfl)) dgs_nil))))))
      (dss_cons (ds_set (i := 1) sc_missing_end.nd rfl (by first | exact Or.inl rfl | exact Or.inr rfl) (de_call c_kinds_of hr (by decide) (by rfl) (da_cons (de_var 0) da_nil)))
      (dss_cons (ds_for PassesOwn.never rfl (dpi_tup (de_var 4)) (dg_tup rfl (dgs_cons (pg_name (i := 7) sc_missing_end.nd rfl (by first | exact Or.inl rfl | exact Or.inr rfl)) (dgs_cons (pg_name (i := 8) sc_missing_end.nd rfl (by first | exact Or.inl rfl | exact Or.inr rfl)) dgs_nil))) (dss_one (ds_if (dt_w (dw_or (dt_not (dt_val (de_call c_end_exists hr (by decide) (by rfl) (da_cons (de_var 1) (da_cons (de_var 7) da_nil))))) (dw_or1 (dt_not (dt_val (de_call c_end_exists hr (by decide) (by rfl) (da_cons (de_var 1) (da_cons (de_var 8) da_nil)))))))) (dss_one (ds_ret (de_ix (de_var 7) de_int))) dss_nil)))
      (dss_cons (ds_for PassesOwn.never rfl (dpi_tup (de_addA (de_var 5) (de_var 6))) (dg_name (i := 2) sc_missing_end.nd rfl (by first | exact Or.inl rfl | exact Or.inr rfl)) (dss_one (ds_if (dt_not (dt_val (de_call c_end_exists hr (by decide) (by rfl) (da_cons (de_var 1) (da_cons (de_ix (de_var 2) de_int) da_nil))))) (dss_one (ds_ret (de_ix (de_var 2) de_int))) dss_nil)))
      (dss_one (ds_ret de_non)))))), fun ds m Q h => ?_⟩)
  · obtain ⟨p, rfl, _⟩ := h; rfl
  · obtain ⟨p, rfl, hp, q⟩ := h
    have b1 := hp.n1; have b2 := hp.n2; have b3 := hp.n3; have b4 := hp.n4
    have hks : ∀ s ∈ p.st, kindS s.2 = true := fun s hs => (hp.st s hs).2
    dsimp only [dRet, dSeq, dNext, dIfS, dSet, dExpr, dAsg, dPar, dPar3, gD, dOp, dUn, dArgs, dCons, dNil, dC, dB, dNot, dCall, dMeth, dMeth0, dIf, dLst, dTup, dSl, dNoPart, dPart, dM1, dOr, dAnd, dAndV, dOrV, dDGet, dSlA, dGet1]
    dsimp only [dRet, dSeq, dNext, dIfS, dSet, dExpr, dAsg, dPar, dPar3, gD, dOp, dUn, dArgs, dCons, dNil, dC, dB, dNot, dCall, dMeth, dMeth0, dIf, dLst, dTup, dSl, dNoPart, dPart, dM1, dOr, dAnd, dAndV, dOrV, dDGet, dSlA, dGet1, dNewT, dNewK, dFor, iT, dDPut, dDIn, dSet0S, dSet0T, dSAddS, dSAddT, dTru]
    dsimp only at q
    refine dVar_at rfl ⟨_, .inl rfl, rfl, dVar_at rfl ⟨p, rfl, hp, fun a m1 ha hE1 hm1 => ?_⟩⟩
    refine dVar_at rfl ⟨p.jo.map joD, .inl rfl, fun i δ m' => m' = m1 ∧ (∃ d2 d7 d8, δ = [some p.d, some (.ref a), d2, some (.tup (p.st.map strD)), some (.tup (p.jo.map joD)), some (.tup (p.ga.map gaD)), some (.tup (p.si.map siD)), d7, d8]) ∧ (p.jo.drop i).find? (fun j => !endEx p.st j.1 || !endEx p.st j.2) = p.jo.find? (fun j => !endEx p.st j.1 || !endEx p.st j.2), ⟨rfl, ⟨_, _, _, rfl⟩, rfl⟩, fun _ _ _ _ => trivial, ?_, ?_⟩
    · rintro i d δ m' hd ⟨rfl, ⟨d2, d7, d8, rfl⟩, hR⟩
      obtain ⟨j, hj, rfl⟩ := map_get hd
      rw [drop_get hj, List.find?_cons] at hR
      refine ⟨[endD j.1, endD j.2], .inl rfl, rfl, ?_⟩
      have stop : (!endEx p.st j.1 || !endEx p.st j.2) = true → Q (.str j.1.1) m' := fun hc => by
        rw [hc] at hR
        have := q m' hE1
        unfold missEnd at this
        rw [← hR] at this; exact this
      refine dVar_at rfl (dVar_at rfl ⟨a, p.st, j.1, rfl, hm1, hks, _, rfl, ?_⟩)
      cases h1 : endEx p.st j.1 with
      | false => exact ifT rfl (ifT rfl (dVar_at rfl (endD_ix0 (stop (by rw [h1]; rfl)))))
      | true =>
        refine ifF rfl (dVar_at rfl (dVar_at rfl ⟨a, p.st, j.2, rfl, hm1, hks, _, rfl, ?_⟩))
        cases h2 : endEx p.st j.2 with
        | false => exact ifT rfl (dVar_at rfl (endD_ix0 (stop (by rw [h2, Bool.or_comm]; rfl))))
        | true =>
          refine ifF rfl ⟨rfl, ⟨_, _, _, rfl⟩, ?_⟩
          rw [h1, h2] at hR; exact hR
    · rintro δ m' ⟨rfl, ⟨d2, d7, d8, rfl⟩, hR⟩
      rw [List.length_map, List.drop_length] at hR
      refine dVar_at rfl (dVar_at rfl ⟨slk (by simp only [List.length_map]; omega), (gaI p.ga ++ siI p.si).map itD, .inl (by rw [List.map_append, gaI_d, siI_d]), fun i δ m'' => m'' = m' ∧ (∃ d2 d7 d8, δ = [some p.d, some (.ref a), d2, some (.tup (p.st.map strD)), some (.tup (p.jo.map joD)), some (.tup (p.ga.map gaD)), some (.tup (p.si.map siD)), d7, d8]) ∧ (p.gs.drop i).find? (fun g => !endEx p.st g.2) = p.gs.find? (fun g => !endEx p.st g.2), ⟨rfl, ⟨_, _, _, rfl⟩, rfl⟩, fun _ _ _ _ => trivial, ?_, ?_⟩)
      · rintro i d δ m'' hd ⟨rfl, ⟨d2, d7, d8, rfl⟩, hR2⟩
        obtain ⟨z, hz, rfl⟩ := map_get hd
        have hdr : p.gs.drop i = z.1 :: p.gs.drop (i + 1) := by rw [← its_1 p]; exact drop_map hz
        rw [hdr, List.find?_cons] at hR2
        refine dVar_at rfl (dVar_at rfl (it_ix1 ⟨a, p.st, z.1.2, rfl, hm1, hks, _, rfl, ?_⟩))
        cases h1 : endEx p.st z.1.2 with
        | false =>
          refine ifT rfl (dVar_at rfl (it_ix0 ?_))
          rw [h1] at hR2
          have := q m'' hE1
          unfold missEnd at this
          rw [← hR, ← hR2] at this; exact this
        | true => rw [h1] at hR2; exact ifF rfl ⟨rfl, ⟨_, _, _, rfl⟩, hR2⟩
      · rintro δ m'' ⟨rfl, ⟨d2, d7, d8, rfl⟩, hR2⟩
        have e : p.gs.drop ((gaI p.ga ++ siI p.si).map itD).length = [] := by
          rw [List.length_map, ← List.length_map (f := fun z : (Str × PL.End) × List D => z.1), its_1, List.drop_length]
        rw [e] at hR2
        have := q m'' hE1
        unfold missEnd at this
        rw [← hR, ← hR2] at this; exact this

end
end PR

namespace PR
open PySem PySem.Spec PyProof.Rows L2 GA GxR DL PL TM

section
variable {P : Program} {w : World} {K : PySem.W.Frag} {mg : Str → Option Value} {base : Heap} {tl td t8 t3 : Tok} {aK aO aE aP P1 P2 : Addr} (T : Txt K mg w tl td t8 t3 aK aO aE aP) (Ok : M → Prop) (hOk : ∀ a b : M, Ok a → b.gh = a.gh → Ok b)
include T hOk

theorem c_partners_of {f : Addr} {fd : FuncData} (F : Fun K "partners_of" "partners_of" s_partners_of f fd) (hm : mg "partners_of" = some (.ref f))  : DCal P w K mg base 1 "partners_of" spParts := by
  refine dcal F hm (F.binds (ps := ["plan"]) fun _ _ _ _ _ _ us hl => match us, hl with | [_], _ => rfl) sc_partners_of (fun ds m Q h => ?_) (fun cdv A outer s H E hr => ⟨_, (dss_cons (ds_set (i := 1) sc_partners_of.nd rfl (by first | exact Or.inl rfl | exact Or.inr rfl) de_newT)
      (dss_cons (ds_for PassesOwn.never rfl (dpi_tup (de_ix (de_var 0) de_int)) (dg_tup rfl (dgs_cons (pg_name (i := 2) sc_partners_of.nd rfl (by first | exact Or.inl rfl | exact Or.inr rfl)) (dgs_cons (pg_name (i := 3) sc_partners_of.nd rfl (by first | exact Or.inl rfl | exact Or.inr rfl)) dgs_nil))) (dss_cons (ds_dput hr (de_var 1) (de_var 2) (de_var 3))
      (dss_one (ds_dput hr (de_var 1) (de_var 3) (de_var 2)))))
      (dss_one (ds_ret (de_var 1))))), fun ds m Q h => ?_⟩)
  · obtain ⟨p, rfl, _⟩ := h; rfl
  · obtain ⟨p, rfl, hp, q⟩ := h
    dsimp only [dRet, dSeq, dNext, dIfS, dSet, dExpr, dAsg, dPar, dPar3, gD, dOp, dUn, dArgs, dCons, dNil, dC, dB, dNot, dCall, dMeth, dMeth0, dIf, dLst, dTup, dSl, dNoPart, dPart, dM1, dOr, dAnd, dAndV, dOrV, dDGet, dSlA, dGet1]
    dsimp only [dRet, dSeq, dNext, dIfS, dSet, dExpr, dAsg, dPar, dPar3, gD, dOp, dUn, dArgs, dCons, dNil, dC, dB, dNot, dCall, dMeth, dMeth0, dIf, dLst, dTup, dSl, dNoPart, dPart, dM1, dOr, dAnd, dAndV, dOrV, dDGet, dSlA, dGet1, dNewT, dNewK, dFor, iT, dDPut, dDIn, dSet0S, dSet0T, dSAddS, dSAddT, dTru]
    intro a ha
    refine dVar_at rfl (SeqD.ix (.inl rfl) rfl ⟨p.jo.map joD, .inl rfl, fun i δ m' => ∃ d2 d3, δ = [some p.d, some (.ref a), d2, d3] ∧ Ext m m' ∧ m'.mu a = some (.dit (partKV (p.jo.take i))), ⟨_, _, rfl, Ext.new ha, M.set_same⟩, fun _ _ _ _ => trivial, ?_, ?_⟩)
    · rintro i d δ m' hd ⟨d2, d3, rfl, hE, hm⟩
      obtain ⟨j, hj, rfl⟩ := map_get hd
      have l1 := partKV_len (p.jo.take i)
      have l2 := putD_len (k := endK j.1) (v := endD j.2) (kvs := partKV (p.jo.take i))
      have l0 : (p.jo.take i).length ≤ 16 := by rw [List.length_take]; have := hp.n2; omega
      refine ⟨[endD j.1, endD j.2], .inl rfl, rfl, ?_⟩
      refine dVar_at rfl (dVar_at rfl (dVar_at rfl ⟨a, rfl, .inr ⟨_, endK j.1, hm, rfl, slt (by omega), ?_⟩⟩))
      refine dVar_at rfl (dVar_at rfl (dVar_at rfl ⟨a, rfl, .inr ⟨_, endK j.2, M.set_same, rfl, slt (by omega), ?_⟩⟩))
      refine ⟨_, _, rfl, (hE.set ha).set ha, ?_⟩
      rw [M.set_same, take_snoc hj, partKV_snoc]
    · rintro δ m' ⟨d2, d3, rfl, hE, hm⟩
      rw [List.length_map, List.take_length] at hm
      exact dVar_at rfl (q a m' ha hE hm)

end
end PR

namespace PR
open PySem PySem.Spec PyProof.Rows L2 GA GxR DL PL TM

section
variable {P : Program} {w : World} {K : PySem.W.Frag} {mg : Str → Option Value} {base : Heap} {tl td t8 t3 : Tok} {aK aO aE aP P1 P2 : Addr} (T : Txt K mg w tl td t8 t3 aK aO aE aP) (Ok : M → Prop) (hOk : ∀ a b : M, Ok a → b.gh = a.gh → Ok b)
include T hOk

theorem c_repeated_name {f : Addr} {fd : FuncData} (F : Fun K "repeated_name" "repeated_name" s_repeated_name f fd) (hm : mg "repeated_name" = some (.ref f))  : DCal P w K mg base 1 "repeated_name" (spPl fun p => optS (dupGo [] p.nms)) := by
  refine dcal F hm (F.binds (ps := ["plan"]) fun _ _ _ _ _ _ us hl => match us, hl with | [_], _ => rfl) sc_repeated_name (fun ds m Q h => ?_) (fun cdv A outer s H E hr => ⟨_, (dss_cons (ds_asg (de_var 0) (dg_tup rfl (dgs_cons (pg_name (i := 3) sc_repeated_name.nd rfl (by first | exact Or.inl rfl | exact Or.inr rfl)) (dgs_cons (pg_name (i := 4) sc_repeated_name.nd rfl (by first | exact Or.inl rfl | exact Or.inr rfl)) (dgs_cons (pg_name (i := 5) sc_repeated_name.nd rfl (by first | exact Or.inl rfl | exact Or.inr rfl)) (dgs_cons (pg_name (i := 6) sc_repeated_name.nd rfl (by first | exact Or.inl rfl | exact Or.inr rfl)) dgs_nil))))))
      (dss_cons (ds_set (i := 1) sc_repeated_name.nd rfl (by first | exact Or.inl rfl | exact Or.inr rfl) (de_set0S (by rfl) T.set))
      (dss_cons (ds_for PassesOwn.never rfl (dpi_tup (de_addA (de_addA (de_var 3) (de_var 5)) (de_var 6))) (dg_name (i := 2) sc_repeated_name.nd rfl (by first | exact Or.inl rfl | exact Or.inr rfl)) (dss_cons (ds_if (dt_cmp dc_inSS (de_ix (de_var 2) de_int) (de_var 1)) (dss_one (ds_ret (de_ix (de_var 2) de_int))) dss_nil)
      (dss_one (ds_expr (de_saddS (de_var 1) (de_ix (de_var 2) de_int))))))
      (dss_one (ds_ret de_non))))), fun ds m Q h => ?_⟩)
  · obtain ⟨p, rfl, _⟩ := h; rfl
  · obtain ⟨p, rfl, hp, q⟩ := h
    have b1 := hp.n1; have b2 := hp.n2; have b3 := hp.n3; have b4 := hp.n4
    dsimp only [dRet, dSeq, dNext, dIfS, dSet, dExpr, dAsg, dPar, dPar3, gD, dOp, dUn, dArgs, dCons, dNil, dC, dB, dNot, dCall, dMeth, dMeth0, dIf, dLst, dTup, dSl, dNoPart, dPart, dM1, dOr, dAnd, dAndV, dOrV, dDGet, dSlA, dGet1]
    dsimp only [dRet, dSeq, dNext, dIfS, dSet, dExpr, dAsg, dPar, dPar3, gD, dOp, dUn, dArgs, dCons, dNil, dC, dB, dNot, dCall, dMeth, dMeth0, dIf, dLst, dTup, dSl, dNoPart, dPart, dM1, dOr, dAnd, dAndV, dOrV, dDGet, dSlA, dGet1, dNewT, dNewK, dFor, iT, dDPut, dDIn, dSet0S, dSet0T, dSAddS, dSAddT, dTru]
    dsimp only at q
    refine dVar_at rfl ⟨_, .inl rfl, rfl, fun a m1 ha ⟨o, e1⟩ hs => ?_⟩
    refine dVar_at rfl (dVar_at rfl ⟨slk (by simp only [List.length_map]; omega), dVar_at rfl ⟨slk (by simp only [List.length_map, List.length_append]; omega), (allI p).map nmD, .inl (by rw [allI_d]), fun i δ m' => ∃ ks d2, δ = [some p.d, some (.ref a), d2, some (.tup (p.st.map strD)), some (.tup (p.jo.map joD)), some (.tup (p.ga.map gaD)), some (.tup (p.si.map siD))] ∧ Ext m m' ∧ SetS P w m' a (ks.map Sum.inr) ∧ ks.length ≤ i ∧ dupGo ks (p.nms.drop i) = dupGo [] p.nms, ?_, fun _ _ _ _ => trivial, ?_, ?_⟩⟩)
    · exact ⟨[], _, rfl, by rw [e1]; exact Ext.new ha, hs, Nat.le_refl _, rfl⟩
    · rintro i d δ m' hd ⟨ks, d2, rfl, hE, hS, hl, hR⟩
      obtain ⟨z, hz, rfl⟩ := map_get hd
      have hi : i < (allI p).length := (List.getElem?_eq_some_iff.mp hz).1
      have hal : (allI p).length ≤ 26 := by rw [← List.length_map (f := fun z : Str × List D => z.1), allI_1]; unfold Pln.nms; simp only [List.length_append, List.length_map]; omega
      have hn : p.nms.drop i = z.1 :: p.nms.drop (i + 1) := by rw [← allI_1]; exact drop_map hz
      rw [hn] at hR
      refine dVar_at rfl (nm_ix0 (dVar_at rfl ⟨a, _, .inr z.1, rfl, rfl, hS, _, rfl, iff_T (fun hc => ?_) fun hc => ?_⟩))
      · have hc : z.1 ∈ ks := mem_inr hc
        refine dVar_at rfl (nm_ix0 ?_)
        rw [dupGo_hit hc] at hR
        have := q m' hE
        rw [← hR] at this; exact this
      · have hc : z.1 ∉ ks := fun y => by rw [inr_mem y] at hc; cases hc
        rw [dupGo_miss hc] at hR
        exact dVar_at rfl ⟨a, _, rfl, hS, dVar_at rfl (nm_ix0 ⟨_, .inr z.1, rfl, hS, by rw [List.length_map]; omega, fun m2 ⟨o2, e2⟩ hS2 => ⟨z.1 :: ks, _, rfl, by rw [e2]; exact hE.set ha, hS2, by rw [List.length_cons]; omega, hR⟩⟩)⟩
    · rintro δ m' ⟨ks, d2, rfl, hE, hS, hl, hR⟩
      have e : p.nms.drop ((allI p).map nmD).length = [] := by
        rw [List.length_map, ← List.length_map (f := fun z : Str × List D => z.1), allI_1, List.drop_length]
      rw [e] at hR
      have := q m' hE
      rw [← hR] at this; exact this

end
end PR

namespace PR
open PySem PySem.Spec PyProof.Rows L2 GA GxR DL PL TM

section
variable {P : Program} {w : World} {K : PySem.W.Frag} {mg : Str → Option Value} {base : Heap} {tl td t8 t3 : Tok} {aK aO aE aP P1 P2 : Addr} (T : Txt K mg w tl td t8 t3 aK aO aE aP) (Ok : M → Prop) (hOk : ∀ a b : M, Ok a → b.gh = a.gh → Ok b)
include T hOk

theorem c_ways_of {f : Addr} {fd : FuncData} (F : Fun K "ways_of" "ways_of" s_ways_of f fd) (hm : mg "ways_of" = some (.ref f))  : DCal P w K mg base 1 "ways_of" spWays := by
  refine dcal F hm (F.binds (ps := ["stretch"]) fun _ _ _ _ _ _ us hl => match us, hl with | [_], _ => rfl) sc_ways_of (fun ds m Q h => ?_) (fun cdv A outer s H E hr => ⟨_, (dss_cons (ds_asg (de_var 0) (dg_tup rfl (dgs_cons (pg_name (i := 1) sc_ways_of.nd rfl (by first | exact Or.inl rfl | exact Or.inr rfl)) (dgs_cons (pg_name (i := 2) sc_ways_of.nd rfl (by first | exact Or.inl rfl | exact Or.inr rfl)) dgs_nil))))
      (dss_one (ds_ret (de_lc (own := [("start", 3), ("goal", 4)]) rfl sc_ways_of.nd (dpi_tup (de_wix T.w_PATHS (de_globR (by rfl) T.m_PATHS (fun _ => .ref _)) (de_var 2))) (blkOk_by (N := ["stretch", "name", "kind", "start", "goal"]) (sc := defScope s_ways_of) (by decide +kernel)) (fun _ _ _ _ _ => (dg_tup rfl (dgs_cons (pg_name (i := 3) sc_ways_of.nd rfl (by first | exact Or.inl rfl | exact Or.inr rfl)) (dgs_cons (pg_name (i := 4) sc_ways_of.nd rfl (by first | exact Or.inl rfl | exact Or.inr rfl)) dgs_nil)))) (fun _ _ _ _ _ => dpts_nil) (fun _ _ _ _ _ => (de_tup (da_cons (de_var 1) (da_cons (de_var 3) (da_cons (de_var 4) da_nil))))))))), fun ds m Q h => ?_⟩)
  · obtain ⟨n, k, rfl, _⟩ := h; rfl
  · obtain ⟨n, k, rfl, hk, q⟩ := h
    dsimp only [dRet, dSeq, dNext, dIfS, dSet, dExpr, dAsg, dPar, dPar3, gD, dOp, dUn, dArgs, dCons, dNil, dC, dB, dNot, dCall, dMeth, dMeth0, dIf, dLst, dTup, dSl, dNoPart, dPart, dM1, dOr, dAnd, dAndV, dOrV, dDGet, dSlA, dGet1]
    refine dVar_at rfl ⟨[.str n, .str k], .inl rfl, rfl, ?_⟩
    refine dLC_gen (I := fun _ => True) (xs := (waysK k).map wayK) (Rel := fun d o => ∃ a, d = wayK a ∧ True ∧ o = some (wayT n a)) trivial (fun _ _ _ _ => trivial) (iT_wk fun R hR => ?_) (slk (by rw [List.length_map]; have := waysK_len k; omega)) (fun d hd m' _ _ Ry Rn hy hn => ?_) (fun p m' ys hp hE _ hm ho => ?_)
    · dsimp only [dRet, dSeq, dNext, dIfS, dSet, dExpr, dAsg, dPar, dPar3, gD, dOp, dUn, dArgs, dCons, dNil, dC, dB, dNot, dCall, dMeth, dMeth0, dIf, dLst, dTup, dSl, dNoPart, dPart, dM1, dOr, dAnd, dAndV, dOrV, dDGet, dSlA, dGet1]
      exact dVar_at rfl ⟨k, _, rfl, rfl, pathsL_in hk, hR⟩
    · obtain ⟨a, _, rfl⟩ := List.mem_map.mp hd
      dsimp only [dRet, dSeq, dNext, dIfS, dSet, dExpr, dAsg, dPar, dPar3, gD, dOp, dUn, dArgs, dCons, dNil, dC, dB, dNot, dCall, dMeth, dMeth0, dIf, dLst, dTup, dSl, dNoPart, dPart, dM1, dOr, dAnd, dAndV, dOrV, dDGet, dSlA, dGet1]
      refine ⟨[.int a.1, .int a.2], .inr rfl, rfl, yesT ?_⟩
      exact dVar_at rfl (dVar_at rfl (dVar_at rfl ⟨slk (by simp), hy _ _ ⟨a, rfl, trivial, rfl⟩ (Ext.refl _)⟩))
    · have e := ho.mapOf (h := wayT n) fun a b e => by rw [wayK_inj e]
      exact q p m' hp hE (by rw [hm, e])

end
end PR

namespace PR
open PySem PySem.Spec PyProof.Rows L2 GA GxR DL PL TM

section
variable {P : Program} {w : World} {K : PySem.W.Frag} {mg : Str → Option Value} {base : Heap} {tl td t8 t3 : Tok} {aK aO aE aP P1 P2 : Addr} (T : Txt K mg w tl td t8 t3 aK aO aE aP) (Ok : M → Prop) (hOk : ∀ a b : M, Ok a → b.gh = a.gh → Ok b)
include T hOk

theorem c_wrong_joint {f : Addr} {fd : FuncData} (F : Fun K "wrong_joint" "wrong_joint" s_wrong_joint f fd) (hm : mg "wrong_joint" = some (.ref f))  : DCal P w K mg base 1 "wrong_joint" (spPl fun p => optS (wjGo [] p.jo)) := by
  refine dcal F hm (F.binds (ps := ["plan"]) fun _ _ _ _ _ _ us hl => match us, hl with | [_], _ => rfl) sc_wrong_joint (fun ds m Q h => ?_) (fun cdv A outer s H E hr => ⟨_, (dss_cons (ds_set (i := 1) sc_wrong_joint.nd rfl (by first | exact Or.inl rfl | exact Or.inr rfl) (de_set0T (by rfl) T.set))
      (dss_cons (ds_for PassesOwn.never rfl (dpi_tup (de_ix (de_var 0) de_int)) (dg_tup rfl (dgs_cons (pg_name (i := 2) sc_wrong_joint.nd rfl (by first | exact Or.inl rfl | exact Or.inr rfl)) (dgs_cons (pg_name (i := 3) sc_wrong_joint.nd rfl (by first | exact Or.inl rfl | exact Or.inr rfl)) dgs_nil))) (dss_cons (ds_if (dt_w (dw_or (dt_cmp (dc_eq hr) (de_ix (de_var 2) de_int) (de_ix (de_var 3) de_int)) (dw_or (dt_cmp (dc_inT hr) (de_var 2) (de_var 1)) (dw_or1 (dt_cmp (dc_inT hr) (de_var 3) (de_var 1)))))) (dss_one (ds_ret (de_ix (de_var 2) de_int))) dss_nil)
      (dss_cons (ds_expr (de_saddT hr (de_var 1) (de_var 2)))
      (dss_one (ds_expr (de_saddT hr (de_var 1) (de_var 3)))))))
      (dss_one (ds_ret de_non)))), fun ds m Q h => ?_⟩)
  · obtain ⟨p, rfl, _⟩ := h; rfl
  · obtain ⟨p, rfl, hp, q⟩ := h
    have b2 := hp.n2
    dsimp only [dRet, dSeq, dNext, dIfS, dSet, dExpr, dAsg, dPar, dPar3, gD, dOp, dUn, dArgs, dCons, dNil, dC, dB, dNot, dCall, dMeth, dMeth0, dIf, dLst, dTup, dSl, dNoPart, dPart, dM1, dOr, dAnd, dAndV, dOrV, dDGet, dSlA, dGet1]
    dsimp only [dRet, dSeq, dNext, dIfS, dSet, dExpr, dAsg, dPar, dPar3, gD, dOp, dUn, dArgs, dCons, dNil, dC, dB, dNot, dCall, dMeth, dMeth0, dIf, dLst, dTup, dSl, dNoPart, dPart, dM1, dOr, dAnd, dAndV, dOrV, dDGet, dSlA, dGet1, dNewT, dNewK, dFor, iT, dDPut, dDIn, dSet0S, dSet0T, dSAddS, dSAddT, dTru]
    dsimp only at q
    intro a m1 ha ⟨o, e1⟩ hs
    refine dVar_at rfl (SeqD.ix (.inl rfl) rfl ⟨p.jo.map joD, .inl rfl, fun i δ m' => ∃ (ks : List PL.End) (d2 d3 : Option D), δ = [some p.d, some (.ref a), d2, d3] ∧ Ext m m' ∧ SetT P w m' a (ks.map endK) ∧ ks.length ≤ 2 * i ∧ wjGo ks (p.jo.drop i) = wjGo [] p.jo, ⟨[], _, _, rfl, by rw [e1]; exact Ext.new ha, hs, Nat.le_refl _, rfl⟩, fun _ _ _ _ => trivial, ?_, ?_⟩)
    · rintro i d δ m' hd ⟨ks, d2, d3, rfl, hE, hS, hl, hR⟩
      obtain ⟨j, hj, rfl⟩ := map_get hd
      have hi : i < p.jo.length := (List.getElem?_eq_some_iff.mp hj).1
      rw [drop_get hj] at hR
      have stop : (j.1.1 = j.2.1 ∨ j.1 ∈ ks ∨ j.2 ∈ ks) → Q (.str j.1.1) m' := fun hc => by
        rw [wjGo_hit hc] at hR
        have := q m' hE
        rw [← hR] at this; exact this
      refine ⟨[endD j.1, endD j.2], .inl rfl, rfl, ?_⟩
      refine dVar_at rfl (endD_ix0 (dVar_at rfl (endD_ix0 (eqT ⟨_, rfl, iff_T (fun hc => ?_) fun h1 => ?_⟩))))
      · exact ifT rfl (dVar_at rfl (endD_ix0 (stop (.inl (by simpa using hc)))))
      · refine dVar_at rfl (dVar_at rfl ⟨a, _, endK j.1, rfl, rfl, hS, _, rfl, iff_T (fun hc => ?_) fun h2 => ?_⟩)
        · exact ifT rfl (dVar_at rfl (endD_ix0 (stop (.inr (.inl (mem_endK hc))))))
        · refine dVar_at rfl (dVar_at rfl ⟨a, _, endK j.2, rfl, rfl, hS, _, rfl, iff_T (fun hc => ?_) fun h3 => ?_⟩)
          · exact dVar_at rfl (endD_ix0 (stop (.inr (.inr (mem_endK hc)))))
          · have hno : ¬ (j.1.1 = j.2.1 ∨ j.1 ∈ ks ∨ j.2 ∈ ks) := by
              rintro (z | z | z)
              · simp [z] at h1
              · rw [endK_mem z] at h2; cases h2
              · rw [endK_mem z] at h3; cases h3
            rw [wjGo_miss hno] at hR
            refine dVar_at rfl ⟨a, _, rfl, hS, dVar_at rfl ⟨_, endK j.1, rfl, hS, by rw [List.length_map]; omega, fun m2 ⟨o2, e2⟩ hS2 => ?_⟩⟩
            refine dVar_at rfl ⟨a, _, rfl, hS2, dVar_at rfl ⟨_, endK j.2, rfl, hS2, by simp only [List.length_cons, List.length_map]; omega, fun m3 ⟨o3, e3⟩ hS3 => ?_⟩⟩
            exact ⟨j.2 :: j.1 :: ks, _, _, rfl, by rw [e3, e2]; exact (hE.set ha).set ha, hS3, by simp only [List.length_cons]; omega, hR⟩
    · rintro δ m' ⟨ks, d2, d3, rfl, hE, hS, hl, hR⟩
      rw [List.length_map, List.drop_length] at hR
      have := q m' hE
      rw [← hR] at this; exact this

end
end PR

namespace PR
open PySem PySem.Spec PyProof.Rows L2 GA GxR DL PL TM

section
variable {P : Program} {w : World} {K : PySem.W.Frag} {mg : Str → Option Value} {base : Heap} {tl td t8 t3 : Tok} {aK aO aE aP P1 P2 : Addr} (T : Txt K mg w tl td t8 t3 aK aO aE aP) (Ok : M → Prop) (hOk : ∀ a b : M, Ok a → b.gh = a.gh → Ok b)
include T hOk

theorem c_wrong_overlap {f : Addr} {fd : FuncData} (F : Fun K "wrong_overlap" "wrong_overlap" s_wrong_overlap f fd) (hm : mg "wrong_overlap" = some (.ref f)) (c_kinds_of : DCal P w K mg base 1 "kinds_of" spKinds) (c_partners_of : DCal P w K mg base 1 "partners_of" spParts) (c_fits_overlap : DCal P w K mg base 2 "fits_overlap" spFits) : DCal P w K mg base 3 "wrong_overlap" (spPl fun p => optS (wrongOv p)) := by
  refine dcal F hm (F.binds (ps := ["plan"]) fun _ _ _ _ _ _ us hl => match us, hl with | [_], _ => rfl) sc_wrong_overlap (fun ds m Q h => ?_) (fun cdv A outer s H E hr => ⟨_, (dss_cons (ds_set (i := 1) sc_wrong_overlap.nd rfl (by first | exact Or.inl rfl | exact Or.inr rfl) (de_call c_kinds_of hr (by decide) (by rfl) (da_cons (de_var 0) da_nil)))
      (dss_cons (ds_set (i := 2) sc_wrong_overlap.nd rfl (by first | exact Or.inl rfl | exact Or.inr rfl) (de_call c_partners_of hr (by decide) (by rfl) (da_cons (de_var 0) da_nil)))
      (dss_cons (ds_for PassesOwn.never rfl (dpi_tup (de_ix (de_var 0) de_int)) (dg_tup rfl (dgs_cons (pg_name (i := 3) sc_wrong_overlap.nd rfl (by first | exact Or.inl rfl | exact Or.inr rfl)) (dgs_cons (pg_name (i := 4) sc_wrong_overlap.nd rfl (by first | exact Or.inl rfl | exact Or.inr rfl)) (dgs_cons (pg_name (i := 5) sc_wrong_overlap.nd rfl (by first | exact Or.inl rfl | exact Or.inr rfl)) dgs_nil)))) (dss_one (ds_if (dt_w (dw_and (dt_truth (de_var 5)) (dw_and1 (dt_not (dt_val (de_call c_fits_overlap hr (by decide) (by rfl) (da_cons (de_var 1) (da_cons (de_get1 hr (de_var 2) (de_var 4)) (da_cons (de_ix (de_var 5) de_int) da_nil))))))))) (dss_one (ds_ret (de_var 3))) dss_nil)))
      (dss_one (ds_ret de_non))))), fun ds m Q h => ?_⟩)
  · obtain ⟨p, rfl, _⟩ := h; rfl
  · obtain ⟨p, rfl, hp, q⟩ := h
    have hks : ∀ s ∈ p.st, kindS s.2 = true := fun s hs => (hp.st s hs).2
    dsimp only [dRet, dSeq, dNext, dIfS, dSet, dExpr, dAsg, dPar, dPar3, gD, dOp, dUn, dArgs, dCons, dNil, dC, dB, dNot, dCall, dMeth, dMeth0, dIf, dLst, dTup, dSl, dNoPart, dPart, dM1, dOr, dAnd, dAndV, dOrV, dDGet, dSlA, dGet1]
    dsimp only [dRet, dSeq, dNext, dIfS, dSet, dExpr, dAsg, dPar, dPar3, gD, dOp, dUn, dArgs, dCons, dNil, dC, dB, dNot, dCall, dMeth, dMeth0, dIf, dLst, dTup, dSl, dNoPart, dPart, dM1, dOr, dAnd, dAndV, dOrV, dDGet, dSlA, dGet1, dNewT, dNewK, dFor, iT, dDPut, dDIn, dSet0S, dSet0T, dSAddS, dSAddT, dTru]
    dsimp only at q
    refine dVar_at rfl ⟨p, rfl, hp, fun a m1 ha hE1 hm1 => dVar_at rfl ⟨p, rfl, hp, fun c m2 hc hE2 hm2 => ?_⟩⟩
    have hm1 := hE2.old _ _ hm1
    have hE := hE1.trans hE2
    refine dVar_at rfl (SeqD.ix (.inl rfl) rfl ⟨p.si.map siD, .inl rfl, fun i δ m' => (∃ d3 d4 d5, δ = [some p.d, some (.ref a), some (.ref c), d3, d4, d5]) ∧ Ext m m' ∧ m'.mu a = some (.dic (kindsKV p.st)) ∧ m'.mu c = some (.dit (partKV p.jo)) ∧ (p.si.drop i).find? (badOv p) = p.si.find? (badOv p), ⟨⟨_, _, _, rfl⟩, hE, hm1, hm2, rfl⟩, fun _ _ _ _ => trivial, ?_, ?_⟩)
    · rintro i d δ m' hd ⟨⟨d3, d4, d5, rfl⟩, hE, hm1, hm2, hR⟩
      obtain ⟨⟨nm, en, ov⟩, hj, rfl⟩ := map_get hd
      have ok := hp.si _ (List.mem_of_getElem? hj)
      obtain ⟨o1, o2, o3⟩ := ok
      dsimp only at o1 o2 o3
      rw [drop_get hj, List.find?_cons] at hR
      refine ⟨[.str nm, endD en, ovD ov], .inl rfl, rfl, ?_⟩
      cases ov with
      | none =>
        refine dVar_at rfl ⟨false, rfl, ifF rfl (ifF rfl ⟨⟨_, _, _, rfl⟩, hE, hm1, hm2, ?_⟩)⟩
        have e : badOv p (nm, en, none) = false := rfl
        rw [e] at hR; exact hR
      | some t =>
        refine dVar_at rfl ⟨true, rfl, ifT rfl ?_⟩
        refine dVar_at rfl (dVar_at rfl ⟨c, rfl, .inr ⟨_, hm2⟩, dVar_at rfl ⟨_, getP hm2 en, ?_⟩⟩)
        rw [optE_get]
        refine dVar_at rfl (SeqD.ix (.inl rfl) rfl ⟨a, p.st, partAt p.jo en, t, rfl, hm1, hks, o3 t rfl, fun f hf => partAt_ok hp hf, fun m3 hE3 => ⟨_, rfl, ?_⟩⟩)
        have eb : badOv p (nm, en, some t) = !fitsOv p.st (partAt p.jo en) t := rfl
        rw [eb] at hR
        cases hf : fitsOv p.st (partAt p.jo en) t with
        | true =>
          rw [hf] at hR
          exact ifF rfl ⟨⟨_, _, _, rfl⟩, hE.trans hE3, hE3.old _ _ hm1, hE3.old _ _ hm2, hR⟩
        | false =>
          rw [hf] at hR
          refine ifT rfl (dVar_at rfl ?_)
          have := q m3 (hE.trans hE3)
          unfold wrongOv at this
          rw [← hR] at this; exact this
    · rintro δ m' ⟨⟨d3, d4, d5, rfl⟩, hE, hm1, hm2, hR⟩
      rw [List.length_map, List.drop_length] at hR
      have := q m' hE
      unfold wrongOv at this
      rw [← hR] at this; exact this

end
end PR

namespace PR
open PySem PySem.Spec PyProof.Rows L2 GA GxR DL PL TM

section
variable {P : Program} {w : World} {K : PySem.W.Frag} {mg : Str → Option Value} {base : Heap} {tl td t8 t3 : Tok} {aK aO aE aP P1 P2 : Addr} (T : Txt K mg w tl td t8 t3 aK aO aE aP) (Ok : M → Prop) (hOk : ∀ a b : M, Ok a → b.gh = a.gh → Ok b)
include T hOk

theorem c_wrong_place {f : Addr} {fd : FuncData} (F : Fun K "wrong_place" "wrong_place" s_wrong_place f fd) (hm : mg "wrong_place" = some (.ref f)) (c_kinds_of : DCal P w K mg base 1 "kinds_of" spKinds) (c_partners_of : DCal P w K mg base 1 "partners_of" spParts) : DCal P w K mg base 2 "wrong_place" spPlace := by
  refine dcal F hm (F.binds (ps := ["plan", "items", "at_joint"]) fun _ _ _ _ _ _ us hl => match us, hl with | [_, _, _], _ => rfl) sc_wrong_place (fun ds m Q h => ?_) (fun cdv A outer s H E hr => ⟨_, (dss_cons (ds_set (i := 3) sc_wrong_place.nd rfl (by first | exact Or.inl rfl | exact Or.inr rfl) (de_call c_kinds_of hr (by decide) (by rfl) (da_cons (de_var 0) da_nil)))
      (dss_cons (ds_set (i := 4) sc_wrong_place.nd rfl (by first | exact Or.inl rfl | exact Or.inr rfl) (de_call c_partners_of hr (by decide) (by rfl) (da_cons (de_var 0) da_nil)))
      (dss_cons (ds_set (i := 5) sc_wrong_place.nd rfl (by first | exact Or.inl rfl | exact Or.inr rfl) (de_set0T (by rfl) T.set))
      (dss_cons (ds_for PassesOwn.never rfl (dpi_tup (de_var 1)) (dg_name (i := 6) sc_wrong_place.nd rfl (by first | exact Or.inl rfl | exact Or.inr rfl)) (dss_cons (ds_asg (de_sliceA (de_var 6) dpo_none (dpo_some de_int)) (dg_tup rfl (dgs_cons (pg_name (i := 7) sc_wrong_place.nd rfl (by first | exact Or.inl rfl | exact Or.inr rfl)) (dgs_cons (pg_name (i := 8) sc_wrong_place.nd rfl (by first | exact Or.inl rfl | exact Or.inr rfl)) dgs_nil))))
      (dss_cons (ds_if (dt_w (dw_or (dt_cmp (dc_ne hr) (de_din hr (de_var 8) (de_var 4)) (de_var 2)) (dw_or (dt_cmp (dc_inT hr) (de_var 8) (de_var 5)) (dw_or1 (dt_cmp (dc_ne hr) (de_get1 hr (de_var 3) (de_ix (de_var 8) de_int)) de_str))))) (dss_one (ds_ret (de_var 7))) dss_nil)
      (dss_one (ds_expr (de_saddT hr (de_var 5) (de_var 8)))))))
      (dss_one (ds_ret de_non)))))), fun ds m Q h => ?_⟩)
  · obtain ⟨p, b, l, rfl, _⟩ := h; rfl
  · obtain ⟨p, b, l, rfl, hp, hz, hln, q⟩ := h
    dsimp only [dRet, dSeq, dNext, dIfS, dSet, dExpr, dAsg, dPar, dPar3, gD, dOp, dUn, dArgs, dCons, dNil, dC, dB, dNot, dCall, dMeth, dMeth0, dIf, dLst, dTup, dSl, dNoPart, dPart, dM1, dOr, dAnd, dAndV, dOrV, dDGet, dSlA, dGet1]
    dsimp only [dRet, dSeq, dNext, dIfS, dSet, dExpr, dAsg, dPar, dPar3, gD, dOp, dUn, dArgs, dCons, dNil, dC, dB, dNot, dCall, dMeth, dMeth0, dIf, dLst, dTup, dSl, dNoPart, dPart, dM1, dOr, dAnd, dAndV, dOrV, dDGet, dSlA, dGet1, dNewT, dNewK, dFor, iT, dDPut, dDIn, dSet0S, dSet0T, dSAddS, dSAddT, dTru]
    refine dVar_at rfl ⟨p, rfl, hp, fun a m1 ha hE1 k1 => dVar_at rfl ⟨p, rfl, hp, fun c m2 hc hE2 k2 => fun s m3 hs0 ⟨o, e3⟩ hS0 => ?_⟩⟩
    have hE3 : Ext m2 m3 := by rw [e3]; exact Ext.new hs0
    have hs : m.mu s = none := by
      cases z : m.mu s with
      | none => rfl
      | some o => rw [(hE1.trans hE2).old _ _ z] at hs0; cases hs0
    have hm1 := (hE2.trans hE3).old _ _ k1
    have hm2 := hE3.old _ _ k2
    have hE := (hE1.trans hE2).trans hE3
    have as' : a ≠ s := fun z => by subst z; rw [hE2.old _ _ k1] at hs0; cases hs0
    have cs' : c ≠ s := fun z => by subst z; rw [k2] at hs0; cases hs0
    clear hE1 hE2 hE3 hs0
    refine dVar_at rfl ⟨l.map itD, .inl rfl, fun i δ m' => ∃ (ks : List PL.End) (d6 d7 d8 : Option D), δ = [some p.d, some (.tup (l.map itD)), some (.bl b), some (.ref a), some (.ref c), some (.ref s), d6, d7, d8] ∧ Ext m m' ∧ m'.mu a = some (.dic (kindsKV p.st)) ∧ m'.mu c = some (.dit (partKV p.jo)) ∧ SetT P w m' s (ks.map endK) ∧ ks.length ≤ i ∧ wpGo p.st p.jo b ks ((l.map (·.1)).drop i) = wpGo p.st p.jo b [] (l.map (·.1)), ⟨[], _, _, _, rfl, hE, hm1, hm2, hS0, Nat.le_refl _, rfl⟩, fun _ _ _ _ => trivial, ?_, ?_⟩
    · rintro i d δ m' hd ⟨ks, d6, d7, d8, rfl, hE, hm1, hm2, hS, hl, hR⟩
      obtain ⟨z, hzi, rfl⟩ := map_get hd
      have hi : i < l.length := (List.getElem?_eq_some_iff.mp hzi).1
      rw [drop_map hzi] at hR
      have ok := hz z (List.mem_of_getElem? hzi)
      have stop : ((partAt p.jo z.1.2).isSome ≠ b ∨ z.1.2 ∈ ks ∨ kindAt p.st z.1.2.1 ≠ some ("plain" : Str)) → Q (.str z.1.1) m' := fun hc => by
        rw [wpGo_hit hc] at hR
        have := q m' hE
        rw [← hR] at this; exact this
      refine dVar_at rfl ⟨2, rfl, it_cut ⟨_, .inl rfl, rfl, ?_⟩⟩
      refine dVar_at rfl (dVar_at rfl ⟨c, _, rfl, getP hm2 z.1.2, dVar_at rfl (neB ⟨_, rfl, ?_⟩)⟩)
      have e1 : ((partAt p.jo z.1.2).map endD).isSome = (partAt p.jo z.1.2).isSome := by cases partAt p.jo z.1.2 <;> rfl
      show if (!decide (((partAt p.jo z.1.2).map endD).isSome = b)) = true then _ else _
      rw [e1]
      refine iff_T (fun hc => ?_) fun h1 => ?_
      · exact ifT rfl (dVar_at rfl (stop (.inl (by simpa using hc))))
      · refine dVar_at rfl (dVar_at rfl ⟨s, _, endK z.1.2, rfl, rfl, hS, _, rfl, iff_T (fun hc => ?_) fun h2 => ?_⟩)
        · exact ifT rfl (dVar_at rfl (stop (.inr (.inl (mem_endK hc)))))
        · refine dVar_at rfl ⟨a, rfl, .inl ⟨_, hm1⟩, dVar_at rfl (endD_ix0 ⟨_, getK hm1 z.1.2.1, ?_⟩)⟩
          rw [optS_get]
          refine neS strOk_plain ⟨_, rfl, iff_T (fun hc => ?_) fun h3 => ?_⟩
          · exact dVar_at rfl (stop (.inr (.inr (by simpa using hc))))
          · have hno : ¬ ((partAt p.jo z.1.2).isSome ≠ b ∨ z.1.2 ∈ ks ∨ kindAt p.st z.1.2.1 ≠ some ("plain" : Str)) := by
              rintro (y | y | y)
              · simp [y] at h1
              · rw [endK_mem y] at h2; cases h2
              · simp [y] at h3
            rw [wpGo_miss hno] at hR
            refine dVar_at rfl ⟨s, _, rfl, hS, dVar_at rfl ⟨_, endK z.1.2, rfl, hS, by rw [List.length_map]; omega, fun m2 ⟨o2, e2⟩ hS2 => ?_⟩⟩
            exact ⟨z.1.2 :: ks, _, _, _, rfl, by rw [e2]; exact hE.set hs, by rw [e2, M.set_ne as']; exact hm1, by rw [e2, M.set_ne cs']; exact hm2, hS2, by simp only [List.length_cons]; omega, hR⟩
    · rintro δ m' ⟨ks, d6, d7, d8, rfl, hE, hm1, hm2, hS, hl, hR⟩
      have e : (l.map (·.1)).drop (l.map itD).length = [] := by rw [List.length_map, ← List.length_map (f := fun z : (Str × PL.End) × List D => z.1), List.drop_length]
      rw [e] at hR
      have := q m' hE
      rw [← hR] at this; exact this

end
end PR

namespace PL
open PySem PySem.Spec PyProof.Rows L2 GA GxR DL TM
/-! ### the plan with the items so far -/
theorem inP_put (w : Wit) (P : Pln) (k : Nat) : w.inP (w.put P k) := by cases w <;> exact insA_mem.mpr (.inl rfl)
theorem inP_more {w y : Wit} {P : Pln} {k : Nat} (h : w.inP P) : w.inP (y.put P k) := by
  cases w <;> cases y <;> first | exact h | exact insA_mem.mpr (.inr h)
theorem pos_inj {x y : Wit} {q : Pln} (hx : x.inP q) (hy : y.inP q) (hp : x.part = y.part) (h : x.pos q = y.pos q) : x = y := by
  cases x <;> cases y <;> simp only [Wit.part] at hp <;> simp only [Wit.inP] at hx hy <;> simp only [Wit.pos] at h <;> first
    | (exfalso; omega)
    | (have e1 := posL_get hx
       have e2 := posL_get hy
       rw [h, e2] at e1
       injection e1 with e1
       rw [e1])
theorem It.rng {p : Pln} {a b c e g s : Str} {t κ : Int} {w : Wit} {n nm : Str} {low : Bool} (h : It p a b c e g s t κ w n low nm) : 0 ≤ κ ∧ κ ≤ 5 := by
  cases h with
  | named h => omega
  | ended h => omega
  | wrong h => cases h <;> omega
theorem nmo0 : numOk 0 := ⟨by omega, by omega⟩
theorem nmo1 : numOk 1 := ⟨by omega, by omega⟩
theorem nmo2 : numOk 2 := ⟨by omega, by omega⟩
theorem nmo3 : numOk 3 := ⟨by omega, by omega⟩
/-- the items are of the form of a plan's -/
theorem NamedOk.ok {a b c e g s : Str} {w : Wit} {n : Str} (h : NamedOk a b c e g s w n) (hs : ∀ n ∈ [a, b, c, e, g, s], nameS n = true) : w.Ok ∧ nameS n = true := by
  have he : nameS e = true := hs e (by simp)
  cases h with
  | st h =>
    have hn : nameS n = true := hs n (by simp only [List.mem_cons, List.not_mem_nil, or_false] at h ⊢; rcases h with z | z | z | z <;> simp [z])
    exact ⟨⟨hn, (show kindS "crossing" = true by decide +kernel)⟩, hn⟩
  | ga h =>
    have hn : nameS n = true := hs n (by simp only [List.mem_cons, List.not_mem_nil, or_false] at h ⊢; rcases h with z | z | z | z | z <;> simp [z])
    exact ⟨⟨hn, he, nmo1⟩, hn⟩
  | si h =>
    have hn : nameS n = true := hs n h
    exact ⟨⟨hn, ⟨he, nmo0⟩, fun t z => by cases z⟩, hn⟩
theorem NoEnd.ok {a b c e g s f : Str} {x : End} (h : NoEnd a c g f x) (hs : ∀ n ∈ [a, b, c, e, g, s], nameS n = true) (hf : nameS f = true) : endOk x := by
  rcases h with rfl | rfl | rfl | rfl
  · exact ⟨hs _ (by simp), nmo2⟩
  · exact ⟨hs _ (by simp), nmo3⟩
  · exact ⟨hs _ (by simp), nmo0⟩
  · exact ⟨hf, nmo0⟩
theorem EndedOk.ok {a b c e g s f nm : Str} {w : Wit} {n : Str} (h : EndedOk a c e g f nm w n) (hs : ∀ n ∈ [a, b, c, e, g, s], nameS n = true) (hf : nameS f = true) (hn : nameS nm = true) : w.Ok ∧ nameS n = true := by
  have he : nameS e = true := hs e (by simp)
  cases h with
  | j1 hx => exact ⟨⟨hx.ok (b := b) (e := e) (s := s) hs hf, he, nmo1⟩, (hx.ok (b := b) (e := e) (s := s) hs hf).1⟩
  | j2 hx => exact ⟨⟨⟨he, nmo1⟩, hx.ok (b := b) (e := e) (s := s) hs hf⟩, he⟩
  | ga hx => exact ⟨⟨hn, hx.ok (b := b) (e := e) (s := s) hs hf⟩, hn⟩
  | si hx => exact ⟨⟨hn, hx.ok (b := b) (e := e) (s := s) hs hf, fun t z => by cases z⟩, hn⟩
theorem WrongOk.ok {a b c e g s nm : Str} {k t : Int} {w : Wit} {n : Str} {low : Bool} (h : WrongOk a b c e nm k t w n low) (hs : ∀ n ∈ [a, b, c, e, g, s], nameS n = true) (hn : nameS nm = true) : w.Ok ∧ nameS n = true := by
  have ha : nameS a = true := hs a (by simp)
  have hb : nameS b = true := hs b (by simp)
  have hc : nameS c = true := hs c (by simp)
  have he : nameS e = true := hs e (by simp)
  cases h with
  | @jo x r _ hx =>
    have key : endOk x.1 ∧ endOk x.2 := by
      simp only [List.mem_cons, List.not_mem_nil, or_false] at hx
      rcases hx with rfl | rfl | rfl | rfl
      · exact ⟨⟨hc, nmo2⟩, hc, nmo2⟩
      · exact ⟨⟨he, nmo1⟩, he, nmo1⟩
      · exact ⟨⟨he, nmo1⟩, hc, nmo0⟩
      · exact ⟨⟨hb, nmo0⟩, he, nmo1⟩
    cases r
    · exact ⟨key, key.1.1⟩
    · exact ⟨⟨key.2, key.1⟩, key.2.1⟩
  | @ga x _ hx =>
    refine ⟨⟨hn, ?_⟩, hn⟩
    simp only [List.mem_cons, List.not_mem_nil, or_false] at hx
    rcases hx with rfl | rfl | rfl | rfl
    · exact ⟨hb, nmo1⟩
    · exact ⟨ha, nmo0⟩
    · exact ⟨hc, nmo2⟩
    · exact ⟨he, nmo0⟩
  | @si x _ _ hx ho =>
    refine ⟨⟨hn, ?_, fun t z => ?_⟩, hn⟩
    · simp only [List.mem_cons, List.not_mem_nil, or_false] at hx
      rcases hx with rfl | rfl | rfl | rfl
      · exact ⟨he, nmo1⟩
      · exact ⟨ha, nmo1⟩
      · exact ⟨hc, nmo0⟩
      · exact ⟨ha, nmo0⟩
    · rcases ho with rfl | rfl
      · cases z
      · have z : some ((b, 0, 1) : Step) = some t := z
        cases z; exact ⟨hb, nmo0, nmo1⟩
  | @o0 st hst =>
    refine ⟨⟨hn, ⟨hb, nmo0⟩, fun t z => ?_⟩, hn⟩
    have z : some st = some t := z
    cases z
    simp only [List.mem_cons, List.not_mem_nil, or_false] at hst
    rcases hst with rfl | rfl | rfl | rfl | rfl | rfl | rfl
    · exact ⟨ha, nmo1, nmo1⟩
    · exact ⟨ha, nmo0, nmo1⟩
    · exact ⟨he, nmo0, nmo1⟩
    · exact ⟨ha, nmo1, nmo2⟩
    · exact ⟨hn, nmo1, nmo0⟩
    · exact ⟨ha, nmo1, nmo3⟩
    · exact ⟨hb, nmo0, nmo1⟩
  | @o1 x st hxx hst =>
    refine ⟨⟨hn, ?_, fun t z => ?_⟩, hn⟩
    · simp only [List.mem_cons, List.not_mem_nil, or_false] at hxx
      rcases hxx with rfl | rfl
      · exact ⟨hb, nmo1⟩
      · exact ⟨he, nmo0⟩
    · have z : some st = some t := z
      cases z
      simp only [List.mem_cons, List.not_mem_nil, or_false] at hst
      rcases hst with rfl | rfl | rfl | rfl | rfl | rfl
      · exact ⟨hc, nmo0, nmo1⟩
      · exact ⟨hc, nmo0, nmo2⟩
      · exact ⟨hc, nmo1, nmo0⟩
      · exact ⟨hc, nmo1, nmo2⟩
      · exact ⟨hb, nmo1, nmo0⟩
      · exact ⟨he, nmo0, nmo1⟩
theorem okW_wordK (k : Int) : okW (wordK k) := by
  obtain ⟨w0, w1, w2, w3, w4, w5⟩ := okW_words
  unfold wordK
  split
  · exact w0
  · split
    · exact w1
    · split
      · exact w2
      · split
        · exact w3
        · split
          · exact w4
          · exact w5
/-- the size, after i items -/
structure Sz (P : Pln) (i : Nat) : Prop where
  ok : P.Ok
  n1 : P.st.length ≤ 10 + i
  n2 : P.jo.length ≤ 14 + i
  n3 : P.ga.length ≤ 2 + i
  n4 : P.si.length ≤ 8 + i
theorem Sz.put {P : Pln} {i : Nat} (h : Sz P i) (hi : i < 2) {w : Wit} (hw : w.Ok) (k : Nat) : Sz (w.put P k) (i + 1) := by
  have n1 := h.n1; have n2 := h.n2; have n3 := h.n3; have n4 := h.n4
  cases w with
  | st x => exact ⟨h.ok.put0 hw (by omega), by show (insA P.st k x).length ≤ _; rw [insA_len]; omega, by show P.jo.length ≤ _; omega, by show P.ga.length ≤ _; omega, by show P.si.length ≤ _; omega⟩
  | jo x => exact ⟨h.ok.put1 hw (by omega), by show P.st.length ≤ _; omega, by show (insA P.jo k x).length ≤ _; rw [insA_len]; omega, by show P.ga.length ≤ _; omega, by show P.si.length ≤ _; omega⟩
  | ga x => exact ⟨h.ok.put2 hw (by omega), by show P.st.length ≤ _; omega, by show P.jo.length ≤ _; omega, by show (insA P.ga k x).length ≤ _; rw [insA_len]; omega, by show P.si.length ≤ _; omega⟩
  | si x => exact ⟨h.ok.put3 hw (by omega), by show P.st.length ≤ _; omega, by show P.jo.length ≤ _; omega, by show P.ga.length ≤ _; omega, by show (insA P.si k x).length ≤ _; rw [insA_len]; omega⟩
abbrev WL := List (Int × Wit × Str × Bool)
/-- after i turns: the plan, what is wrong in it, the names -/
inductive Got (p : Pln) (a b c e g s : Str) (H : Pln) (us : List Str) : Nat → Pln → WL → List Str → Prop where
  | zero : Got p a b c e g s H us 0 p [] us
  | one {κ : Int} {w : Wit} {n nm : Str} {low : Bool} {k : Nat} {us1 : List Str} (h : It p a b c e g s 0 κ w n low nm) (hw : w.Ok) (hn : nameS n = true) (hk : k ≤ w.len p) (hl : low = true → HostIn H p k w) (hs : ∀ x ∈ us, x ∈ us1) (hm : 1 ≤ κ → nm ∈ us1) : Got p a b c e g s H us 1 (w.put p k) [(κ, w, n, low)] us1
  | two {κ1 κ2 : Int} {w1 w2 : Wit} {n1 n2 nm1 nm2 : Str} {low1 low2 : Bool} {k1 k2 : Nat} {us2 : List Str} (h1 : It p a b c e g s 0 κ1 w1 n1 low1 nm1) (hw1 : w1.Ok) (hn1 : nameS n1 = true) (hk1 : k1 ≤ w1.len p) (hl1 : low1 = true → HostIn H p k1 w1)
      (h2 : It p a b c e g s 1 κ2 w2 n2 low2 nm2) (hw2 : w2.Ok) (hn2 : nameS n2 = true) (hk2 : k2 ≤ w2.len (w1.put p k1)) (hl2 : low2 = true → HostIn H (w1.put p k1) k2 w2) (hne : 1 ≤ κ1 → 1 ≤ κ2 → nm1 ≠ nm2) : Got p a b c e g s H us 2 (w2.put (w1.put p k1) k2) [(κ1, w1, n1, low1), (κ2, w2, n2, low2)] us2
section
variable {p : Pln} {a b c e g s : Str} {H : Pln} {us : List Str}
theorem Got.step {i : Nat} {P : Pln} {ws : WL} {us1 us2 : List Str} (G : Got p a b c e g s H us i P ws us1) (hi : i < 2) {κ : Int} {w : Wit} {n nm : Str} {low : Bool} {k : Nat} (h : It p a b c e g s (i : Int) κ w n low nm) (hw : w.Ok) (hn : nameS n = true) (hk : k ≤ w.len P) (hl : low = true → HostIn H P k w) (hs : ∀ x ∈ us1, x ∈ us2) (hm : 1 ≤ κ → nm ∉ us1 ∧ nm ∈ us2) :
    Got p a b c e g s H us (i + 1) (w.put P k) (ws ++ [(κ, w, n, low)]) us2 := by
  cases G with
  | zero => exact .one h hw hn hk hl hs fun z => (hm z).2
  | one h1 hw1 hn1 hk1 hl1 hs1 hm1 => exact .two h1 hw1 hn1 hk1 hl1 h hw hn hk hl fun z1 z2 q => (hm z2).1 (q ▸ hm1 z1)
  | two => omega
theorem Got.sz {i : Nat} {P : Pln} {ws : WL} {us1 : List Str} (G : Got p a b c e g s H us i P ws us1) (hp : Sz p 0) : Sz P i := by
  cases G with
  | zero => exact hp
  | one h1 hw1 => exact hp.put (by omega) hw1 _
  | two h1 hw1 hn1 hk1 hl1 h2 hw2 => exact (hp.put (by omega) hw1 _).put (by omega) hw2 _
theorem Got.ws {i : Nat} {P : Pln} {ws : WL} {us1 : List Str} (G : Got p a b c e g s H us i P ws us1) : ws.length = i ∧ i ≤ 2 ∧ ∀ x ∈ ws, x.2.1.inP P ∧ x.2.1.Ok ∧ nameS x.2.2.1 = true := by
  cases G with
  | zero => exact ⟨rfl, by omega, fun x hx => by cases hx⟩
  | one h1 hw1 hn1 => exact ⟨rfl, by omega, fun x hx => by rw [List.mem_singleton.mp hx]; exact ⟨inP_put _ _ _, hw1, hn1⟩⟩
  | two h1 hw1 hn1 hk1 hl1 h2 hw2 hn2 => exact ⟨rfl, by omega, fun x hx => by
      simp only [List.mem_cons, List.not_mem_nil, or_false] at hx
      rcases hx with rfl | rfl
      · exact ⟨inP_more (inP_put _ _ _), hw1, hn1⟩
      · exact ⟨inP_put _ _ _, hw2, hn2⟩⟩
theorem Got.due {r1 r2 r3 : Bool} {o : Option Step} (R : Right p a b c e g s r1 r2 r3 o) (F : Far p b e) {i : Nat} {P : Pln} {ws : WL} {us1 : List Str} (G : Got p a b c e g s (hostP a b c e g s r1 r2 r3 o) us i P ws us1) : okF (faultP P) ∧ DueOf P ws (faultP P) := by
  cases G with
  | zero => rw [chk_iff.mpr R.chk]; exact ⟨okF_none, .inl ⟨rfl, rfl⟩⟩
  | @one κ w n nm low k us1 h hw hn hk hl =>
    have t := told1 R F h hl
    rw [t]
    exact ⟨okF_some (okW_wordK _) hn, .inr ⟨κ, w.part, w.pos _, n, [], by simp, h.rng.1, h.rng.2, sort1, rfl⟩⟩
  | @two κ1 κ2 w1 w2 n1 n2 nm1 nm2 low1 low2 k1 k2 us2 h1 hw1 hn1 hk1 hl1 h2 hw2 hn2 hk2 hl2 hne =>
    obtain ⟨t1, t2⟩ := told2 R F h1 h2 hk1 hk2 hl1 hl2 hne (q := w2.put (w1.put p k1) k2) rfl
    have i1 : w1.inP (w2.put (w1.put p k1) k2) := inP_more (inP_put _ _ _)
    have i2 : w2.inP (w2.put (w1.put p k1) k2) := inP_put _ _ _
    generalize w2.put (w1.put p k1) k2 = q at t1 t2 i1 i2 ⊢
    have es : ([((κ1, w1, n1, low1) : Int × Wit × Str × Bool), (κ2, w2, n2, low2)].map (keyOf q)).mergeSort (PySem.W.dataLe false D.py) = if PySem.W.dataLt (keyD κ2 w2.part (w2.pos q) n2).py (keyD κ1 w1.part (w1.pos q) n1).py = true then [keyD κ2 w2.part (w2.pos q) n2, keyD κ1 w1.part (w1.pos q) n1] else [keyD κ1 w1.part (w1.pos q) n1, keyD κ2 w2.part (w2.pos q) n2] := sort2
    by_cases hd : PySem.W.dataLt (keyD κ2 w2.part (w2.pos q) n2).py (keyD κ1 w1.part (w1.pos q) n1).py = true
    · rw [if_pos hd] at es
      have hk : kLt κ2 w2.part (w2.pos q) κ1 w1.part (w1.pos q) := by
        rcases key_lt.mp hd with z | ⟨z, z2 | ⟨z2, z3 | ⟨z3, z4⟩⟩⟩
        · exact .inl z
        · exact .inr ⟨z, .inl z2⟩
        · exact .inr ⟨z, .inr ⟨z2, by omega⟩⟩
        · have e := pos_inj i2 i1 z2 (by omega)
          subst e
          rw [h2.who, ← h1.who] at z4
          exact absurd z4 (List.lt_irrefl _)
      rw [t1 hk]
      exact ⟨okF_some (okW_wordK _) hn2, .inr ⟨κ2, w2.part, w2.pos q, n2, _, by simp, h2.rng.1, h2.rng.2, es, rfl⟩⟩
    · rw [if_neg hd] at es
      have hk : ¬ kLt κ2 w2.part (w2.pos q) κ1 w1.part (w1.pos q) := fun z => hd (key_lt.mpr (by
        rcases z with z | ⟨z, z2 | ⟨z2, z3⟩⟩
        · exact .inl z
        · exact .inr ⟨z, .inl z2⟩
        · exact .inr ⟨z, .inr ⟨z2, .inl (by omega)⟩⟩))
      rw [t2 hk]
      exact ⟨okF_some (okW_wordK _) hn1, .inr ⟨κ1, w1.part, w1.pos q, n1, _, by simp, h1.rng.1, h1.rng.2, es, rfl⟩⟩
end
end PL

namespace PL
open PySem PySem.Spec PyProof.Rows L2 GA GxR DL TM
/-! ### one turn: an item more -/
theorem Outs.has {Rel : D → Option D → Prop} {xs ys : List D} (h : Outs Rel xs ys) {d : D} (hd : d ∈ xs) : ∃ o, Rel d o ∧ ∀ y, o = some y → y ∈ ys := by
  induction h with
  | nil => cases hd
  | keep h t ih =>
    rcases List.mem_cons.mp hd with rfl | hd
    · exact ⟨_, h, fun y e => by cases e; exact List.mem_cons_self⟩
    · obtain ⟨o, h1, h2⟩ := ih hd
      exact ⟨o, h1, fun y e => List.mem_cons_of_mem _ (h2 y e)⟩
  | skip h t ih =>
    rcases List.mem_cons.mp hd with rfl | hd
    · exact ⟨_, h, fun y e => by cases e⟩
    · exact ih hd
theorem iEnL_w {te : DTr} {δ : Sl} {m : M} {xs : List D} {a : Addr} (h : ∀ R : DK, (R (.ref a) m) → te δ m R) (ha : m.mu a = some (.lst xs)) : WkS m (enumD 0 xs) (iEnL te) δ := fun R hR => h _ ⟨a, xs, rfl, ha, hR _ m (Ext.refl m) fun m' h => h.old _ _ ha⟩
theorem extChg {mr m m' : M} {u : Addr} (E : Ext mr m) (hu : mr.mu u = none) (C : Chg u m m') : Ext mr m' := ⟨C.gh.trans E.gh, fun x o z => C.old x o (fun y => by subst y; rw [hu] at z; cases z) (E.old x o z)⟩
theorem pD_sub {w y : Wit} {P : Pln} {k : Nat} {z : D} (h : z ∈ w.pD P) : z ∈ w.pD (y.put P k) := by
  cases w <;> cases y <;> first
    | exact h
    | (obtain ⟨x, hx, rfl⟩ := List.mem_map.mp h
       exact List.mem_map.mpr ⟨x, insA_mem.mpr (.inr hx), rfl⟩)
theorem Got.sub {p : Pln} {a b c e g s : Str} {H : Pln} {us : List Str} {i : Nat} {P : Pln} {ws : WL} {us1 : List Str} (G : Got p a b c e g s H us i P ws us1) {w : Wit} {z : D} (h : z ∈ w.pD p) : z ∈ w.pD P := by
  cases G with
  | zero => exact h
  | one => exact pD_sub h
  | two => exact pD_sub (pD_sub h)
theorem Right.sub {p : Pln} {a b c e g s : Str} {r1 r2 r3 : Bool} {o : Option Step} (R : Right p a b c e g s r1 r2 r3 o) {w : Wit} {z : D} (h : z ∈ w.pD (hostP a b c e g s r1 r2 r3 o)) : z ∈ w.pD p := by
  cases w <;> obtain ⟨x, hx, rfl⟩ := List.mem_map.mp h
  · exact List.mem_map.mpr ⟨x, R.st x hx, rfl⟩
  · exact List.mem_map.mpr ⟨x, R.jo x hx, rfl⟩
  · exact List.mem_map.mpr ⟨x, R.ga x hx, rfl⟩
  · exact List.mem_map.mpr ⟨x, R.si x hx, rfl⟩
theorem host_pD {a b c e g s : Str} {r1 r2 r3 : Bool} {o : Option Step} (w : Wit) : ∃ z, z ∈ w.pD (hostP a b c e g s r1 r2 r3 o) := by
  cases w <;> exact ⟨_, List.mem_cons_self⟩
theorem any_plain {d : D} {l : List D} (hd : plainD d = true) (hl : ∀ z ∈ l, plainD z = true) : ((D.pys l).any fun z => PyData.eqv z d.py) = true ↔ d ∈ l := by
  induction l with
  | nil => exact ⟨fun h => absurd (show false = true from h) Bool.false_ne_true, fun h => by cases h⟩
  | cons x l ih =>
    show (PyData.eqv x.py d.py || (D.pys l).any fun z => PyData.eqv z d.py) = true ↔ _
    rw [Bool.or_eq_true, eqv_plain (hl x List.mem_cons_self) hd, ih (fun z hz => hl z (List.mem_cons_of_mem _ hz)), List.mem_cons]
    exact ⟨fun z => z.elim (fun q => .inl q.symm) .inr, fun z => z.elim (fun q => .inl q.symm) .inr⟩
/-- the greatest place behind the host's items -/
theorem behind {xs hs : List D} {ys : List D} {Rel : D → Option D → Prop} (hR : ∀ d o, Rel d o → ∃ (j : Nat) (z : D), d = .tup [.int (j : Int), z] ∧ xs[j]? = some z ∧ (z ∈ hs → o = some (.int ((j : Int) + 1))) ∧ (z ∉ hs → o = none)) (h : Outs Rel (enumD 0 xs) ys) (hsub : ∀ z ∈ hs, z ∈ xs) (hne : ∃ z, z ∈ hs) :
    ∃ ns : List Int, ys = ns.map D.int ∧ 0 < ns.length ∧ ∀ M, M ∈ ns → (∀ x, x ∈ ns → x ≤ M) → ∃ lo : Nat, M = (lo : Int) ∧ lo ≤ xs.length ∧ ∀ k, lo ≤ k → ∀ z ∈ hs, z ∈ xs.take k := by
  have h1 : ∀ y ∈ ys, ∃ j : Nat, y = .int ((j : Int) + 1) ∧ j < xs.length := h.all fun d hd y hy => by
    obtain ⟨j, z, _, e1, e2, e3⟩ := hR _ _ hy
    by_cases hz : z ∈ hs
    · have := e2 hz
      cases this
      exact ⟨j, rfl, (List.getElem?_eq_some_iff.mp e1).1⟩
    · have := e3 hz
      cases this
  have h2 : ∃ ns : List Int, ys = ns.map D.int := by
    clear h
    induction ys with
    | nil => exact ⟨[], rfl⟩
    | cons y ys ih =>
      obtain ⟨j, rfl, _⟩ := h1 y List.mem_cons_self
      obtain ⟨ns, rfl⟩ := ih fun y hy => h1 y (List.mem_cons_of_mem _ hy)
      exact ⟨((j : Int) + 1) :: ns, rfl⟩
  obtain ⟨ns, rfl⟩ := h2
  have h3 : ∀ z ∈ hs, ∃ j : Nat, xs[j]? = some z ∧ ((j : Int) + 1) ∈ ns := fun z hz => by
    obtain ⟨j, hj, e⟩ := List.getElem_of_mem (hsub z hz)
    have hj2 : xs[j]? = some z := by rw [List.getElem?_eq_getElem hj, e]
    have hm : (D.tup [.int (j : Int), z]) ∈ enumD 0 xs := List.mem_of_getElem? (by have := enumD_get (n := 0) hj2; rw [Nat.zero_add] at this; exact this)
    obtain ⟨o, ho, hin⟩ := h.has hm
    obtain ⟨j2, z2, e1, e2, e3, _⟩ := hR _ _ ho
    injection e1 with e1
    injection e1 with e4 e1
    injection e4 with e4
    injection e1 with e5 _
    subst e5
    have e4 : j = j2 := by omega
    subst e4
    have := hin _ (e3 hz)
    obtain ⟨x, hx, ex⟩ := List.mem_map.mp this
    injection ex with ex
    exact ⟨j, hj2, ex ▸ hx⟩
  obtain ⟨z0, hz0⟩ := hne
  obtain ⟨j0, _, hj0⟩ := h3 z0 hz0
  refine ⟨ns, rfl, List.length_pos_of_mem hj0, fun M hM hmax => ?_⟩
  obtain ⟨j, ej, hj⟩ := h1 (.int M) (List.mem_map.mpr ⟨M, hM, rfl⟩)
  injection ej with ej
  refine ⟨j + 1, by omega, hj, fun k hk z hz => ?_⟩
  obtain ⟨j2, e2, hin⟩ := h3 z hz
  have := hmax _ hin
  have hlt : j2 < k := by omega
  exact List.mem_of_getElem? (i := j2) (by rw [List.getElem?_take_of_lt hlt]; exact e2)
def dTurn : DTS := dSeq (dSet (dIf (dB (dOp (rdEq false) (dVar 14) (dC (D.int 0)))) (dCall spNamed (dCons (dVar 4) (dCons (dVar 6) dNil))) (dIf (dB (dOp (rdEq false) (dVar 14) (dC (D.int 1)))) (dCall spEnded (dCons (dVar 4) (dCons (dVar 6) (dCons (dVar 12) dNil)))) (dC D.non))) 15)
  (dSeq (dSet (dIf (dB (dOp (rdIsN true) (dVar 15) (dC D.non))) (dVar 15) (dCall spWrong (dCons (dVar 4) (dCons (dVar 14) (dCons (dVar 13) (dCons (dVar 6) (dCons (dVar 12) dNil))))))) 15)
  (dSeq (dSet (dOp rdIx (dVar 15) (dC (D.int 0))) 16)
  (dSeq (dSet (dIf (dB (dOp rdIx (dVar 15) (dC (D.int 3)))) (dArgs rdMaxL (dCons (dLC (iEnL (dOp rdIx (dVar 10) (dVar 16))) (Tg.tup [9, 19]) (dB (dOp (rdInD false) (dVar 19) (dOp rdIx (dVar 6) (dVar 16)))) (dOp rdAdd (dVar 9) (dC (D.int 1))) (List.map (fun x => x.snd) [(Str.ofString "at", 9), (Str.ofString "item", 19)])) dNil)) (dC (D.int 0))) 17)
  (dSeq (dExpr (dMeth rdInsert (dOp rdIx (dVar 10) (dVar 16)) (dCons (dOp rdAdd (dVar 17) (dCall spDrawG (dCons (dVar 4) (dCons (dOp rdAdd (dOp (rdI (fun _ _ => True) fun x1 x2 => x1 - x2) (dArgs rdLen (dCons (dOp rdIx (dVar 10) (dVar 16)) dNil)) (dVar 17)) (dC (D.int 1))) dNil)))) (dCons (dOp rdIx (dVar 15) (dC (D.int 1))) dNil))))
  (dExpr (dMeth rdAppend (dVar 11) (dCons (dTup (dCons (dVar 14) (dCons (dVar 15) dNil))) dNil)))))))
theorem notN_w {w : Wit} {n : Str} {low : Bool} {m : M} {Q : DK} (q : Q (.bl true) m) : rdIsN true (witD w n low) .non m Q := q
section
variable {mr m : M} {E : DEnds} {s0 s1 s2 s3 s7 s8 s9 s15 s16 s17 s18 s19 : Option D} {aD u hA hp aw an : Addr} {a b c e g s : Str} {r1 r2 r3 : Bool} {o : Option Step} {p P : Pln} {us us1 : List Str} {ws : WL} {i : Nat} {κ : Int}
abbrev Fr (mr : M) (an aw : Addr) : Addr → Prop := fun x => mr.mu x = none ∧ x ≠ an ∧ x ≠ aw
theorem turn (hD : Dk mr (.ref aD)) (hH : HostAt mr hA (hostP a b c e g s r1 r2 r3 o)) (R : Right p a b c e g s r1 r2 r3 o) (hns : ∀ n ∈ [a, b, c, e, g, s], nameS n = true) (E0 : Ext mr m) (fn : mr.mu an = none) (fw : mr.mu aw = none) (nwn : aw ≠ an)
    (hP : PAt (Fr mr an aw) m hp P) (hn : m.mu an = some (.lst (us1.map D.str))) (hw : m.mu aw = some (.lst (ws.map wrD))) (hnl : us1.length ≤ 40 + 2 * i) (hpn : ∀ x ∈ p.nms, x ∈ us1)
    (G : Got p a b c e g s (hostP a b c e g s r1 r2 r3 o) us i P ws us1) (hi : i < 2) (hκ : 0 ≤ κ ∧ κ ≤ 5) (hz : Sz p 0)
    (q : ∀ m' P' ws' us2 d9 d15 d16 d17 d18 d19, Ext mr m' → PAt (Fr mr an aw) m' hp P' → m'.mu an = some (.lst (us2.map D.str)) → m'.mu aw = some (.lst (ws'.map wrD)) → us2.length ≤ 40 + 2 * (i + 1) → (∀ x ∈ us1, x ∈ us2) → Got p a b c e g s (hostP a b c e g s r1 r2 r3 o) us (i + 1) P' ws' us2 → E.nx [s0, s1, s2, s3, some (.ref aD), some (.ref u), some (.ref hA), s7, s8, d9, some (.ref hp), some (.ref aw), some (.ref an), some (.int (i : Int)), some (.int κ), d15, d16, d17, d18, d19] m') :
    dTurn E [s0, s1, s2, s3, some (.ref aD), some (.ref u), some (.ref hA), s7, s8, s9, some (.ref hp), some (.ref aw), some (.ref an), some (.int (i : Int)), some (.int κ), s15, s16, s17, s18, s19] m := by
  unfold dTurn
  refine seqR2 (fun δ m2 => ∃ (w : Wit) (n nm : Str) (low : Bool) (us2 : List Str), δ = [s0, s1, s2, s3, some (.ref aD), some (.ref u), some (.ref hA), s7, s8, s9, some (.ref hp), some (.ref aw), some (.ref an), some (.int (i : Int)), some (.int κ), some (witD w n low), s16, s17, s18, s19] ∧ Ext mr m2 ∧ It p a b c e g s (i : Int) κ w n low nm ∧ w.Ok ∧ nameS n = true ∧ (∀ x ∈ us1, x ∈ us2) ∧ (1 ≤ κ → nm ∉ us1 ∧ nm ∈ us2) ∧ us2.length ≤ us1.length + 2 ∧ PAt (Fr mr an aw) m2 hp P ∧ m2.mu an = some (.lst (us2.map D.str)) ∧ m2.mu aw = some (.lst (ws.map wrD))) ?_ (fun RR hR => seqI ?_)
  · rintro δ m2 ⟨w, n, nm, low, us2, rfl, E2, hIt, hwo, hno, hsub, hnm, hl2, hP2, hn2, hw2⟩
    have Gs := G.sz hz
    have hPok := Gs.ok
    refine seqI ?_
    dsimp only [dSet, dOp, dC]
    refine dVar_at rfl ⟨_, rfl, ?_⟩
    have hlen : (w.pD P).length = w.len P := pD_len w P
    have hl50 : (w.pD P).length ≤ 50 := by
      rw [hlen]
      have n1 := hPok.n1; have n2 := hPok.n2; have n3 := hPok.n3; have n4 := hPok.n4
      cases w <;> simp only [Wit.len] <;> omega
    refine seqR1 (fun δ m3 => ∃ (lo : Nat) (d9 d18 d19 : Option D), δ = [s0, s1, s2, s3, some (.ref aD), some (.ref u), some (.ref hA), s7, s8, d9, some (.ref hp), some (.ref aw), some (.ref an), some (.int (i : Int)), some (.int κ), some (witD w n low), some (.int w.part), some (.int (lo : Int)), d18, d19] ∧ Ext m2 m3 ∧ lo ≤ (w.pD P).length ∧ (low = true → ∀ k, lo ≤ k → HostIn (hostP a b c e g s r1 r2 r3 o) P k w)) ?_ (fun RR hR => seqI ?_)
    · rintro δ m3 ⟨lo, d9, d18, d19, rfl, E3, hlo, hlow⟩
      have hP3 : PAt (Fr mr an aw) m3 hp P := hP2.keep (fun x o _ z => E3.old x o z) fun _ h => h
      have hn3 := E3.old _ _ hn2
      have hw3 := E3.old _ _ hw2
      have E3' := E2.trans E3
      obtain ⟨aP, faP, raP, haP, fhp, _, putP⟩ := hP3.at w
      refine seqI ?_
      dsimp only [dRet, dSeq, dNext, dIfS, dSet, dExpr, dAsg, dPar, dPar3, gD, dOp, dUn, dArgs, dCons, dNil, dC, dB, dNot, dCall, dMeth, dMeth0, dIf, dLst, dTup, dSl, dNoPart, dPart, dM1, dOr, dAnd, dAndV, dOrV, dDGet, dSlA, dGet1]
      refine dVar_at rfl (dVar_at rfl (raP m3 _ rfl ⟨⟨aP, _, rfl, haP⟩, dVar_at rfl (dVar_at rfl (dVar_at rfl (dVar_at rfl (raP m3 _ rfl ?_))))⟩))
      refine ⟨.ref aP, (w.pD P).length, rfl, ⟨_, haP, rfl⟩, dVar_at rfl ⟨trivial, aI ?_⟩⟩
      show spDrawG [D.ref aD, D.int (((w.pD P).length : Int) - (lo : Int) + 1)] m3 _
      refine drw (hD.ext E3'.gh) (by omega) (by omega) fun r hr0 hr1 => aI (dVar_at rfl ⟨_, rfl, ?_⟩)
      refine ⟨aP, w.pD P, (lo : Int) + r, w.d, rfl, rfl, haP, slt (by omega), by omega, by omega, ?_⟩
      have hk : ((lo : Int) + r).toNat = lo + r.toNat := by omega
      have hkl : lo + r.toNat ≤ w.len P := by rw [← hlen]; omega
      rw [hk, ← pD_put]
      have hP4 := putP (lo + r.toNat)
      have E4 : Ext mr (m3.set aP (.lst (w.pD (w.put P (lo + r.toNat))))) := E3'.set faP.1
      have hn4 := (M.set_ne (o := .lst (w.pD (w.put P (lo + r.toNat)))) (Ne.symm faP.2.1)).trans hn3
      have hw4 := (M.set_ne (o := .lst (w.pD (w.put P (lo + r.toNat)))) (Ne.symm faP.2.2)).trans hw3
      generalize m3.set aP (.lst (w.pD (w.put P (lo + r.toNat)))) = m4 at hP4 E4 hn4 hw4 ⊢
      refine dVar_at rfl ⟨⟨aw, _, rfl, hw4⟩, dVar_at rfl (dVar_at rfl ⟨slk (by simp), ?_⟩)⟩
      refine ap hw4 (by rw [List.length_map, G.ws.1]; omega) ?_
      have ew : (DO.lst (ws.map wrD ++ [.tup [.int κ, witD w n low]])) = .lst ((ws ++ [(κ, w, n, low)]).map wrD) := by rw [List.map_append]; rfl
      rw [ew]
      exact q _ _ _ us2 _ _ _ _ _ _ (E4.set fw) (hP4.keep (fun x o h z => (M.set_ne h.2.2).trans z) fun _ h => h) ((M.set_ne (Ne.symm nwn)).trans hn4) M.set_same (by omega) hsub (G.step hi hIt hwo hno hkl (fun z => hlow z _ (by omega)) hsub hnm)
    · dsimp only [dSet, dIf, dB, dOp, dC, dArgs, dCons, dNil]
      refine dVar_at rfl ⟨_, rfl, low, rfl, ?_⟩
      cases low with
      | false => exact ifF rfl (hR _ _ ⟨0, _, _, _, rfl, Ext.refl _, Nat.zero_le _, fun z => by cases z⟩)
      | true =>
        refine ifT rfl ?_
        obtain ⟨aP, faP, raP, haP, fhp, ⟨dsh, hph⟩, putP⟩ := hP2.at w
        obtain ⟨aH, _, raH, haH, _, ⟨dsH, hHh⟩, _⟩ := (hH.ext E2).p.at w
        refine dLC_gen (I := fun _ => True) (xs := enumD 0 (w.pD P)) (Rel := fun d oo => ∃ (j : Nat) (z : D), d = .tup [.int (j : Int), z] ∧ (w.pD P)[j]? = some z ∧ (z ∈ w.pD (hostP a b c e g s r1 r2 r3 o) → oo = some (.int ((j : Int) + 1))) ∧ (z ∉ w.pD (hostP a b c e g s r1 r2 r3 o) → oo = none)) trivial (fun _ _ _ _ => trivial) (iEnL_w (xs := w.pD P) (fun R hR => dVar_at rfl (dVar_at rfl (raP m2 _ rfl hR))) haP) (slk (by rw [enumD_len]; omega)) (fun d hd m' hE _ Ry Rn hy hno => ?_) (fun p4 m4 ys hp4 hE4 _ hm4 ho => ?_)
        · obtain ⟨j, hj, rfl⟩ := List.getElem_of_mem hd
          have hj2 : j < (w.pD P).length := by rw [enumD_len] at hj; exact hj
          have hz1 : (w.pD P)[j]? = some (w.pD P)[j] := List.getElem?_eq_getElem hj2
          have hz2 := enumD_get (n := 0) hz1
          rw [Nat.zero_add] at hz2
          have hz3 : (enumD 0 (w.pD P))[j] = .tup [.int (j : Int), (w.pD P)[j]] := by
            have := List.getElem?_eq_getElem hj
            rw [hz2] at this
            injection this with this
            exact this.symm
          rw [hz3] at hy hno ⊢
          have hpl : plainD (w.pD P)[j] = true := pD_plain _ (List.getElem_mem hj2)
          have hfi : Fine (w.pD P)[j] := pD_fine hPok _ (List.getElem_mem hj2)
          generalize (w.pD P)[j] = z at hz1 hz2 hy hno hpl hfi ⊢
          have hHf : ∀ y ∈ w.pD (hostP a b c e g s r1 r2 r3 o), Fine y := fun y hy => pD_fine hz.ok y (R.sub hy)
          dsimp only [dRet, dSeq, dNext, dIfS, dSet, dExpr, dAsg, dPar, dPar3, gD, dOp, dUn, dArgs, dCons, dNil, dC, dB, dNot, dCall, dMeth, dMeth0, dIf, dLst, dTup, dSl, dNoPart, dPart, dM1, dOr, dAnd, dAndV, dOrV, dDGet, dSlA, dGet1]
          refine ⟨_, .inl rfl, rfl, dVar_at rfl (dVar_at rfl (dVar_at rfl (raH m' _ ((hE.old _ _ hHh).trans hHh.symm) ?_)))⟩
          refine ⟨aH, _, rfl, hE.old _ _ haH, pures_of fun y hy => (hHf y hy).pure, hfi.pure, shaped_d hfi, shaped_l hHf, _, rfl, ?_⟩
          rw [if_neg Bool.false_ne_true]
          refine iff_T (fun zz => ?_) fun zz => ?_
          · have hin := (any_plain hpl (fun y hy => pD_plain y hy)).mp zz
            exact dVar_at rfl (aI (hy _ _ ⟨j, z, rfl, hz1, fun _ => rfl, fun h => absurd hin h⟩ (Ext.refl _)))
          · have hin : z ∉ w.pD (hostP a b c e g s r1 r2 r3 o) := fun h => by
              rw [(any_plain hpl (fun y hy => pD_plain y hy)).mpr h] at zz; cases zz
            exact hno _ ⟨j, z, rfl, hz1, fun h => absurd h hin, fun _ => rfl⟩ (Ext.refl _)
        · obtain ⟨ns, rfl, hpos, hmx⟩ := behind (hs := w.pD (hostP a b c e g s r1 r2 r3 o)) (fun d oo h => h) ho (fun z hz => G.sub (R.sub hz)) (host_pD w)
          refine ⟨p4, ns, rfl, hm4, hpos, fun M hM hmax => ?_⟩
          obtain ⟨lo, rfl, hlo, hk⟩ := hmx M hM hmax
          exact hR _ _ ⟨lo, _, _, _, rfl, hE4, hlo, fun _ k hlk => hostIn_D (hk k hlk)⟩
  · have hHm : HostAt m hA (hostP a b c e g s r1 r2 r3 o) := hH.ext E0
    dsimp only [dSet, dIf, dB, dOp, dC, dCall, dCons, dNil]
    refine dVar_at rfl (eqI ⟨_, rfl, iff_T (fun z => ?_) fun z => ?_⟩)
    · have hk0 : κ = 0 := of_decide_eq_true z
      subst hk0
      refine dVar_at rfl (dVar_at rfl ⟨.ref aD, hA, a, b, c, e, g, s, r1, r2, r3, o, rfl, hD.ext E0.gh, hHm, fun w n m2 hN E1 => ?_⟩)
      refine seqI ?_
      dsimp only [dSet, dIf, dB, dOp, dC, dCall, dCons, dNil]
      refine dVar_at rfl (notN_w ⟨_, rfl, ifT rfl (dVar_at rfl (hR _ _ ⟨w, n, n, true, us1, rfl, E0.trans E1, .named hN, (hN.ok hns).1, (hN.ok hns).2, fun _ h => h, fun z => by omega, by omega, hP.keep (fun x o _ z => E1.old x o z) fun _ h => h, E1.old _ _ hn, E1.old _ _ hw⟩))⟩)
    · refine dVar_at rfl (eqI ⟨_, rfl, iff_T (fun z1 => ?_) fun z1 => ?_⟩)
      · have hk1 : κ = 1 := of_decide_eq_true z1
        subst hk1
        refine dVar_at rfl (dVar_at rfl (dVar_at rfl ⟨.ref aD, hA, an, us1, a, b, c, e, g, s, r1, r2, r3, o, rfl, hD.ext E0.gh, fun m' C => hH.ext (extChg E0 fn C), hn, by omega, fun w n f nm m2 hN hf hnm hfu hnu C hn2 => ?_⟩))
        refine seqI ?_
        dsimp only [dSet, dIf, dB, dOp, dC, dCall, dCons, dNil]
        have hnu1 : nm ∉ us1 := fun z => hnu (List.mem_append_left _ z)
        refine dVar_at rfl (notN_w ⟨_, rfl, ifT rfl (dVar_at rfl (hR _ _ ⟨w, n, nm, false, us1 ++ [f, nm], rfl, extChg E0 fn C, .ended hN (fun z => hfu (hpn _ z)) (fun z => hnu1 (hpn _ z)), (hN.ok hns hf hnm).1, (hN.ok hns hf hnm).2, fun _ h => List.mem_append_left _ h, fun _ => ⟨hnu1, by simp⟩, by simp, hP.keep (fun x o h z => C.old x o h.2.1 z) fun _ h => h, hn2, C.old _ _ nwn hw⟩))⟩)
      · have hk2 : κ = 2 ∨ κ = 3 ∨ κ = 4 ∨ κ = 5 := by
          have h0 : ¬ κ = 0 := of_decide_eq_false z
          have h1 : ¬ κ = 1 := of_decide_eq_false z1
          omega
        refine seqI ?_
        dsimp only [dSet, dIf, dB, dOp, dC, dCall, dCons, dNil]
        refine dVar_at rfl ⟨_, rfl, ifF rfl (dVar_at rfl (dVar_at rfl (dVar_at rfl (dVar_at rfl (dVar_at rfl ⟨.ref aD, κ, (i : Int), hA, an, us1, a, b, c, e, g, s, r1, r2, r3, o, rfl, hD.ext E0.gh, hk2, by omega, hHm, hn, by omega, fun w n low nm m2 hN hnm hnu C hn2 => ?_⟩)))))⟩
        exact hR _ _ ⟨w, n, nm, low, us1 ++ [nm], rfl, extChg E0 fn C, .wrong hN (fun z => hnu (hpn _ z)), (hN.ok (g := g) (s := s) hns hnm).1, (hN.ok (g := g) (s := s) hns hnm).2, fun _ h => List.mem_append_left _ h, fun _ => ⟨hnu, by simp⟩, by simp, hP.keep (fun x o h z => C.old x o h.2.1 z) fun _ h => h, hn2, C.old _ _ nwn hw⟩
end
end PL

namespace PL
open PySem PySem.Spec PyProof.Rows L2 GA GxR DL TM
theorem perm_map {α : Type} {f : α → D} {zs ys : List D} (h : zs.Perm ys) : ∀ l : List α, ys = l.map f → ∃ l' : List α, zs = l'.map f ∧ l'.Perm l := by
  induction h with
  | nil => intro l e; cases l with
    | nil => exact ⟨[], rfl, List.Perm.refl _⟩
    | cons _ _ => cases e
  | cons x h ih =>
    intro l e
    cases l with
    | nil => cases e
    | cons y l =>
      injection e with e1 e2
      obtain ⟨l', e3, hp⟩ := ih l e2
      exact ⟨y :: l', by rw [List.map_cons, ← e1, ← e3], hp.cons y⟩
  | swap x y l0 =>
    intro l e
    match l, e with
    | a :: b :: l, e =>
      injection e with e1 e2
      injection e2 with e2 e3
      exact ⟨b :: a :: l, by rw [List.map_cons, List.map_cons, ← e1, ← e2, ← e3], List.Perm.swap ..⟩
  | trans h1 h2 ih1 ih2 =>
    intro l e
    obtain ⟨l2, e2, p2⟩ := ih2 l e
    obtain ⟨l1, e1, p1⟩ := ih1 l2 e2
    exact ⟨l1, e1, p1.trans p2⟩
theorem host_chg {m m' : M} {h u : Addr} {a b c e g s : Str} {r1 r2 r3 : Bool} {o : Option Step} (H : HostAt m h (hostP a b c e g s r1 r2 r3 o)) {l : List Str} {x : Str} (hu : m.mu u = some (.lst ((x :: l).map D.str))) (C : Chg u m m') : HostAt m' h (hostP a b c e g s r1 r2 r3 o) := by
  obtain ⟨h0, h1, h2, h3, nd, e', e0, e1, e2, e3⟩ := H.ex
  have ne : ∀ {y : Addr} {d : D} {ds : List D}, m.mu y = some (.lst (d :: ds)) → (∀ s, d ≠ .str s) → y ≠ u := fun {y d ds} hy hd z => by
    subst z
    rw [hu] at hy
    injection hy with hy
    injection hy with hy
    injection hy with hy _
    exact hd x hy.symm
  exact ⟨h0, h1, h2, h3, nd, C.old _ _ (ne e' fun s z => by cases z) e', C.old _ _ (ne (d := strD (a, "plain")) e0 fun s z => by cases z) e0, C.old _ _ (ne (d := joD (revJ r1 ((a, 1), (b, 0)))) e1 fun s z => by cases z) e1, C.old _ _ (ne (d := gaD (g, (a, 0))) e2 fun s z => by cases z) e2, C.old _ _ (ne (d := siD (s, (a, 1), o)) e3 fun s z => by cases z) e3⟩
theorem ixTup {m : M} {Q : DK} {ds : List D} {k : Nat} {y : D} (hy : ds[k]? = some y) (q : Q y m) : rdIx (.tup ds) (.int (k : Int)) m Q := ⟨y, by
  have hi := (List.getElem?_eq_some_iff.mp hy).1
  unfold atI ixN
  rw [if_pos (by omega), if_pos (by omega)]
  show ds[(k : Int).toNat]? = _
  rw [Int.toNat_natCast]; exact hy, q⟩
def partL (p : Pln) : Nat → List D
  | 0 => p.st.map strD | 1 => p.jo.map joD | 2 => p.ga.map gaD | _ => p.si.map siD
def appP (p q : Pln) : Pln := ⟨p.st ++ q.st, p.jo ++ q.jo, p.ga ++ q.ga, p.si ++ q.si⟩
theorem Built.four {m m' : M} {Rel : Nat → List D → Prop} {p : Addr} (h : Built m Rel 4 m' p) : ∃ (h0 h1 h2 h3 : Addr) (z0 z1 z2 z3 : List D), [p, h0, h1, h2, h3].Nodup ∧ (∀ x ∈ [p, h0, h1, h2, h3], m.mu x = none) ∧ m'.mu p = some (.lst [.ref h0, .ref h1, .ref h2, .ref h3]) ∧ (m'.mu h0 = some (.lst z0) ∧ Rel 0 z0) ∧ (m'.mu h1 = some (.lst z1) ∧ Rel 1 z1) ∧ (m'.mu h2 = some (.lst z2) ∧ Rel 2 z2) ∧ (m'.mu h3 = some (.lst z3) ∧ Rel 3 z3) := by
  obtain ⟨as, zss, la, lz, hp, nd, fr, hc⟩ := h.ex
  match as, zss, la, lz with
  | [h0, h1, h2, h3], [z0, z1, z2, z3], _, _ => exact ⟨h0, h1, h2, h3, z0, z1, z2, z3, nd, fr, hp, hc 0 _ _ rfl rfl, hc 1 _ _ rfl rfl, hc 2 _ _ rfl rfl, hc 3 _ _ rfl rfl⟩
theorem Built.mix {m m' : M} {r : Addr} {H q : Pln} (h : Built m (fun j zs => zs.Perm (partL (appP H q) j)) 4 m' r) : ∃ p, PAt (fun x => m.mu x = none) m' r p ∧ p.st.Perm (H.st ++ q.st) ∧ p.jo.Perm (H.jo ++ q.jo) ∧ p.ga.Perm (H.ga ++ q.ga) ∧ p.si.Perm (H.si ++ q.si) := by
  obtain ⟨h0, h1, h2, h3, z0, z1, z2, z3, nd, fr, hp, ⟨e0, p0⟩, ⟨e1, p1⟩, ⟨e2, p2⟩, ⟨e3, p3⟩⟩ := h.four
  obtain ⟨l0, rfl, q0⟩ := perm_map p0 _ rfl
  obtain ⟨l1, rfl, q1⟩ := perm_map p1 _ rfl
  obtain ⟨l2, rfl, q2⟩ := perm_map p2 _ rfl
  obtain ⟨l3, rfl, q3⟩ := perm_map p3 _ rfl
  exact ⟨⟨l0, l1, l2, l3⟩, ⟨h0, h1, h2, h3, nd, fr, hp, e0, e1, e2, e3⟩, q0, q1, q2, q3⟩
theorem Built.copy {m m' : M} {r : Addr} {p : Pln} (h : Built m (fun j zs => zs = partL p j) 4 m' r) : PAt (fun x => m.mu x = none) m' r p := by
  obtain ⟨h0, h1, h2, h3, z0, z1, z2, z3, nd, fr, hp, ⟨e0, rfl⟩, ⟨e1, rfl⟩, ⟨e2, rfl⟩, ⟨e3, rfl⟩⟩ := h.four
  exact ⟨h0, h1, h2, h3, nd, fr, hp, e0, e1, e2, e3⟩
theorem hostP_ok {a b c e g s : Str} {r1 r2 r3 : Bool} {o : Option Step} (hs : ∀ n ∈ [a, b, c, e, g, s], nameS n = true) (ho : o = none ∨ o = some (b, 0, 1)) : (hostP a b c e g s r1 r2 r3 o).Ok := by
  have ha : nameS a = true := hs a (by simp)
  have hb : nameS b = true := hs b (by simp)
  have hc : nameS c = true := hs c (by simp)
  have he : nameS e = true := hs e (by simp)
  have hg : nameS g = true := hs g (by simp)
  have hss : nameS s = true := hs s (by simp)
  have sw : ∀ (r : Bool) {x y : End}, endOk x → endOk y → joOk (revJ r (x, y)) := fun r {x y} h1 h2 => by
    cases r
    · exact ⟨h1, h2⟩
    · exact ⟨h2, h1⟩
  refine ⟨fun x hx => ?_, fun x hx => ?_, fun x hx => ?_, fun x hx => ?_, by show 4 ≤ 12; omega, by show 3 ≤ 16; omega, by show 1 ≤ 4; omega, by show 1 ≤ 10; omega⟩
  · have hx : x ∈ [(a, ("plain" : Str)), (b, "plain"), (c, "points"), (e, "plain")] := hx
    simp only [List.mem_cons, List.not_mem_nil, or_false] at hx
    have k1 : kindS "plain" = true := by decide +kernel
    have k2 : kindS "points" = true := by decide +kernel
    rcases hx with rfl | rfl | rfl | rfl
    · exact ⟨ha, k1⟩
    · exact ⟨hb, k1⟩
    · exact ⟨hc, k2⟩
    · exact ⟨he, k1⟩
  · have hx : x ∈ [revJ r1 ((a, 1), (b, 0)), revJ r2 ((b, 1), (c, 0)), revJ r3 ((c, 1), (e, 0))] := hx
    simp only [List.mem_cons, List.not_mem_nil, or_false] at hx
    rcases hx with rfl | rfl | rfl
    · exact sw r1 ⟨ha, nmo1⟩ ⟨hb, nmo0⟩
    · exact sw r2 ⟨hb, nmo1⟩ ⟨hc, nmo0⟩
    · exact sw r3 ⟨hc, nmo1⟩ ⟨he, nmo0⟩
  · have hx : x ∈ [(g, ((a, 0) : End))] := hx
    rw [List.mem_singleton.mp hx]
    exact ⟨hg, ha, nmo0⟩
  · have hx : x ∈ [(s, ((a, 1) : End), o)] := hx
    rw [List.mem_singleton.mp hx]
    refine ⟨hss, ⟨ha, nmo1⟩, fun t z => ?_⟩
    have z : o = some t := z
    rcases ho with rfl | rfl
    · cases z
    · cases z; exact ⟨hb, nmo0, nmo1⟩
theorem partL_fine {P : Pln} (hP : P.Ok) (j : Nat) : ∀ z ∈ partL P j, Fine z := fun z hz => by
  match j, hz with
  | 0, hz => exact pD_fine (w := .st ("", "")) hP z hz
  | 1, hz => exact pD_fine (w := .jo (("", 0), ("", 0))) hP z hz
  | 2, hz => exact pD_fine (w := .ga ("", ("", 0))) hP z hz
  | _ + 3, hz => exact pD_fine (w := .si ("", ("", 0), none)) hP z hz
/-- the mixture is of the form of a plan, of its size -/
theorem mix_ok {p H q : Pln} (h1 : p.st.Perm (H.st ++ q.st)) (h2 : p.jo.Perm (H.jo ++ q.jo)) (h3 : p.ga.Perm (H.ga ++ q.ga)) (h4 : p.si.Perm (H.si ++ q.si)) (hH : H.Ok) (hq : q.Ok) (n1 : (H.st ++ q.st).length ≤ 10) (n2 : (H.jo ++ q.jo).length ≤ 14) (n3 : (H.ga ++ q.ga).length ≤ 2) (n4 : (H.si ++ q.si).length ≤ 8) : Sz p 0 := by
  have l1 := h1.length_eq; have l2 := h2.length_eq; have l3 := h3.length_eq; have l4 := h4.length_eq
  refine ⟨⟨fun x hx => ?_, fun x hx => ?_, fun x hx => ?_, fun x hx => ?_, by omega, by omega, by omega, by omega⟩, by omega, by omega, by omega, by omega⟩
  · rcases List.mem_append.mp (h1.mem_iff.mp hx) with z | z
    · exact hH.st x z
    · exact hq.st x z
  · rcases List.mem_append.mp (h2.mem_iff.mp hx) with z | z
    · exact hH.jo x z
    · exact hq.jo x z
  · rcases List.mem_append.mp (h3.mem_iff.mp hx) with z | z
    · exact hH.ga x z
    · exact hq.ga x z
  · rcases List.mem_append.mp (h4.mem_iff.mp hx) with z | z
    · exact hH.si x z
    · exact hq.si x z
theorem Got.told {p : Pln} {a b c e g s : Str} {r1 r2 r3 : Bool} {o : Option Step} {us : List Str} (R : Right p a b c e g s r1 r2 r3 o) (F : Far p b e) {i : Nat} {P : Pln} {ws : WL} {us1 : List Str} (G : Got p a b c e g s (hostP a b c e g s r1 r2 r3 o) us i P ws us1) (hz : Sz p 0) {Ok : M → Prop} {m : M} {Q : DK} {h u : Addr} (hA : HostAt m h P) (hu : m.mu u = some (.lst (ws.map wrD))) (hO : Ok m) (q : ∀ m', Ext m m' → Q (.bl true) m') : spTold Ok [.ref h, .ref u] m Q :=
  ⟨h, u, P, ws, faultP P, rfl, hA, hu, ⟨(G.sz hz).ok, hO⟩, by rw [G.ws.1]; exact G.ws.2.1, G.ws.2.2, (G.due R F).1, rfl, (G.due R F).2, q⟩
end PL

namespace PL
open PySem PySem.Spec PyProof.Rows L2 GA GxR DL TM
/-! ### the turns -/
theorem turns {mr m : M} {E : DEnds} {s0 s1 s2 s3 s7 s8 s9 s13 s14 s15 s16 s17 s18 s19 : Option D} {aD u hA hp aw an pk : Addr} {a b c e g s : Str} {r1 r2 r3 : Bool} {o : Option Step} {p : Pln} {us : List Str} {ks : List Int}
    (hD : Dk mr (.ref aD)) (hH : HostAt mr hA (hostP a b c e g s r1 r2 r3 o)) (R : Right p a b c e g s r1 r2 r3 o) (hns : ∀ n ∈ [a, b, c, e, g, s], nameS n = true) (E0 : Ext mr m) (fn : mr.mu an = none) (fw : mr.mu aw = none) (nwn : aw ≠ an)
    (hP : PAt (Fr mr an aw) m hp p) (hn : m.mu an = some (.lst (us.map D.str))) (hw : m.mu aw = some (.lst [])) (hnl : us.length ≤ 40) (hpn : ∀ x ∈ p.nms, x ∈ us) (hz : Sz p 0)
    (hpk : mr.mu pk = some (.lst (ks.map D.int))) (hk2 : ks.length ≤ 2) (hks : ∀ k ∈ ks, 0 ≤ k ∧ k ≤ 5)
    (q : ∀ m' P' ws' us2 d9 d13 d14 d15 d16 d17 d18 d19, Ext mr m' → PAt (Fr mr an aw) m' hp P' → m'.mu aw = some (.lst (ws'.map wrD)) → Got p a b c e g s (hostP a b c e g s r1 r2 r3 o) us ks.length P' ws' us2 → E.nx [s0, s1, s2, s3, some (.ref aD), some (.ref u), some (.ref hA), s7, s8, d9, some (.ref hp), some (.ref aw), some (.ref an), d13, d14, d15, d16, d17, d18, d19] m') :
    ∃ P : Nat → Sl → M → Prop, P 0 [s0, s1, s2, s3, some (.ref aD), some (.ref u), some (.ref hA), s7, s8, s9, some (.ref hp), some (.ref aw), some (.ref an), s13, s14, s15, s16, s17, s18, s19] m ∧ (∀ i δ m, P i δ m → m.mu pk = some (.lst (ks.map D.int))) ∧
      (∀ i d δ m, (enumD 0 (ks.map D.int))[i]? = some d → P i δ m → gD (Tg.tup [13, 14]) d δ fun δ2 => dTurn { E with nx := P (i + 1), ct := P (i + 1), bk := E.nx } δ2 m) ∧ (∀ δ m, P (enumD 0 (ks.map D.int)).length δ m → E.nx δ m) := by
  refine ⟨fun t δ m' => ∃ (P : Pln) (ws : WL) (us1 : List Str) (d9 d13 d14 d15 d16 d17 d18 d19 : Option D), δ = [s0, s1, s2, s3, some (.ref aD), some (.ref u), some (.ref hA), s7, s8, d9, some (.ref hp), some (.ref aw), some (.ref an), d13, d14, d15, d16, d17, d18, d19] ∧ Ext mr m' ∧ PAt (Fr mr an aw) m' hp P ∧ m'.mu an = some (.lst (us1.map D.str)) ∧ m'.mu aw = some (.lst (ws.map wrD)) ∧ us1.length ≤ 40 + 2 * t ∧ (∀ x ∈ p.nms, x ∈ us1) ∧ Got p a b c e g s (hostP a b c e g s r1 r2 r3 o) us t P ws us1, ⟨p, [], us, _, _, _, _, _, _, _, _, rfl, E0, hP, hn, hw, by omega, hpn, .zero⟩, fun t δ m' ⟨_, _, _, _, _, _, _, _, _, _, _, _, hE, _⟩ => hE.old _ _ hpk, ?_, ?_⟩
  · rintro t d δ m' hd ⟨P, ws, us1, d9, d13, d14, d15, d16, d17, d18, d19, rfl, hE, hP, hn, hw, hl, hpn, G⟩
    have ht := (List.getElem?_eq_some_iff.mp hd).1
    rw [enumD_len, List.length_map] at ht
    have hx : ks[t]? = some ks[t] := List.getElem?_eq_getElem ht
    have h2 := enumD_get (n := 0) (i := t) (ds := ks.map D.int) (d := .int ks[t]) (by rw [List.getElem?_map, hx]; rfl)
    rw [h2, Nat.zero_add] at hd
    cases hd
    refine ⟨_, .inl rfl, rfl, ?_⟩
    refine turn (i := t) (κ := ks[t]) hD hH R hns hE fn fw nwn hP hn hw hl hpn G (by omega) (hks _ (List.getElem_mem ht)) hz ?_
    intro m2 P' ws' us2 e9 e15 e16 e17 e18 e19 hE2 hP2 hn2 hw2 hl2 hs2 G2
    exact ⟨P', ws', us2, _, _, _, _, _, _, _, _, rfl, hE2, hP2, hn2, hw2, hl2, fun x hx => hs2 x (hpn x hx), G2⟩
  · rintro δ m' ⟨P, ws, us1, d9, d13, d14, d15, d16, d17, d18, d19, rfl, hE, hP, hn, hw, hl, hpn, G⟩
    rw [enumD_len, List.length_map] at G
    exact q m' P ws us1 _ _ _ _ _ _ _ _ hE hP hw G
end PL
namespace PL
open PySem PySem.Spec PyProof.Rows L2 GA GxR DL TM
theorem PAt.both {F : Addr → Prop} {m : M} {h : Addr} {P : Pln} (H : PAt F m h P) : PAt (fun x => F x ∧ ∃ o, m.mu x = some o) m h P := by
  obtain ⟨h0, h1, h2, h3, nd, f, e, e0, e1, e2, e3⟩ := H
  refine ⟨h0, h1, h2, h3, nd, fun x hx => ⟨f x hx, ?_⟩, e, e0, e1, e2, e3⟩
  simp only [List.mem_cons, List.not_mem_nil, or_false] at hx
  rcases hx with rfl | rfl | rfl | rfl | rfl
  · exact ⟨_, e⟩
  · exact ⟨_, e0⟩
  · exact ⟨_, e1⟩
  · exact ⟨_, e2⟩
  · exact ⟨_, e3⟩
theorem Ext.both {a b : M} {p : Addr} {o : DO} (h : Ext a b) : Ext (a.set p o) (b.set p o) := ⟨h.gh, fun x y z => by
  by_cases hx : x = p
  · subst hx
    rw [M.set_same] at z ⊢; exact z
  · rw [M.set_ne hx] at z ⊢; exact h.old x y z⟩
end PL

namespace PR
open PySem PySem.Spec PyProof.Rows L2 GA GxR DL PL TM

section
variable {P : Program} {w : World} {K : PySem.W.Frag} {mg : Str → Option Value} {base : Heap} {tl td t8 t3 : Tok} {aK aO aE aP P1 P2 : Addr} (T : Txt K mg w tl td t8 t3 aK aO aE aP) (Ok : M → Prop) (hOk : ∀ a b : M, Ok a → b.gh = a.gh → Ok b)
include T hOk

theorem c_law {f : Addr} {fd : FuncData} (F : Fun K "law" "law" s_law f fd) (hT : ∀ m : M, Tab m P1 → Tab m P2 → Ok m) (c_law_deck : DCal P w K mg base 1 "_law_deck" (fun ds m Q => ∃ (aS : Addr) (ns : List Int), ds = [.ref aS] ∧ (∀ H, m.gh.inv H → SqL K H aS (ns.map V.int)) ∧ ns.length ≤ 63 ∧ ∀ aD aC m', Ext m m' → m.mu aD = none → m.mu aC = none → aD ≠ aC → DeckAt m' aD aC → Q (.ref aD) m')) (c_law_draw : DCal P w K mg base 1 "_law_draw" spDrawG) (c_law_host : DCal P w K mg base 5 "_law_host" spHost) (c_law_checked : DCal P w K mg base 4 "_law_checked" spChecked2) (c_law_mixed : DCal P w K mg base 3 "_law_mixed" spMixed) (c_law_named : DCal P w K mg base 3 "_law_named" spNamed) (c_law_ended : DCal P w K mg base 4 "_law_ended" spEnded) (c_law_wrong : DCal P w K mg base 4 "_law_wrong" spWrong) (c_law_is_told : DCalG P w K mg base 15 "_law_is_told" (spTold Ok)) : FnOkG P w K mg base 18 f fd ["script"] (spUp K (spLaw K P1 P2)) := by
  refine fnG F sc_law (fun ds m Q h => ?_) (fun cdv A outer s H E hr ng => ⟨_, (dss_cons (ds_asg (de_tup (da_cons (de_call c_law_deck hr (by decide) (by rfl) (da_cons (de_var 0) da_nil)) (da_cons (de_lst da_nil) da_nil))) (dg_tup rfl (dgs_cons (pg_name (i := 4) sc_law.nd rfl (by first | exact Or.inl rfl | exact Or.inr rfl)) (dgs_cons (pg_name (i := 5) sc_law.nd rfl (by first | exact Or.inl rfl | exact Or.inr rfl)) dgs_nil)))) (dss_hide (dss_cons (ds_asg (de_tup (da_cons (de_call c_law_host hr (by decide) (by rfl) (da_cons (de_var 4) (da_cons (de_var 5) da_nil))) (da_cons (de_call c_law_checked hr (by decide) (by rfl) (da_cons (de_var 4) (da_cons (de_var 5) (da_cons de_int da_nil)))) da_nil))) (dg_tup rfl (dgs_cons (pg_name (i := 6) sc_law.nd rfl (by first | exact Or.inl rfl | exact Or.inr rfl)) (dgs_cons (pg_name (i := 7) sc_law.nd rfl (by first | exact Or.inl rfl | exact Or.inr rfl)) dgs_nil))))
      (dss_cons (ds_set (i := 1) sc_law.nd rfl (by first | exact Or.inl rfl | exact Or.inr rfl) (de_tup (da_cons de_int (da_cons de_int (da_cons de_int (da_cons de_int da_nil))))))
      (dss_cons (ds_setLc (i := 2) (own := [("at", 9)]) rfl sc_law.nd rfl rfl (sw_true rfl rfl rfl (by decide +kernel)) (dpi_range (by rfl) T.range de_int) (blkOk_by (N := ["script", "most", "right", "kind", "deck", "used", "host", "plan", "other", "at", "parts", "wrong", "near", "turn", "it", "new", "part", "low", "more", "item"]) (sc := defScope s_law) (by decide +kernel)) (fun _ _ _ _ _ => (dg_name (i := 9) sc_law.nd rfl (by first | exact Or.inl rfl | exact Or.inr rfl))) (fun _ _ _ _ _ => dpts_nil) (fun _ _ _ _ _ => (de_call c_law_mixed hr (by decide) (by rfl) (da_cons (de_var 4) (da_cons (de_ix (de_var 6) (de_var 9)) (da_cons (de_sliceA (de_ix (de_var 7) (de_var 9)) dpo_none (dpo_some (de_ix (de_var 1) (de_var 9)))) da_nil))))))
      (dss_cons (ds_if (dt_not (dt_val (de_callG c_law_is_told hr ng (by decide) (by rfl) (da_cons (de_var 2) (da_cons (de_lst da_nil) da_nil))))) (dss_one (ds_ret de_bl)) dss_nil)
      (dss_cons (ds_for PassesOwn.never rfl (dpi_range (by rfl) T.range de_int) (dg_name (i := 3) sc_law.nd rfl (by first | exact Or.inl rfl | exact Or.inr rfl)) (dss_one (ds_for PassesOwn.never rfl (dpi_list (de_add (de_lst (da_cons de_int (da_cons (de_var 3) da_nil))) (de_lc (own := [("more", 18)]) rfl sc_law.nd (dpi_range (by rfl) T.range de_int) (blkOk_by (N := ["script", "most", "right", "kind", "deck", "used", "host", "plan", "other", "at", "parts", "wrong", "near", "turn", "it", "new", "part", "low", "more", "item"]) (sc := defScope s_law) (by decide +kernel)) (fun _ _ _ _ _ => (dg_name (i := 18) sc_law.nd rfl (by first | exact Or.inl rfl | exact Or.inr rfl))) (fun _ _ _ _ _ => (dpts_one (dt_w (dw_and (dt_cmp (dc_ne hr) (de_var 18) (de_var 3)) (dw_and1 (dt_cmp (dc_eq hr) (de_call c_law_draw hr (by decide) (by rfl) (da_cons (de_var 4) (da_cons de_int da_nil))) de_int)))))) (fun _ _ _ _ _ => (de_var 18))))) (dg_name (i := 8) sc_law.nd rfl (by first | exact Or.inl rfl | exact Or.inr rfl)) (dss_cons (ds_par3 rfl sc_law.nd (i := 10) (j := 11) (l := 12) rfl rfl rfl (by decide) (by decide) (by decide) rfl rfl rfl (da_cons (de_lc (own := [("part", 16)]) rfl sc_law.nd (dpi_list (de_var 2)) (blkOk_by (N := ["script", "most", "right", "kind", "deck", "used", "host", "plan", "other", "at", "parts", "wrong", "near", "turn", "it", "new", "part", "low", "more", "item"]) (sc := defScope s_law) (by decide +kernel)) (fun _ _ _ _ _ => (dg_name (i := 16) sc_law.nd rfl (by first | exact Or.inl rfl | exact Or.inr rfl))) (fun _ _ _ _ _ => dpts_nil) (fun _ _ _ _ _ => (de_bty call_list_of argl_list (by rfl) T.list (by decide +kernel) (da_cons (de_var 16) da_nil)))) (da_cons (de_lst da_nil) (da_cons (de_bty call_list_of argl_list (by rfl) T.list (by decide +kernel) (da_cons (de_var 5) da_nil)) da_nil))) (by rfl))
      (dss_cons (ds_for PassesOwn.never rfl (dpi_enumL (by rfl) T.enumerate (de_ifE (dt_cmp dc_lt (de_var 8) de_int) (de_lst (da_cons (de_var 3) (da_cons (de_var 8) da_nil))) (de_lst (da_cons (de_var 3) da_nil)))) (dg_tup rfl (dgs_cons (pg_name (i := 13) sc_law.nd rfl (by first | exact Or.inl rfl | exact Or.inr rfl)) (dgs_cons (pg_name (i := 14) sc_law.nd rfl (by first | exact Or.inl rfl | exact Or.inr rfl)) dgs_nil))) (dss_cons (ds_set (i := 15) sc_law.nd rfl (by first | exact Or.inl rfl | exact Or.inr rfl) (de_ifE (dt_cmp (dc_eq hr) (de_var 14) de_int) (de_call c_law_named hr (by decide) (by rfl) (da_cons (de_var 4) (da_cons (de_var 6) da_nil))) (de_ifE (dt_cmp (dc_eq hr) (de_var 14) de_int) (de_call c_law_ended hr (by decide) (by rfl) (da_cons (de_var 4) (da_cons (de_var 6) (da_cons (de_var 12) da_nil)))) de_non)))
      (dss_cons (ds_set (i := 15) sc_law.nd rfl (by first | exact Or.inl rfl | exact Or.inr rfl) (de_ifE (dt_cmp dc_notN (de_var 15) de_non) (de_var 15) (de_call c_law_wrong hr (by decide) (by rfl) (da_cons (de_var 4) (da_cons (de_var 14) (da_cons (de_var 13) (da_cons (de_var 6) (da_cons (de_var 12) da_nil))))))))
      (dss_cons (ds_set (i := 16) sc_law.nd rfl (by first | exact Or.inl rfl | exact Or.inr rfl) (de_ix (de_var 15) de_int))
      (dss_cons (ds_set (i := 17) sc_law.nd rfl (by first | exact Or.inl rfl | exact Or.inr rfl) (de_ifE (dt_val (de_ix (de_var 15) de_int)) (de_maxL rfl (by rfl) T.max (by decide +kernel) (da_cons (de_lc (own := [("at", 9), ("item", 19)]) rfl sc_law.nd (dpi_enumL (by rfl) T.enumerate (de_ix (de_var 10) (de_var 16))) (blkOk_by (N := ["script", "most", "right", "kind", "deck", "used", "host", "plan", "other", "at", "parts", "wrong", "near", "turn", "it", "new", "part", "low", "more", "item"]) (sc := defScope s_law) (by decide +kernel)) (fun _ _ _ _ _ => (dg_tup rfl (dgs_cons (pg_name (i := 9) sc_law.nd rfl (by first | exact Or.inl rfl | exact Or.inr rfl)) (dgs_cons (pg_name (i := 19) sc_law.nd rfl (by first | exact Or.inl rfl | exact Or.inr rfl)) dgs_nil)))) (fun _ _ _ _ _ => (dpts_one (dt_cmp (dc_inD hr) (de_var 19) (de_ix (de_var 6) (de_var 16))))) (fun _ _ _ _ _ => (de_add (de_var 9) de_int))) da_nil)) de_int))
      (dss_cons (ds_expr (de_insert (de_ix (de_var 10) (de_var 16)) (de_add (de_var 17) (de_call c_law_draw hr (by decide) (by rfl) (da_cons (de_var 4) (da_cons (de_add (de_sub (de_len (by rfl) T.len (da_cons (de_ix (de_var 10) (de_var 16)) da_nil)) (de_var 17)) de_int) da_nil)))) (de_ix (de_var 15) de_int)))
      (dss_one (ds_expr (de_append (de_var 11) (de_tup (da_cons (de_var 14) (da_cons (de_var 15) da_nil))))))))))))
      (dss_one (ds_if (dt_not (dt_val (de_callG c_law_is_told hr ng (by decide) (by rfl) (da_cons (de_var 10) (da_cons (de_var 11) da_nil))))) (dss_one (ds_ret de_bl)) dss_nil)))))))
      (dss_one (ds_ret (de_callG c_law_is_told hr ng (by decide) (by rfl) (da_cons (de_var 2) (da_cons (de_lst da_nil) da_nil)))))))))))), fun ds m Q h => ?_⟩)
  · obtain ⟨aS, ns, rfl, _⟩ := h; rfl
  · obtain ⟨aS, ns, rfl, hS, hl, hT1, hT2, q⟩ := h
    refine seqI ?_
    dsimp only [dAsg, dTup, dCons, dNil, dCall, dLst]
    refine dVar_at rfl ⟨aS, ns, rfl, hS, hl, fun aD aC m1 E1 f1 f2 _ hd => ⟨slk (by simp), fun u hu => ⟨slk (by simp), _, .inl rfl, rfl, aD, aC, ?_, fun o1 o2 ne => ?_⟩⟩⟩
    · obtain ⟨x, k, cs, e1, e2, r⟩ := hd.ex
      exact ⟨x, k, cs, (Ext.new hu).old _ _ e1, (Ext.new hu).old _ _ e2, r⟩
    have nu : u ≠ aD ∧ u ≠ aC := by
      obtain ⟨x, k, cs, e1, e2, r⟩ := hd.ex
      exact ⟨fun z => (by rw [← z, hu] at e1; cases e1), fun z => (by rw [← z, hu] at e2; cases e2)⟩
    have hD0 : Dk (PL.hide (m1.set u (.lst [])) aD aC) (.ref aD) := Dk.hide o1 o2 ne
    have hK0 : Ok (PL.hide (m1.set u (.lst [])) aD aC) := hT _ (Tab.hide (hT1.gh E1.gh) o1 o2) (Tab.hide (hT2.gh E1.gh) o1 o2)
    have hu0 : (PL.hide (m1.set u (.lst [])) aD aC).mu u = some (.lst []) := (hide_mu nu.1 nu.2).trans M.set_same
    generalize PL.hide (m1.set u (.lst [])) aD aC = m2 at hD0 hK0 hu0 ⊢
    refine seqI ?_
    dsimp only [dAsg, dTup, dCons, dNil, dCall, dC]
    refine dVar_at rfl (dVar_at rfl ⟨.ref aD, u, [], rfl, hD0, hu0, by simp, fun hA m3 a b c e g s r1 r2 r3 o C3 hH hnsf hHA hu3 => dVar_at rfl (dVar_at rfl ⟨.ref aD, u, [] ++ [a, b, c, e, g, s], 5, rfl, hD0.ext C3.gh, hu3, by simp, by decide, fun p0 m4 hp0 hc0 hst0 hnm0 C4 hu4 => ⟨slk (by simp), _, .inl rfl, rfl, ?_⟩⟩)⟩)
    have hHA4 := host_chg hHA hu3 C4
    have g4 : m4.gh = m2.gh := C4.gh.trans C3.gh
    have hO4 : Ok m4 := hOk _ _ hK0 g4
    have hD4 : Dk m4 (.ref aD) := hD0.ext g4
    have hns : ∀ n ∈ [a, b, c, e, g, s], nameS n = true := fun n h => (hnsf n h).1
    refine seqI ?_
    dsimp only [dSet, dTup, dCons, dNil, dC]
    refine ⟨slk (by simp), ?_⟩
    refine seqI ?_
    dsimp only [dSet]
    obtain ⟨h0, h1, h2, h3, hnd, x, x0, x1, x2, x3⟩ := hHA4.ex
    have hHok : (hostP a b c e g s r1 r2 r3 o).Ok := hostP_ok hns hH.ov
    have b1 := hp0.n1; have b2 := hp0.n2; have b3 := hp0.n3; have b4 := hp0.n4
    have ht3 : (p0.ga.take 1).Sublist p0.ga := List.take_sublist _ _
    have ht4 : (p0.si.take 6).Sublist p0.si := List.take_sublist _ _
    have hq : Pln.Ok ⟨p0.st, p0.jo, p0.ga.take 1, p0.si.take 6⟩ := hp0.sub (List.Sublist.refl _) (List.Sublist.refl _) ht3 ht4
    have hqc : Chk ⟨p0.st, p0.jo, p0.ga.take 1, p0.si.take 6⟩ := hc0.sub ht3 ht4
    have hjo := jo_le hp0 hc0 hst0
    have hqn : ∀ x ∈ Pln.nms ⟨p0.st, p0.jo, p0.ga.take 1, p0.si.take 6⟩, x ∈ p0.nms := fun x hx => ((((List.Sublist.refl _).append (ht3.map _)).append (ht4.map _)).subset hx)
    have t0 : (p0.st.map strD).take 5 = p0.st.map strD := List.take_of_length_le (by rw [List.length_map]; exact hst0)
    have t1 : (p0.jo.map joD).take 10 = p0.jo.map joD := List.take_of_length_le (by rw [List.length_map]; exact hjo)
    have t2 : (p0.ga.map gaD).take 1 = (p0.ga.take 1).map gaD := (List.map_take ..).symm
    have t3 : (p0.si.map siD).take 6 = (p0.si.take 6).map siD := (List.map_take ..).symm
    have lq3 : (p0.ga.take 1).length ≤ 1 := by rw [List.length_take]; omega
    have lq4 : (p0.si.take 6).length ≤ 6 := by rw [List.length_take]; omega
    refine dLC_built (xs := rangeD (4 : Int).toNat) (fun j zs => zs.Perm (partL (appP (hostP a b c e g s r1 r2 r3 o) ⟨p0.st, p0.jo, p0.ga.take 1, p0.si.take 6⟩) j)) (iR_w (fun R hR => hR) (by decide) (by decide)) (by rw [rangeD_len]; decide) (fun i d hi m' hE R Rn hy => ?_) (fun rA m5 hE5 hB => ?_)
    · have i4 : i < 4 := by
        have := (List.getElem?_eq_some_iff.mp hi).1
        rw [rangeD_len] at this; exact this
      rw [rangeD_get (by exact i4)] at hi
      cases hi
      obtain ⟨ai, A, B, k, r1', r2', r3', r4', r5', r6', r7'⟩ : ∃ (ai : Addr) (A B : List D) (k : Nat), ([.ref h0, .ref h1, .ref h2, .ref h3] : List D)[i]? = some (.ref ai) ∧ m4.mu ai = some (.lst A) ∧ ([.tup (p0.st.map strD), .tup (p0.jo.map joD), .tup (p0.ga.map gaD), .tup (p0.si.map siD)] : List D)[i]? = some (.tup B) ∧ ([.int 5, .int 10, .int 1, .int 6] : List D)[i]? = some (.int (k : Int)) ∧ A = partL (hostP a b c e g s r1 r2 r3 o) i ∧ B.take k = partL ⟨p0.st, p0.jo, p0.ga.take 1, p0.si.take 6⟩ i ∧ (A ++ B.take k).length ≤ 100 := by
        have : i = 0 ∨ i = 1 ∨ i = 2 ∨ i = 3 := by omega
        rcases this with rfl | rfl | rfl | rfl
        · exact ⟨h0, _, _, 5, rfl, x0, rfl, rfl, rfl, t0, by rw [t0, List.length_append, List.length_map, List.length_map]; show 4 + _ ≤ 100; omega⟩
        · exact ⟨h1, _, _, 10, rfl, x1, rfl, rfl, rfl, t1, by rw [t1, List.length_append, List.length_map, List.length_map]; show 3 + _ ≤ 100; omega⟩
        · exact ⟨h2, _, _, 1, rfl, x2, rfl, rfl, rfl, t2, by rw [t2, List.length_append, List.length_map, List.length_map]; show 1 + _ ≤ 100; omega⟩
        · exact ⟨h3, _, _, 6, rfl, x3, rfl, rfl, rfl, t3, by rw [t3, List.length_append, List.length_map, List.length_map]; show 1 + _ ≤ 100; omega⟩
      dsimp only [dRet, dSeq, dNext, dIfS, dSet, dExpr, dAsg, dPar, dPar3, gD, dOp, dUn, dArgs, dCons, dNil, dC, dB, dNot, dCall, dMeth, dMeth0, dIf, dLst, dTup, dSl, dNoPart, dPart, dM1, dOr, dAnd, dAndV, dOrV, dDGet, dSlA, dGet1]
      refine yesT (dVar_at rfl (dVar_at rfl (dVar_at rfl (ixL (hE.old _ _ x) r1' (dVar_at rfl (dVar_at rfl (ixTup r3' (dVar_at rfl (dVar_at rfl (ixTup r4' ⟨k, rfl, slT_take (k := k) ?_⟩))))))))))
      refine ⟨.ref aD, .ref ai, .tup (B.take k), A, B.take k, rfl, hD4.ext hE.gh, .inr (.inr ⟨ai, rfl, hE.old _ _ r2'⟩), .inl rfl, fun z hz => ?_, r7', fun an m6 zs fr E6 hz hp => hy an m6 zs E6 fr hz ?_⟩
      · rcases List.mem_append.mp hz with hz | hz
        · rw [r5'] at hz; exact partL_fine hHok i z hz
        · rw [r6'] at hz; exact partL_fine hq i z hz
      · rw [r5', r6'] at hp
        refine hp.trans ?_
        have : i = 0 ∨ i = 1 ∨ i = 2 ∨ i = 3 := by omega
        rcases this with rfl | rfl | rfl | rfl <;> (show List.Perm (List.map _ _ ++ List.map _ _) (List.map _ (_ ++ _)); rw [List.map_append])
    · obtain ⟨p, hPA, q0, q1, q2, q3⟩ := hB.mix
      obtain ⟨R, F⟩ := mixed hH hqc (fun n hn z => hnm0 n (hqn n z) (by simpa using hn)) q0 q1 q2 q3
      have hz : Sz p 0 := mix_ok q0 q1 q2 q3 hHok hq (by rw [List.length_append]; show 4 + p0.st.length ≤ 10; omega) (by rw [List.length_append]; show 3 + p0.jo.length ≤ 14; omega) (by rw [List.length_append]; show 1 + (p0.ga.take 1).length ≤ 2; omega) (by rw [List.length_append]; show 1 + (p0.si.take 6).length ≤ 8; omega)
      have hpn : ∀ x ∈ p.nms, x ∈ [] ++ [a, b, c, e, g, s] ++ p0.nms := fun x hx => by
        unfold Pln.nms at hx
        have hst : ∀ {z : Str × Str}, z ∈ p.st → z.1 ∈ [] ++ [a, b, c, e, g, s] ++ p0.nms := fun {z} hz' => by
          rcases List.mem_append.mp (q0.mem_iff.mp hz') with y | y
          · refine List.mem_append_left _ ?_
            have y : z ∈ [(a, ("plain" : Str)), (b, "plain"), (c, "points"), (e, "plain")] := y
            simp only [List.mem_cons, List.not_mem_nil, or_false] at y
            rcases y with rfl | rfl | rfl | rfl <;> simp
          · exact List.mem_append_right _ (hqn _ (by unfold Pln.nms; exact List.mem_append_left _ (List.mem_append_left _ (List.mem_map.mpr ⟨z, y, rfl⟩))))
        rcases List.mem_append.mp hx with hx | hx
        · rcases List.mem_append.mp hx with hx | hx
          · obtain ⟨z, hz', rfl⟩ := List.mem_map.mp hx
            exact hst hz'
          · obtain ⟨z, hz', rfl⟩ := List.mem_map.mp hx
            rcases List.mem_append.mp (q2.mem_iff.mp hz') with y | y
            · have y : z ∈ [(g, ((a, 0) : PL.End))] := y
              rw [List.mem_singleton.mp y]
              exact List.mem_append_left _ (by simp)
            · exact List.mem_append_right _ (hqn _ (by unfold Pln.nms; exact List.mem_append_left _ (List.mem_append_right _ (List.mem_map.mpr ⟨z, y, rfl⟩))))
        · obtain ⟨z, hz', rfl⟩ := List.mem_map.mp hx
          rcases List.mem_append.mp (q3.mem_iff.mp hz') with y | y
          · have y : z ∈ [(s, ((a, 1) : PL.End), o)] := y
            rw [List.mem_singleton.mp y]
            exact List.mem_append_left _ (by simp)
          · exact List.mem_append_right _ (hqn _ (by unfold Pln.nms; exact List.mem_append_right _ (List.mem_map.mpr ⟨z, y, rfl⟩)))
      have hul : ([] ++ [a, b, c, e, g, s] ++ p0.nms).length ≤ 40 := by
        unfold Pln.nms
        simp only [List.length_append, List.length_map, List.length_cons, List.length_nil]
        omega
      have HR := hPA.host
      have hD5 := hD4.ext hE5.gh
      have hO5 := hOk _ _ hO4 hE5.gh
      have hH5 := hHA4.ext hE5
      have hu5 := hE5.old _ _ hu4
      generalize [] ++ [a, b, c, e, g, s] ++ p0.nms = us at hpn hul hu5
      clear hnm0 hqn hu4 hB hPA q0 q1 q2 q3 t0 t1 t2 t3 x x0 x1 x2 x3 hu3 hHA hHA4 hnsf hu0
      have G0 : Got p a b c e g s (hostP a b c e g s r1 r2 r3 o) us 0 p [] us := .zero
      refine seqI ?_
      dsimp only [dIfS, dNot, dB, dCall, dCons, dNil, dLst, dRet, dC, dNext]
      refine dVar_at rfl ⟨slk (by simp), fun pe hpe => G0.told R F hz (HR.ext (Ext.new hpe)) M.set_same (hOk _ _ hO5 rfl) fun m6 E6 => ⟨true, rfl, ifF rfl ?_⟩⟩
      have E06 : Ext m5 m6 := (Ext.new hpe).trans E6
      refine seqI (dFor_R (n := 6) (fun R hR => hR) (by omega) (fun i δ m' => ∃ d3 d8 d9 d10 d11 d12 d13 d14 d15 d16 d17 d18 d19 : Option D, δ = [some (.ref aS), some (.tup [.int 5, .int 10, .int 1, .int 6]), some (.ref rA), d3, some (.ref aD), some (.ref u), some (.ref hA), some p0.d, d8, d9, d10, d11, d12, d13, d14, d15, d16, d17, d18, d19] ∧ Ext m5 m') ⟨_, _, _, _, _, _, _, _, _, _, _, _, _, rfl, E06⟩ (fun i δ m7 hi => ?_) ?_)
      · rintro ⟨d3, d8, d9, d10, d11, d12, d13, d14, d15, d16, d17, d18, d19, rfl, E7⟩
        dsimp only [gD]
        dsimp only [dFor, iL, dOp, dLst, dCons, dNil, dC]
        refine dVar_at rfl ⟨slk (by simp), fun pa hpa => ?_⟩
        have E7a := E7.trans (Ext.new (o := .lst [.int 6, .int (i : Int)]) hpa)
        have ha7 : (m7.set pa (.lst [.int 6, .int (i : Int)])).mu pa = some (.lst [.int 6, .int (i : Int)]) := M.set_same
        generalize m7.set pa (.lst [.int 6, .int (i : Int)]) = m7a at E7a ha7 ⊢
        refine dLC_gen (I := fun _ => True) (xs := rangeD (6 : Int).toNat) (Rel := fun d oo => ∃ j : Int, d = .int j ∧ 0 ≤ j ∧ j ≤ 5 ∧ (oo = some (.int j) ∨ oo = none)) trivial (fun _ _ _ _ => trivial) (iR_w (fun R hR => hR) (by decide) (by decide)) (slk (by rw [rangeD_len]; decide)) (fun d hd m' hE _ Ry Rn hy hno => ?_) (fun pb m8 ys hpb hE8 _ hm8 ho => ?_)
        · obtain ⟨j, hj, rfl⟩ : ∃ j : Nat, j < 6 ∧ d = .int (j : Int) := by
            obtain ⟨j, hj, e⟩ := List.getElem_of_mem hd
            have hj6 : j < 6 := by rw [rangeD_len] at hj; exact hj
            have h1 := List.getElem?_eq_getElem hj
            rw [rangeD_get (show j < (6 : Int).toNat from hj6)] at h1
            injection h1 with h1
            exact ⟨j, hj6, by rw [← e, ← h1]⟩
          dsimp only [dRet, dSeq, dNext, dIfS, dSet, dExpr, dAsg, dPar, dPar3, gD, dOp, dUn, dArgs, dCons, dNil, dC, dB, dNot, dCall, dMeth, dMeth0, dIf, dLst, dTup, dSl, dNoPart, dPart, dM1, dOr, dAnd, dAndV, dOrV, dDGet, dSlA, dGet1]
          have yes : ∀ m4, Ext m' m4 → Ry (.int (j : Int)) m4 := fun m4 E4 => hy _ _ ⟨j, rfl, by omega, by omega, .inl rfl⟩ E4
          have no : ∀ m4, Ext m' m4 → Rn m4 := fun m4 E4 => hno _ ⟨j, rfl, by omega, by omega, .inr rfl⟩ E4
          refine dVar_at rfl (dVar_at rfl (neI ⟨_, rfl, iff_T (fun _ => ?_) (fun _ => ifF rfl (no _ (Ext.refl _)))⟩))
          exact dVar_at rfl (drw (hD5.ext (E7a.trans hE).gh) (by decide) (by decide) fun r _ _ => eqI ⟨_, rfl, iff_T (fun _ => dVar_at rfl (yes _ (Ext.refl _))) (fun _ => no _ (Ext.refl _))⟩)
        · have hys : ∀ y ∈ ys, ∃ j : Int, y = .int j ∧ 0 ≤ j ∧ j ≤ 6 := ho.all fun d _ y ⟨j, e1, e2, e3, e4⟩ => by
            rcases e4 with e4 | e4
            · cases e4; exact ⟨j, rfl, e2, by omega⟩
            · cases e4
          have hyl : ys.length ≤ 6 := by
            have := ho.len
            rw [rangeD_len] at this; exact this
          refine ⟨[.int 6, .int (i : Int)], ys, hE8.old _ _ ha7, hm8, slk (by simp only [List.length_cons, List.length_nil]; omega), fun pc hpc => ?_⟩
          have hds : ∀ d ∈ [.int 6, .int (i : Int)] ++ ys, ∃ j : Int, d = .int j ∧ 0 ≤ j ∧ j ≤ 6 := fun d hd => by
            rcases List.mem_append.mp hd with hd | hd
            · simp only [List.mem_cons, List.not_mem_nil, or_false] at hd
              rcases hd with rfl | rfl
              · exact ⟨6, rfl, by omega, by omega⟩
              · exact ⟨i, rfl, by omega, by omega⟩
            · exact hys d hd
          have E9 : Ext m5 (m8.set pc (.lst ([.int 6, .int (i : Int)] ++ ys))) := (E7a.trans hE8).trans (Ext.new hpc)
          have hc9 : (m8.set pc (.lst ([.int 6, .int (i : Int)] ++ ys))).mu pc = some (.lst ([.int 6, .int (i : Int)] ++ ys)) := M.set_same
          generalize [.int 6, .int (i : Int)] ++ ys = ds at hds E9 hc9 ⊢
          generalize m8.set pc (.lst ds) = m9 at E9 hc9 ⊢
          refine ⟨pc, ds, rfl, hc9, fun j δ m' => ∃ d8 d9 d10 d11 d12 d13 d14 d15 d16 d17 d18 d19 : Option D, δ = [some (.ref aS), some (.tup [.int 5, .int 10, .int 1, .int 6]), some (.ref rA), some (.int (i : Int)), some (.ref aD), some (.ref u), some (.ref hA), some p0.d, d8, d9, d10, d11, d12, d13, d14, d15, d16, d17, d18, d19] ∧ Ext m9 m', ⟨_, _, _, _, _, _, _, _, _, _, _, _, rfl, Ext.refl _⟩, fun j δ m' ⟨_, _, _, _, _, _, _, _, _, _, _, _, _, h⟩ => h.old _ _ hc9, ?_, ?_⟩
          · rintro j d δ m10 hd ⟨e8, e9, e10, e11, e12, e13, e14, e15, e16, e17, e18, e19, rfl, E10⟩
            obtain ⟨κ, rfl, k0, k6⟩ := hds d (List.mem_of_getElem? hd)
            have EA := E9.trans E10
            dsimp only [gD]
            refine seqI ?_
            dsimp only [dPar3, dCons, dNil, dLst, dArgs]
            obtain ⟨ra, rb, rc, rd, rnd, y, y0, y1, y2, y3⟩ := (HR.ext EA).ex
            refine dLC_built (xs := [.ref ra, .ref rb, .ref rc, .ref rd]) (fun j zs => zs = partL p j) (iL_w (fun R hR => dVar_at rfl hR) y) (by simp) (fun i' d hi' m' hE R' Rn hy => ?_) (fun hp m11 hE11 hB => ?_)
            · obtain ⟨ai, zs, rfl, z1, z2⟩ : ∃ (ai : Addr) (zs : List D), d = .ref ai ∧ m10.mu ai = some (.lst zs) ∧ zs = partL p i' := by
                have hlt : i' < 4 := (List.getElem?_eq_some_iff.mp hi').1
                have : i' = 0 ∨ i' = 1 ∨ i' = 2 ∨ i' = 3 := by omega
                rcases this with rfl | rfl | rfl | rfl <;> cases hi'
                · exact ⟨_, _, rfl, y0, rfl⟩
                · exact ⟨_, _, rfl, y1, rfl⟩
                · exact ⟨_, _, rfl, y2, rfl⟩
                · exact ⟨_, _, rfl, y3, rfl⟩
              dsimp only [dRet, dSeq, dNext, dIfS, dSet, dExpr, dAsg, dPar, dPar3, gD, dOp, dUn, dArgs, dCons, dNil, dC, dB, dNot, dCall, dMeth, dMeth0, dIf, dLst, dTup, dSl, dNoPart, dPart, dM1, dOr, dAnd, dAndV, dOrV, dDGet, dSlA, dGet1]
              exact yesT (dVar_at rfl ⟨.ref ai, zs, rfl, .inr (.inr ⟨ai, rfl, hE.old _ _ z1⟩), fun pn hpn => hy pn _ zs (Ext.new hpn) hpn M.set_same z2⟩)
            · have hPC := hB.copy.both
              refine ⟨slk (by simp), fun pw hpw => dVar_at rfl ⟨.ref u, us.map D.str, rfl, .inr (.inr ⟨u, rfl, ((EA.trans hE11).trans (Ext.new hpw)).old _ _ hu5⟩), fun pn hpn0 => ⟨_, _, _, rfl, ?_⟩⟩⟩
              have fw : m10.mu pw = none := hE11.fr hpw
              have hpn1 : m11.mu pn = none := (Ext.new hpw).fr hpn0
              have fn : m10.mu pn = none := hE11.fr hpn1
              have nwn : pw ≠ pn := neOf M.set_same hpn0
              have E1112 : Ext m11 ((m11.set pw (.lst [])).set pn (.lst (us.map D.str))) := (Ext.new hpw).set hpn1
              have E1012 := hE11.trans E1112
              have hn12 : ((m11.set pw (.lst [])).set pn (.lst (us.map D.str))).mu pn = some (.lst (us.map D.str)) := M.set_same
              have hw12 : ((m11.set pw (.lst [])).set pn (.lst (us.map D.str))).mu pw = some (.lst []) := (M.set_ne nwn).trans M.set_same
              have hP12 : PAt (fun x => m10.mu x = none ∧ x ≠ pn ∧ x ≠ pw ∧ ∃ o, ((m11.set pw (.lst [])).set pn (.lst (us.map D.str))).mu x = some o) ((m11.set pw (.lst [])).set pn (.lst (us.map D.str))) hp p := hPC.keep (fun x o _ z => E1112.old x o z) fun x ⟨h, o, z⟩ => ⟨h, (fun zz => by subst zz; rw [hpn1] at z; cases z), (fun zz => by subst zz; rw [hpw] at z; cases z), o, E1112.old x o z⟩
              generalize (m11.set pw (.lst [])).set pn (.lst (us.map D.str)) = m12 at E1112 E1012 hn12 hw12 hP12 ⊢
              refine seqI ?_
              dsimp only [dFor, iEnL, dIf, dB, dOp, dC, dLst, dCons, dNil]
              refine dVar_at rfl (bI ⟨_, rfl, iff_T (fun z => dVar_at rfl (dVar_at rfl ⟨slk (by simp), fun pk hpk => ⟨pk, [(i : Int), κ].map D.int, rfl, M.set_same, ?_⟩⟩)) (fun z => dVar_at rfl ⟨slk (by simp), fun pk hpk => ⟨pk, [(i : Int)].map D.int, rfl, M.set_same, ?_⟩⟩)⟩)
              · have fpk : m10.mu pk = none := E1012.fr hpk
                have npn : pn ≠ pk := neOf hn12 hpk
                have npw : pw ≠ pk := neOf hw12 hpk
                refine turns (u := u) (E := ⟨_, Q, fun _ _ => True, fun _ _ => True⟩) (mr := m10.set pk (.lst ([(i : Int), κ].map D.int))) (ks := [(i : Int), κ]) (us := us) (hD5.ext EA.gh) ((hH5.ext EA).ext (Ext.new fpk)) R hns E1012.both ((M.set_ne npn).trans fn) ((M.set_ne npw).trans fw) nwn (hP12.keep (fun x o h z => (M.set_ne (fun zz => by subst zz; rw [hpk] at z; cases z)).trans z) fun x h => ⟨(M.set_ne (fun zz => by subst zz; obtain ⟨_, _, _, o', z⟩ := h; rw [hpk] at z; cases z)).trans h.1, h.2.1, h.2.2.1⟩) ((M.set_ne npn).trans hn12) ((M.set_ne npw).trans hw12) hul hpn hz M.set_same (by simp) (fun k hk => ?_) ?_
                · simp only [List.mem_cons, List.not_mem_nil, or_false] at hk
                  have zz : κ < 6 := of_decide_eq_true z
                  rcases hk with rfl | rfl <;> omega
                · intro m13 P' ws' us2 f9 f13 f14 f15 f16 f17 f18 f19 E13 hP13 hw13 G13
                  have E1013 : Ext m10 m13 := (Ext.new fpk).trans E13
                  dsimp only [dIfS, dNot, dB, dCall, dCons, dNil, dRet, dC, dNext]
                  refine ⟨_, rfl, dVar_at rfl ?_⟩
                  exact (G13.told R F hz hP13.host hw13 (hOk _ _ hO5 (EA.trans E1013).gh) fun m14 E14 => ⟨true, rfl, ifF rfl ⟨_, _, _, _, _, _, _, _, _, _, _, _, rfl, E10.trans (E1013.trans E14)⟩⟩)
              · have fpk : m10.mu pk = none := E1012.fr hpk
                have npn : pn ≠ pk := neOf hn12 hpk
                have npw : pw ≠ pk := neOf hw12 hpk
                refine turns (u := u) (E := ⟨_, Q, fun _ _ => True, fun _ _ => True⟩) (mr := m10.set pk (.lst ([(i : Int)].map D.int))) (ks := [(i : Int)]) (us := us) (hD5.ext EA.gh) ((hH5.ext EA).ext (Ext.new fpk)) R hns E1012.both ((M.set_ne npn).trans fn) ((M.set_ne npw).trans fw) nwn (hP12.keep (fun x o h z => (M.set_ne (fun zz => by subst zz; rw [hpk] at z; cases z)).trans z) fun x h => ⟨(M.set_ne (fun zz => by subst zz; obtain ⟨_, _, _, o', z⟩ := h; rw [hpk] at z; cases z)).trans h.1, h.2.1, h.2.2.1⟩) ((M.set_ne npn).trans hn12) ((M.set_ne npw).trans hw12) hul hpn hz M.set_same (by simp) (fun k hk => ?_) ?_
                · simp only [List.mem_cons, List.not_mem_nil, or_false] at hk
                  omega
                · intro m13 P' ws' us2 f9 f13 f14 f15 f16 f17 f18 f19 E13 hP13 hw13 G13
                  have E1013 : Ext m10 m13 := (Ext.new fpk).trans E13
                  dsimp only [dIfS, dNot, dB, dCall, dCons, dNil, dRet, dC, dNext]
                  refine ⟨_, rfl, dVar_at rfl ?_⟩
                  exact (G13.told R F hz hP13.host hw13 (hOk _ _ hO5 (EA.trans E1013).gh) fun m14 E14 => ⟨true, rfl, ifF rfl ⟨_, _, _, _, _, _, _, _, _, _, _, _, rfl, E10.trans (E1013.trans E14)⟩⟩)
          · rintro δ m' ⟨e8, e9, e10, e11, e12, e13, e14, e15, e16, e17, e18, e19, rfl, E10⟩
            exact ⟨_, _, _, _, _, _, _, _, _, _, _, _, _, rfl, E9.trans E10⟩
      · rintro δ m7 ⟨d3, d8, d9, d10, d11, d12, d13, d14, d15, d16, d17, d18, d19, rfl, E7⟩
        dsimp only [dRet, dCall, dCons, dNil, dLst]
        exact dVar_at rfl ⟨slk (by simp), fun pe hpe => G0.told R F hz (HR.ext (E7.trans (Ext.new hpe))) M.set_same (hOk _ _ hO5 E7.gh) fun m8 E8 => q m8⟩
end
end PR

namespace PR
open PySem PySem.Spec PyProof.Rows L2 GA GxR DL PL
theorem FnOkG_imp {P : Program} {w : World} {K : PySem.W.Frag} {mg : Str → Option Value} {base : Heap} {k : Nat} {f : Addr} {fd : FuncData} {ps : List Str} {sp sp' : Sp} (F : FnOkG P w K mg base k f fd ps sp) (i : ∀ vs H Q E, sp' vs H Q E → sp vs H Q E) : FnOkG P w K mg base k f fd ps sp' :=
  ⟨fun vs H Q E h => F.len vs H Q E (i vs H Q E h), fun A outer s H args us vs Q E hr ng env b v h => F.run A outer s H args us vs Q E hr ng env b v (i vs H Q E h)⟩
theorem factsL {l : PySem.W.OpenLaw} {w : World} {K : PySem.W.Frag} {h : Heap} {mg : Str → Option Value} {f : Addr} (X : K.In h) (G : h.Ns mainGlobals mg) (hfa : mg ("law" : Str) = some (.ref f)) (c : He.SaysX faL fnL tsL tfL exL w h K) : DL.LawAtG l w K 18 63 "script" mg f h := by
  have D := c.t.d
  obtain ⟨fd_is_integer, E_is_integer⟩ := D.def_ 0 (d := dd "is_integer" s_is_integer) rfl
  have F_is_integer : Fun K "is_integer" "is_integer" s_is_integer (He.fAd K ("is_integer", none)) fd_is_integer := He5.fun_of E_is_integer
  have m_is_integer : mg "is_integer" = some (.ref (He.fAd K ("is_integer", none))) := He.glo_ok X G (D.fact 0 (f := .glo "is_integer") rfl)
  obtain ⟨fd_is_tuple_of, E_is_tuple_of⟩ := D.def_ 1 (d := dd "is_tuple_of" s_is_tuple_of) rfl
  have F_is_tuple_of : Fun K "is_tuple_of" "is_tuple_of" s_is_tuple_of (He.fAd K ("is_tuple_of", none)) fd_is_tuple_of := He5.fun_of E_is_tuple_of
  have m_is_tuple_of : mg "is_tuple_of" = some (.ref (He.fAd K ("is_tuple_of", none))) := He.glo_ok X G (D.fact 1 (f := .glo "is_tuple_of") rfl)
  obtain ⟨fd_are_items, E_are_items⟩ := D.def_ 2 (d := dd "are_items" s_are_items) rfl
  have F_are_items : FunC K "are_items" s_are_items (He.fAd K ("are_items", none)) fd_are_items (He.codeOf K ("are_items", none)) := funC_of E_are_items
  have m_are_items : mg "are_items" = some (.ref (He.fAd K ("are_items", none))) := He.glo_ok X G (D.fact 2 (f := .glo "are_items") rfl)
  obtain ⟨fd_is_name, E_is_name⟩ := D.def_ 3 (d := dd "is_name" s_is_name) rfl
  have F_is_name : FunC K "is_name" s_is_name (He.fAd K ("is_name", none)) fd_is_name (He.codeOf K ("is_name", none)) := funC_of E_is_name
  have m_is_name : mg "is_name" = some (.ref (He.fAd K ("is_name", none))) := He.glo_ok X G (D.fact 3 (f := .glo "is_name") rfl)
  obtain ⟨fd_is_end_number, E_is_end_number⟩ := D.def_ 4 (d := dd "is_end_number" s_is_end_number) rfl
  have F_is_end_number : Fun K "is_end_number" "is_end_number" s_is_end_number (He.fAd K ("is_end_number", none)) fd_is_end_number := He5.fun_of E_is_end_number
  have m_is_end_number : mg "is_end_number" = some (.ref (He.fAd K ("is_end_number", none))) := He.glo_ok X G (D.fact 4 (f := .glo "is_end_number") rfl)
  obtain ⟨fd_is_end, E_is_end⟩ := D.def_ 5 (d := dd "is_end" s_is_end) rfl
  have F_is_end : Fun K "is_end" "is_end" s_is_end (He.fAd K ("is_end", none)) fd_is_end := He5.fun_of E_is_end
  have m_is_end : mg "is_end" = some (.ref (He.fAd K ("is_end", none))) := He.glo_ok X G (D.fact 5 (f := .glo "is_end") rfl)
  obtain ⟨fd_is_step, E_is_step⟩ := D.def_ 6 (d := dd "is_step" s_is_step) rfl
  have F_is_step : Fun K "is_step" "is_step" s_is_step (He.fAd K ("is_step", none)) fd_is_step := He5.fun_of E_is_step
  have m_is_step : mg "is_step" = some (.ref (He.fAd K ("is_step", none))) := He.glo_ok X G (D.fact 6 (f := .glo "is_step") rfl)
  obtain ⟨fd_is_stretch, E_is_stretch⟩ := D.def_ 7 (d := dd "is_stretch" s_is_stretch) rfl
  have F_is_stretch : Fun K "is_stretch" "is_stretch" s_is_stretch (He.fAd K ("is_stretch", none)) fd_is_stretch := He5.fun_of E_is_stretch
  have m_is_stretch : mg "is_stretch" = some (.ref (He.fAd K ("is_stretch", none))) := He.glo_ok X G (D.fact 7 (f := .glo "is_stretch") rfl)
  obtain ⟨fd_is_joint, E_is_joint⟩ := D.def_ 8 (d := dd "is_joint" s_is_joint) rfl
  have F_is_joint : Fun K "is_joint" "is_joint" s_is_joint (He.fAd K ("is_joint", none)) fd_is_joint := He5.fun_of E_is_joint
  have m_is_joint : mg "is_joint" = some (.ref (He.fAd K ("is_joint", none))) := He.glo_ok X G (D.fact 8 (f := .glo "is_joint") rfl)
  obtain ⟨fd_is_gate, E_is_gate⟩ := D.def_ 9 (d := dd "is_gate" s_is_gate) rfl
  have F_is_gate : Fun K "is_gate" "is_gate" s_is_gate (He.fAd K ("is_gate", none)) fd_is_gate := He5.fun_of E_is_gate
  have m_is_gate : mg "is_gate" = some (.ref (He.fAd K ("is_gate", none))) := He.glo_ok X G (D.fact 9 (f := .glo "is_gate") rfl)
  obtain ⟨fd_is_overlap, E_is_overlap⟩ := D.def_ 10 (d := dd "is_overlap" s_is_overlap) rfl
  have F_is_overlap : Fun K "is_overlap" "is_overlap" s_is_overlap (He.fAd K ("is_overlap", none)) fd_is_overlap := He5.fun_of E_is_overlap
  have m_is_overlap : mg "is_overlap" = some (.ref (He.fAd K ("is_overlap", none))) := He.glo_ok X G (D.fact 10 (f := .glo "is_overlap") rfl)
  obtain ⟨fd_is_signal, E_is_signal⟩ := D.def_ 11 (d := dd "is_signal" s_is_signal) rfl
  have F_is_signal : Fun K "is_signal" "is_signal" s_is_signal (He.fAd K ("is_signal", none)) fd_is_signal := He5.fun_of E_is_signal
  have m_is_signal : mg "is_signal" = some (.ref (He.fAd K ("is_signal", none))) := He.glo_ok X G (D.fact 11 (f := .glo "is_signal") rfl)
  obtain ⟨fd_is_plan, E_is_plan⟩ := D.def_ 12 (d := dd "is_plan" s_is_plan) rfl
  have F_is_plan : Fun K "is_plan" "is_plan" s_is_plan (He.fAd K ("is_plan", none)) fd_is_plan := He5.fun_of E_is_plan
  have m_is_plan : mg "is_plan" = some (.ref (He.fAd K ("is_plan", none))) := He.glo_ok X G (D.fact 12 (f := .glo "is_plan") rfl)
  obtain ⟨fd_ways_of, E_ways_of⟩ := D.def_ 13 (d := dd "ways_of" s_ways_of) rfl
  have F_ways_of : Fun K "ways_of" "ways_of" s_ways_of (He.fAd K ("ways_of", none)) fd_ways_of := He5.fun_of E_ways_of
  have m_ways_of : mg "ways_of" = some (.ref (He.fAd K ("ways_of", none))) := He.glo_ok X G (D.fact 13 (f := .glo "ways_of") rfl)
  obtain ⟨fd_kinds_of, E_kinds_of⟩ := D.def_ 14 (d := dd "kinds_of" s_kinds_of) rfl
  have F_kinds_of : Fun K "kinds_of" "kinds_of" s_kinds_of (He.fAd K ("kinds_of", none)) fd_kinds_of := He5.fun_of E_kinds_of
  have m_kinds_of : mg "kinds_of" = some (.ref (He.fAd K ("kinds_of", none))) := He.glo_ok X G (D.fact 14 (f := .glo "kinds_of") rfl)
  obtain ⟨fd_partners_of, E_partners_of⟩ := D.def_ 15 (d := dd "partners_of" s_partners_of) rfl
  have F_partners_of : Fun K "partners_of" "partners_of" s_partners_of (He.fAd K ("partners_of", none)) fd_partners_of := He5.fun_of E_partners_of
  have m_partners_of : mg "partners_of" = some (.ref (He.fAd K ("partners_of", none))) := He.glo_ok X G (D.fact 15 (f := .glo "partners_of") rfl)
  obtain ⟨fd_end_exists, E_end_exists⟩ := D.def_ 16 (d := dd "end_exists" s_end_exists) rfl
  have F_end_exists : Fun K "end_exists" "end_exists" s_end_exists (He.fAd K ("end_exists", none)) fd_end_exists := He5.fun_of E_end_exists
  have m_end_exists : mg "end_exists" = some (.ref (He.fAd K ("end_exists", none))) := He.glo_ok X G (D.fact 16 (f := .glo "end_exists") rfl)
  obtain ⟨fd_repeated_name, E_repeated_name⟩ := D.def_ 17 (d := dd "repeated_name" s_repeated_name) rfl
  have F_repeated_name : Fun K "repeated_name" "repeated_name" s_repeated_name (He.fAd K ("repeated_name", none)) fd_repeated_name := He5.fun_of E_repeated_name
  have m_repeated_name : mg "repeated_name" = some (.ref (He.fAd K ("repeated_name", none))) := He.glo_ok X G (D.fact 17 (f := .glo "repeated_name") rfl)
  obtain ⟨fd_missing_end, E_missing_end⟩ := D.def_ 18 (d := dd "missing_end" s_missing_end) rfl
  have F_missing_end : Fun K "missing_end" "missing_end" s_missing_end (He.fAd K ("missing_end", none)) fd_missing_end := He5.fun_of E_missing_end
  have m_missing_end : mg "missing_end" = some (.ref (He.fAd K ("missing_end", none))) := He.glo_ok X G (D.fact 18 (f := .glo "missing_end") rfl)
  obtain ⟨fd_wrong_joint, E_wrong_joint⟩ := D.def_ 19 (d := dd "wrong_joint" s_wrong_joint) rfl
  have F_wrong_joint : Fun K "wrong_joint" "wrong_joint" s_wrong_joint (He.fAd K ("wrong_joint", none)) fd_wrong_joint := He5.fun_of E_wrong_joint
  have m_wrong_joint : mg "wrong_joint" = some (.ref (He.fAd K ("wrong_joint", none))) := He.glo_ok X G (D.fact 19 (f := .glo "wrong_joint") rfl)
  obtain ⟨fd_wrong_place, E_wrong_place⟩ := D.def_ 20 (d := dd "wrong_place" s_wrong_place) rfl
  have F_wrong_place : Fun K "wrong_place" "wrong_place" s_wrong_place (He.fAd K ("wrong_place", none)) fd_wrong_place := He5.fun_of E_wrong_place
  have m_wrong_place : mg "wrong_place" = some (.ref (He.fAd K ("wrong_place", none))) := He.glo_ok X G (D.fact 20 (f := .glo "wrong_place") rfl)
  obtain ⟨fd_fits_overlap, E_fits_overlap⟩ := D.def_ 21 (d := dd "fits_overlap" s_fits_overlap) rfl
  have F_fits_overlap : Fun K "fits_overlap" "fits_overlap" s_fits_overlap (He.fAd K ("fits_overlap", none)) fd_fits_overlap := He5.fun_of E_fits_overlap
  have m_fits_overlap : mg "fits_overlap" = some (.ref (He.fAd K ("fits_overlap", none))) := He.glo_ok X G (D.fact 21 (f := .glo "fits_overlap") rfl)
  obtain ⟨fd_wrong_overlap, E_wrong_overlap⟩ := D.def_ 22 (d := dd "wrong_overlap" s_wrong_overlap) rfl
  have F_wrong_overlap : Fun K "wrong_overlap" "wrong_overlap" s_wrong_overlap (He.fAd K ("wrong_overlap", none)) fd_wrong_overlap := He5.fun_of E_wrong_overlap
  have m_wrong_overlap : mg "wrong_overlap" = some (.ref (He.fAd K ("wrong_overlap", none))) := He.glo_ok X G (D.fact 22 (f := .glo "wrong_overlap") rfl)
  obtain ⟨fd_fault, E_fault⟩ := D.def_ 23 (d := dd "fault" s_fault) rfl
  have F_fault : Fun K "fault" "fault" s_fault (He.fAd K ("fault", none)) fd_fault := He5.fun_of E_fault
  have m_fault : mg "fault" = some (.ref (He.fAd K ("fault", none))) := He.glo_ok X G (D.fact 23 (f := .glo "fault") rfl)
  obtain ⟨fd_is_checked, E_is_checked⟩ := D.def_ 24 (d := dd "is_checked" s_is_checked) rfl
  have F_is_checked : Fun K "is_checked" "is_checked" s_is_checked (He.fAd K ("is_checked", none)) fd_is_checked := He5.fun_of E_is_checked
  have m_is_checked : mg "is_checked" = some (.ref (He.fAd K ("is_checked", none))) := He.glo_ok X G (D.fact 24 (f := .glo "is_checked") rfl)
  obtain ⟨fd_law_deck, E_law_deck⟩ := D.def_ 25 (d := dd "_law_deck" s_law_deck) rfl
  have F_law_deck : Fun K "_law_deck" "_law_deck" s_law_deck (He.fAd K ("_law_deck", none)) fd_law_deck := He5.fun_of E_law_deck
  have m_law_deck : mg "_law_deck" = some (.ref (He.fAd K ("_law_deck", none))) := He.glo_ok X G (D.fact 25 (f := .glo "_law_deck") rfl)
  obtain ⟨fd_law_draw, E_law_draw⟩ := D.def_ 26 (d := dd "_law_draw" s_law_draw) rfl
  have F_law_draw : Fun K "_law_draw" "_law_draw" s_law_draw (He.fAd K ("_law_draw", none)) fd_law_draw := He5.fun_of E_law_draw
  have m_law_draw : mg "_law_draw" = some (.ref (He.fAd K ("_law_draw", none))) := He.glo_ok X G (D.fact 26 (f := .glo "_law_draw") rfl)
  obtain ⟨fd_law_pick, E_law_pick⟩ := D.def_ 27 (d := dd "_law_pick" s_law_pick) rfl
  have F_law_pick : Fun K "_law_pick" "_law_pick" s_law_pick (He.fAd K ("_law_pick", none)) fd_law_pick := He5.fun_of E_law_pick
  have m_law_pick : mg "_law_pick" = some (.ref (He.fAd K ("_law_pick", none))) := He.glo_ok X G (D.fact 27 (f := .glo "_law_pick") rfl)
  obtain ⟨fd_law_name, E_law_name⟩ := D.def_ 28 (d := dd "_law_name" s_law_name) rfl
  have F_law_name : Fun K "_law_name" "_law_name" s_law_name (He.fAd K ("_law_name", none)) fd_law_name := He5.fun_of E_law_name
  have m_law_name : mg "_law_name" = some (.ref (He.fAd K ("_law_name", none))) := He.glo_ok X G (D.fact 28 (f := .glo "_law_name") rfl)
  obtain ⟨fd_law_joints, E_law_joints⟩ := D.def_ 29 (d := dd "_law_joints" s_law_joints) rfl
  have F_law_joints : Fun K "_law_joints" "_law_joints" s_law_joints (He.fAd K ("_law_joints", none)) fd_law_joints := He5.fun_of E_law_joints
  have m_law_joints : mg "_law_joints" = some (.ref (He.fAd K ("_law_joints", none))) := He.glo_ok X G (D.fact 29 (f := .glo "_law_joints") rfl)
  obtain ⟨fd_law_over, E_law_over⟩ := D.def_ 30 (d := dd "_law_over" s_law_over) rfl
  have F_law_over : Fun K "_law_over" "_law_over" s_law_over (He.fAd K ("_law_over", none)) fd_law_over := He5.fun_of E_law_over
  have m_law_over : mg "_law_over" = some (.ref (He.fAd K ("_law_over", none))) := He.glo_ok X G (D.fact 30 (f := .glo "_law_over") rfl)
  obtain ⟨fd_law_checked, E_law_checked⟩ := D.def_ 31 (d := dd "_law_checked" s_law_checked) rfl
  have F_law_checked : Fun K "_law_checked" "_law_checked" s_law_checked (He.fAd K ("_law_checked", none)) fd_law_checked := He5.fun_of E_law_checked
  have m_law_checked : mg "_law_checked" = some (.ref (He.fAd K ("_law_checked", none))) := He.glo_ok X G (D.fact 31 (f := .glo "_law_checked") rfl)
  obtain ⟨fd_law_host, E_law_host⟩ := D.def_ 32 (d := dd "_law_host" s_law_host) rfl
  have F_law_host : Fun K "_law_host" "_law_host" s_law_host (He.fAd K ("_law_host", none)) fd_law_host := He5.fun_of E_law_host
  have m_law_host : mg "_law_host" = some (.ref (He.fAd K ("_law_host", none))) := He.glo_ok X G (D.fact 32 (f := .glo "_law_host") rfl)
  obtain ⟨fd_law_mixed, E_law_mixed⟩ := D.def_ 33 (d := dd "_law_mixed" s_law_mixed) rfl
  have F_law_mixed : Fun K "_law_mixed" "_law_mixed" s_law_mixed (He.fAd K ("_law_mixed", none)) fd_law_mixed := He5.fun_of E_law_mixed
  have m_law_mixed : mg "_law_mixed" = some (.ref (He.fAd K ("_law_mixed", none))) := He.glo_ok X G (D.fact 33 (f := .glo "_law_mixed") rfl)
  obtain ⟨fd_law_named, E_law_named⟩ := D.def_ 34 (d := dd "_law_named" s_law_named) rfl
  have F_law_named : Fun K "_law_named" "_law_named" s_law_named (He.fAd K ("_law_named", none)) fd_law_named := He5.fun_of E_law_named
  have m_law_named : mg "_law_named" = some (.ref (He.fAd K ("_law_named", none))) := He.glo_ok X G (D.fact 34 (f := .glo "_law_named") rfl)
  obtain ⟨fd_law_ended, E_law_ended⟩ := D.def_ 35 (d := dd "_law_ended" s_law_ended) rfl
  have F_law_ended : Fun K "_law_ended" "_law_ended" s_law_ended (He.fAd K ("_law_ended", none)) fd_law_ended := He5.fun_of E_law_ended
  have m_law_ended : mg "_law_ended" = some (.ref (He.fAd K ("_law_ended", none))) := He.glo_ok X G (D.fact 35 (f := .glo "_law_ended") rfl)
  obtain ⟨fd_law_wrong, E_law_wrong⟩ := D.def_ 36 (d := dd "_law_wrong" s_law_wrong) rfl
  have F_law_wrong : Fun K "_law_wrong" "_law_wrong" s_law_wrong (He.fAd K ("_law_wrong", none)) fd_law_wrong := He5.fun_of E_law_wrong
  have m_law_wrong : mg "_law_wrong" = some (.ref (He.fAd K ("_law_wrong", none))) := He.glo_ok X G (D.fact 36 (f := .glo "_law_wrong") rfl)
  obtain ⟨fd_law_is_told, E_law_is_told⟩ := D.def_ 37 (d := dd "_law_is_told" s_law_is_told) rfl
  have F_law_is_told : Fun K "_law_is_told" "_law_is_told" s_law_is_told (He.fAd K ("_law_is_told", none)) fd_law_is_told := He5.fun_of E_law_is_told
  have m_law_is_told : mg "_law_is_told" = some (.ref (He.fAd K ("_law_is_told", none))) := He.glo_ok X G (D.fact 37 (f := .glo "_law_is_told") rfl)
  obtain ⟨fd_law, E_law⟩ := D.def_ 38 (d := dd "law" s_law) rfl
  have F_law : Fun K "law" "law" s_law (He.fAd K ("law", none)) fd_law := He5.fun_of E_law
  have m_law : mg "law" = some (.ref (He.fAd K ("law", none))) := He.glo_ok X G (D.fact 38 (f := .glo "law") rfl)
  have m_KINDS : mg "KINDS" = some (.ref (He.ga K "KINDS")) := He.glo_ok X G (D.fact 39 (f := .glo "KINDS") rfl)
  have m_OVERLAP_KINDS : mg "OVERLAP_KINDS" = some (.ref (He.ga K "OVERLAP_KINDS")) := He.glo_ok X G (D.fact 40 (f := .glo "OVERLAP_KINDS") rfl)
  have m_ENDS : mg "ENDS" = some (.ref (He.ga K "ENDS")) := He.glo_ok X G (D.fact 41 (f := .glo "ENDS") rfl)
  have m_PATHS : mg "PATHS" = some (.ref (He.ga K "PATHS")) := He.glo_ok X G (D.fact 42 (f := .glo "PATHS") rfl)
  obtain ⟨tl, m_LETTERS⟩ := He.str_ok X G (D.fact 43 (f := .str "LETTERS" lettersS) rfl)
  obtain ⟨td, m_LD⟩ := He.str_ok X G (D.fact 44 (f := .str "LETTERS_AND_DIGITS" lettersDS) rfl)
  obtain ⟨t8, m_LONGEST⟩ := He.int_ok X G (D.fact 45 (f := .int "LONGEST_NAME" 8) rfl)
  obtain ⟨t3, m_GREATEST⟩ := He.int_ok X G (D.fact 46 (f := .int "GREATEST_END" 3) rfl)
  have z_len : mg "len" = none := He.free_ok X G (D.fact 47 (f := .free "len") rfl)
  have z_isinstance : mg "isinstance" = none := He.free_ok X G (D.fact 48 (f := .free "isinstance") rfl)
  have z_all : mg "all" = none := He.free_ok X G (D.fact 49 (f := .free "all") rfl)
  have z_range : mg "range" = none := He.free_ok X G (D.fact 50 (f := .free "range") rfl)
  have z_str : mg "str" = none := He.free_ok X G (D.fact 51 (f := .free "str") rfl)
  have z_list : mg "list" = none := He.free_ok X G (D.fact 52 (f := .free "list") rfl)
  have z_tuple : mg "tuple" = none := He.free_ok X G (D.fact 53 (f := .free "tuple") rfl)
  have z_int : mg "int" = none := He.free_ok X G (D.fact 54 (f := .free "int") rfl)
  have z_bool : mg "bool" = none := He.free_ok X G (D.fact 55 (f := .free "bool") rfl)
  have z_max : mg "max" = none := He.free_ok X G (D.fact 56 (f := .free "max") rfl)
  have z_enumerate : mg "enumerate" = none := He.free_ok X G (D.fact 57 (f := .free "enumerate") rfl)
  have z_set : mg "set" = none := He.free_ok X G (D.fact 58 (f := .free "set") rfl)
  have z_sorted : mg "sorted" = none := He.free_ok X G (D.fact 59 (f := .free "sorted") rfl)
  have z_repr : mg "repr" = none := He.free_ok X G (D.fact 60 (f := .free "repr") rfl)
  have hex : (He.tupB K "KINDS" [.str "plain", .str "points", .str "crossing"] && (He.tupB K "OVERLAP_KINDS" [.str "plain", .str "crossing"] && (wdB K (He.ga K "ENDS") endsL && wdB K (He.ga K "PATHS") pathsL))) = true := c.more
  obtain ⟨x1, hex⟩ := Bool.and_eq_true_iff.mp hex
  obtain ⟨x2, hex⟩ := Bool.and_eq_true_iff.mp hex
  obtain ⟨x3, x4⟩ := Bool.and_eq_true_iff.mp hex
  have T : Txt K mg w tl td t8 t3 (He.ga K "KINDS") (He.ga K "OVERLAP_KINDS") (He.ga K "ENDS") (He.ga K "PATHS") := { len := z_len, isinstance := z_isinstance, all := z_all, range := z_range, str := z_str, list := z_list, tuple := z_tuple, int := z_int, bool := z_bool, max := z_max, enumerate := z_enumerate, set := z_set, sorted := z_sorted, repr := z_repr, m_LETTERS := m_LETTERS, m_LETTERS_AND_DIGITS := m_LD, m_LONGEST_NAME := m_LONGEST, m_GREATEST_END := m_GREATEST, m_KINDS := m_KINDS, r_KINDS := fun H => .ktup (He.tupB_ok x1 H) (.cons (.str _) (.cons (.str _) (.cons (.str _) .nil))), m_OVERLAP_KINDS := m_OVERLAP_KINDS, r_OVERLAP_KINDS := fun H => .ktup (He.tupB_ok x2 H) (.cons (.str _) (.cons (.str _) .nil)), m_ENDS := m_ENDS, w_ENDS := wdict_of x3 (He.SaysT.tab c.t 0), m_PATHS := m_PATHS, w_PATHS := wdict_of x4 (He.SaysT.tab c.t 1) }
  have e := hfa.symm.trans m_law
  cases e
  have hb := FunD.bindsA (ps := ["script"]) E_law fun _ _ _ _ _ _ us hl => match us, hl with | [_], _ => rfl
  refine ⟨fd_law, [He.cT K ("is_name", none), He.cT K ("are_items", none)], spL K (He.cT K ("is_name", none)).2 (He.cT K ("are_items", none)).2, ⟨?_, ?_, ?_⟩, fun s v => hb s [v] rfl, ?_, ?_⟩
  · intro p hp
    simp only [List.mem_cons, List.not_mem_nil, or_false] at hp
    rcases hp with rfl | rfl
    · exact c.empty _ (.head _)
    · exact c.empty _ (.tail _ (.head _))
  · intro p hp
    simp only [List.mem_cons, List.not_mem_nil, or_false] at hp
    rcases hp with rfl | rfl
    · exact c.out _ (.head _)
    · exact c.out _ (.tail _ (.head _))
  · intro p hp
    simp only [List.mem_cons, List.not_mem_nil, or_false] at hp
    rcases hp with rfl | rfl
    · exact PySem.W.codeHd_of_K X (c.hd _ (.head _))
    · exact PySem.W.codeHd_of_K X (c.hd _ (.tail _ (.head _)))
  · intro H a ns hl _ hT hS
    exact ⟨a, ns, rfl, hl, hS, hT _ (.head _), hT _ (.tail _ (.head _)), fun _ => rfl⟩
  · intro base _ _ TB
    have TB1 : GxR.TabB base mg (He.codeOf K ("is_name", none)) (He.cT K ("is_name", none)).2 := let z := TB _ (.head _); ⟨z.code, z.bm, z.gP⟩
    have TB2 : GxR.TabB base mg (He.codeOf K ("are_items", none)) (He.cT K ("are_items", none)).2 := let z := TB _ (.tail _ (.head _)); ⟨z.code, z.bm, z.gP⟩
    obtain ⟨Ok, hOkd⟩ : ∃ Ok : M → Prop, Ok = fun m => Tab m (He.cT K ("is_name", none)).2 ∧ Tab m (He.cT K ("are_items", none)).2 := ⟨_, rfl⟩
    have Ok1 : ∀ m : M, Ok m → Tab m (He.cT K ("is_name", none)).2 := fun m z => by rw [hOkd] at z; exact z.1
    have Ok2 : ∀ m : M, Ok m → Tab m (He.cT K ("are_items", none)).2 := fun m z => by rw [hOkd] at z; exact z.2
    have hOk : ∀ a b : M, Ok a → b.gh = a.gh → Ok b := fun a b z e => by rw [hOkd] at z ⊢; exact ⟨z.1.gh e, z.2.gh e⟩
    have hT : ∀ m : M, Tab m (He.cT K ("is_name", none)).2 → Tab m (He.cT K ("are_items", none)).2 → Ok m := fun m z1 z2 => by rw [hOkd]; exact ⟨z1, z2⟩
    have c1 := c_is_integer (P := l.prog) (w := w) (base := base) T Ok hOk F_is_integer m_is_integer
    have c2 := c_is_tuple_of (P := l.prog) (w := w) (base := base) T Ok hOk F_is_tuple_of m_is_tuple_of
    have c3 := c_is_name (P := l.prog) (w := w) (base := base) T Ok hOk F_is_name m_is_name TB1 Ok1
    have c4 := c_is_end_number T Ok hOk F_is_end_number m_is_end_number c1
    have c5 := c_is_end T Ok hOk F_is_end m_is_end c2 c3 c4
    have c6 := c_is_step T Ok hOk F_is_step m_is_step c2 c5 c4
    have c7 := c_is_stretch T Ok hOk F_is_stretch m_is_stretch c2 c3
    have c8 := c_is_joint T Ok hOk F_is_joint m_is_joint c2 c5
    have c9 := c_is_gate T Ok hOk F_is_gate m_is_gate c2 c3 c5
    have i6 := c_are_items T Ok hOk F_are_items m_are_items (c6.at m_is_step) TB2 Ok2
    have c10 := c_is_overlap T Ok hOk F_is_overlap m_is_overlap m_is_step i6
    have c11 := c_is_signal T Ok hOk F_is_signal m_is_signal c2 c9 c10
    have i7 := c_are_items T Ok hOk F_are_items m_are_items (c7.at m_is_stretch) TB2 Ok2
    have i8 := c_are_items T Ok hOk F_are_items m_are_items (c8.at m_is_joint) TB2 Ok2
    have i9 := c_are_items T Ok hOk F_are_items m_are_items (c9.at m_is_gate) TB2 Ok2
    have i11 := c_are_items T Ok hOk F_are_items m_are_items (c11.at m_is_signal) TB2 Ok2
    have q_is_plan := c_is_plan T Ok hOk F_is_plan m_is_plan c2 m_is_stretch i7 m_is_joint i8 m_is_gate i9 m_is_signal i11
    have q_ways_of := c_ways_of (P := l.prog) (w := w) (K := K) (mg := mg) (base := base) T Ok hOk F_ways_of m_ways_of 
    have q_kinds_of := c_kinds_of (P := l.prog) (w := w) (K := K) (mg := mg) (base := base) T Ok hOk F_kinds_of m_kinds_of 
    have q_partners_of := c_partners_of (P := l.prog) (w := w) (K := K) (mg := mg) (base := base) T Ok hOk F_partners_of m_partners_of 
    have q_end_exists := c_end_exists (P := l.prog) (w := w) (K := K) (mg := mg) (base := base) T Ok hOk F_end_exists m_end_exists 
    have q_repeated_name := c_repeated_name (P := l.prog) (w := w) (K := K) (mg := mg) (base := base) T Ok hOk F_repeated_name m_repeated_name 
    have q_missing_end := c_missing_end (P := l.prog) (w := w) (K := K) (mg := mg) (base := base) T Ok hOk F_missing_end m_missing_end q_kinds_of q_end_exists
    have q_wrong_joint := c_wrong_joint (P := l.prog) (w := w) (K := K) (mg := mg) (base := base) T Ok hOk F_wrong_joint m_wrong_joint 
    have q_wrong_place := c_wrong_place (P := l.prog) (w := w) (K := K) (mg := mg) (base := base) T Ok hOk F_wrong_place m_wrong_place q_kinds_of q_partners_of
    have q_fits_overlap := c_fits_overlap (P := l.prog) (w := w) (K := K) (mg := mg) (base := base) T Ok hOk F_fits_overlap m_fits_overlap q_ways_of
    have q_wrong_overlap := c_wrong_overlap (P := l.prog) (w := w) (K := K) (mg := mg) (base := base) T Ok hOk F_wrong_overlap m_wrong_overlap q_kinds_of q_partners_of q_fits_overlap
    have q_fault := c_fault (P := l.prog) (w := w) (K := K) (mg := mg) (base := base) T Ok hOk F_fault m_fault q_is_plan q_repeated_name q_missing_end q_wrong_joint q_wrong_place q_wrong_overlap
    have q_is_checked := c_is_checked (P := l.prog) (w := w) (K := K) (mg := mg) (base := base) T Ok hOk F_is_checked m_is_checked q_fault
    have q_law_deck := c_law_deck (P := l.prog) (w := w) (K := K) (mg := mg) (base := base) T Ok hOk F_law_deck m_law_deck 
    have q_law_draw := PL.DCal.draw (c_law_draw (P := l.prog) (w := w) (K := K) (mg := mg) (base := base) T Ok hOk F_law_draw m_law_draw )
    have q_law_pick := c_law_pick (P := l.prog) (w := w) (K := K) (mg := mg) (base := base) T Ok hOk F_law_pick m_law_pick q_law_draw
    have q_law_name := c_law_name (P := l.prog) (w := w) (K := K) (mg := mg) (base := base) T Ok hOk F_law_name m_law_name q_law_draw q_law_pick
    have q_law_joints := c_law_joints (P := l.prog) (w := w) (K := K) (mg := mg) (base := base) T Ok hOk F_law_joints m_law_joints q_law_draw q_law_pick
    have q_law_over := c_law_over (P := l.prog) (w := w) (K := K) (mg := mg) (base := base) T Ok hOk F_law_over m_law_over q_law_draw
    have q_law_checked := c_law_checked (P := l.prog) (w := w) (K := K) (mg := mg) (base := base) T Ok hOk F_law_checked m_law_checked q_law_draw q_law_pick q_law_name q_law_over q_law_joints
    have q_law_host := c_law_host (P := l.prog) (w := w) (K := K) (mg := mg) (base := base) T Ok hOk F_law_host m_law_host q_law_name q_law_draw
    have q_law_mixed := c_law_mixed (P := l.prog) (w := w) (K := K) (mg := mg) (base := base) T Ok hOk F_law_mixed m_law_mixed q_law_draw
    have q_law_named := c_law_named (P := l.prog) (w := w) (K := K) (mg := mg) (base := base) T Ok hOk F_law_named m_law_named q_law_pick
    have q_law_ended := c_law_ended (P := l.prog) (w := w) (K := K) (mg := mg) (base := base) T Ok hOk F_law_ended m_law_ended q_law_pick q_law_draw q_law_name
    have q_law_wrong := c_law_wrong (P := l.prog) (w := w) (K := K) (mg := mg) (base := base) T Ok hOk F_law_wrong m_law_wrong q_law_pick q_law_draw q_law_name
    have q_law_is_told := c_law_is_told (P := l.prog) (w := w) (K := K) (mg := mg) (base := base) T Ok hOk F_law_is_told m_law_is_told q_fault q_is_checked
    exact FnOkG_imp (c_law T Ok hOk F_law hT q_law_deck q_law_draw q_law_host q_law_checked q_law_mixed q_law_named q_law_ended q_law_wrong q_law_is_told) fun vs H Q E z => law_up z
end PR

open PySem PySem.W PySem.Calls PyProof.Rows
set_option maxRecDepth 100000 in
set_option maxHeartbeats 0 in
theorem PySem.Challenge.cw_clearline_k08_faults_alone_and_two_at_on_holds : PySem.Challenge.rw_clearline_k08_faults_alone_and_two_at_on.Holds := by
  w_on; o_law
  refine HandSHeadRun.head_any (r := OpenLaw.row PySem.Challenge.rw_clearline_k08_faults_alone_and_two_at_on) (q := view (OpenLaw.row PySem.Challenge.rw_clearline_k08_faults_alone_and_two_at_on).prog [54]) (H := PR.hkL) (ob := PR.obL) (M := 3000) (loose := PR.looseL) (d := HandSHeadRun.topDef (OpenLaw.row PySem.Challenge.rw_clearline_k08_faults_alone_and_two_at_on).prog 54) (kwd := []) PR.obL_eq
    (by kernel_rfl) (fun s => by kernel_rfl) PR.runL (by kernel_rfl) (by kernel_rfl) (by kernel_rfl) (by rfl) (by first | assumption | decide +kernel) (by decide +kernel) ⟨rfl, rfl, rfl, rfl, rfl, by decide +kernel⟩ ?hw ?hc
  case hw => w_witness2
  case hc =>
    refine DL.walk_ofG (l := PySem.Challenge.rw_clearline_k08_faults_alone_and_two_at_on) (n := 63) (k := 18) (x := "script") rfl (by decide) (by kernel_rfl) ⟨rfl, by decide, by decide⟩ ?F
    intro w mg fa h Y G hmg0
    obtain ⟨K, KX, c⟩ := Y
    have hmg : mg ("law" : PySem.Str) = some (.ref fa) := by
      have e : (HandSHeadRun.topDef (OpenLaw.row PySem.Challenge.rw_clearline_k08_faults_alone_and_two_at_on).prog 54).name = ("law" : PySem.Str) := by kernel_rfl
      rw [← e]
      exact hmg0
    exact ⟨K, KX, PR.factsL KX G hmg c⟩
