import PyProof.Rows.All
import Wide.All
import OpenK.AllK
import Wide.FinOn
import HandS.AnyAll
import HandS.GenOver
import HandS.GenBody
import HandS.ForMost
import HandS.Codes
import HandS.IsInst
import HandS.FStr
import HandS.DictTup
import HandS.TupAny
import HandS.Deep
import HandS.CallLocal
import HandS.Remove
import KE.DataFind
import HandS.Style
import KE.GoesMore
import PyProof.Draws
import HandS.More
import HandS.DictComp
import HandS.TupSets
import HandS.SetKeys
import PyProof.SetRoads
import HandS.HeadHook3
import PyProof.ReprRoads
import HandS.EndTab
import PyProof.P3In
import PyProof.StrLawsRepr
import KE.KNestM
import HandS.Head2
import HandS.HeadEnd
import HandS.HeadHook4
import HandS.HeadNt
import HandS.HeadWalk
import Wide.Once
import PySem.Challenge.RW_clearline_k14_whole_what_can_be_put_in_o
set_option Elab.async false
set_option linter.all false
set_option maxRecDepth 100000
set_option maxHeartbeats 0
namespace GA
open PySem PySem.Spec PyProof.Rows L2 GxR GenW

/-- the context of a generator expression's frame -/
def cxG (X : Cx) (N : List Str) (A : Around) (cenv : Env) (s : Shared) (H : Hp) (ex : List Addr) : Cx where
  prog := X.prog
  w := X.w
  K := X.K
  mg := X.mg
  base := X.base
  A := A
  N := N
  s_0 := s
  H_0 := H
  env := cenv
  outer := X.stack
  stack := cenv :: X.stack
  ex := ex
  calm := true
  fn := fun _ => false
  pn := []
  xe := fun _ _ => False

theorem bareSet {s : Shared} {g : Nat} {x : GenState} (h : AllBare s.gens) (hx : x.bare = true) : AllBare (s.setGen g x).gens := fun y hy => by
  obtain ⟨i, hi, e⟩ := Array.mem_iff_getElem.mp hy
  have hi' : i < s.gens.size := by simpa [Shared.setGen] using hi
  have e2 : (s.gens.setIfInBounds g x)[i]? = some y := by
    have q : (s.setGen g x).gens[i]? = some y := by rw [Array.getElem?_eq_getElem hi, e]
    exact q
  rw [Array.getElem?_setIfInBounds] at e2
  split at e2
  · split at e2
    · cases e2; exact hx
    · cases e2
  · exact h y (Array.mem_of_getElem? e2)

theorem Inv.sim {X : Cx} {pins : List (Addr × Obj)} {σ : L2.St} {H : Hp} {s s' : Shared} (I : Inv X pins σ H s) (hh : s'.heap = s.heap) (ho : s'.os = s.os) (hb : AllBare s'.gens) : Inv X pins σ H s' :=
  ⟨I.ok, ho.trans I.os, hb, by rw [hh]; exact I.base, by rw [hh]; exact I.loc, by rw [hh]; exact I.cell, I.free, I.freeC, by rw [hh]; exact I.pin, by rw [hh]; exact I.hok, I.len⟩

/-- the whole of the walk: what is true at turn i (m: the turns that may be left), what each turn does -/
structure Plan (J : It) (g : TG) (te : TE) (W : Nat → Nat → L2.St → Hp → Prop) (Q : Bool → Hp → Prop) : Prop where
  turn : ∀ i m σ H, W i m σ H → (J.stop i H ∧ Q true H) ∨ (J.go i H ∧ 0 < m ∧ ∀ v H', J.yld i H v H' → g v σ H' fun σ2 H2 => te σ2 H2 fun r H3 => ∃ b, r = .bl b ∧ if b = true then ∃ m', m' < m ∧ W (i + 1) m' σ2 H3 else Q false H3)

/-- the run at rest: between two turns -/
def Rest (Xg : Cx) (a : Addr) (go : Obj) (fp : List Addr) (tn : Nat → Heap → Prop) (W : Nat → Nat → L2.St → Hp → Prop) (i m : Nat) (s : Shared) : Prop :=
  ∃ σ H, Inv Xg [(a, go)] σ H s ∧ tn i s.heap ∧ (∀ b ∈ fp, FpOk Xg [(a, go)] H b) ∧ W i m σ H
def Ended (Xg : Cx) (a : Addr) (go : Obj) (Q : Bool → Hp → Prop) (k : Bool) (s : Shared) : Prop :=
  ∃ σ H, Inv Xg [(a, go)] σ H s ∧ Q k H

def endG (Xg : Cx) (a : Addr) (go : Obj) (Q : Bool → Hp → Prop) : GenEnd := fun _ _ r s => r = .ok .next ∧ Ended Xg a go Q true s
def protoG (Xg : Cx) (a : Addr) (go : Obj) (Q : Bool → Hp → Prop) : Protocol := fun _ _ v s kap =>
  ∃ b, v = .bool b ∧ (∃ σ H, Inv Xg [(a, go)] σ H s) ∧ (b = false → Ended Xg a go Q false s) ∧
    (b = true → ∀ s'' : Shared, s''.heap = s.heap → s''.os = s.os → AllBare s''.gens → kap (.send .none) s'')

section
variable {As : Around} {elt tg iter : Expr} {scope : Scope} {pos : Pos} {it a : Addr} {go : Obj} {fp : List Addr} {tn : Nat → Heap → Prop} {J : It} {g : TG} {te : TE} {W : Nat → Nat → L2.St → Hp → Prop} {Q : Bool → Hp → Prop} {Xg : Cx}

abbrev gexp (elt tg iter : Expr) (scope : Scope) (pos : Pos) : Expr := .GeneratorExp elt [⟨tg, iter, [], 0⟩] scope pos
abbrev loopC (elt tg iter : Expr) (scope : Scope) (pos : Pos) (it : Addr) (env : Env) : Code := .compLoop (gexp elt tg iter scope pos) 0 (.ref it) .none env

theorem seg_turn (hXA : Xg.A = As.over (loopC elt tg iter scope pos it Xg.env) []) (hcalm : Xg.calm = true) (hpn : Xg.pn = [])
    (hco : Xg.env.scope.isCoroutine = false)
    (T : Turn Xg.prog Xg.w Xg.K tg J fp it tn) (hg : PG Xg tg g) (he : PE Xg elt te) (hP : Plan J g te W Q) (hxe : Xg.xe = fun _ _ => False)
    (n : Nat) (ih : ∀ n', n = n' + 1 → ∀ (m i : Nat) (s₀ s : Shared), m ≤ n' → Rest Xg a go fp tn W i m s →
      Seg (model Xg.prog Xg.w) As (endG Xg a go Q) (protoG Xg a go Q) n' s₀ (loopC elt tg iter scope pos it Xg.env) ((model Xg.prog Xg.w).den (loopC elt tg iter scope pos it Xg.env)) [] s) :
    ∀ (m i : Nat) (s₀ s : Shared), m ≤ n → Rest Xg a go fp tn W i m s →
      Seg (model Xg.prog Xg.w) As (endG Xg a go Q) (protoG Xg a go Q) n s₀ (loopC elt tg iter scope pos it Xg.env) ((model Xg.prog Xg.w).den (loopC elt tg iter scope pos it Xg.env)) [] s := by
  intro m i s₀ s hmn hR
  obtain ⟨σ, H, I, st, fpk, w⟩ := hR
  have noX : ∀ {α : Type} {t : Sem α} {Qa : α → Shared → Prop} {E : Value → Shared → Prop} {s : Shared}, wpAny (model Xg.prog Xg.w) Xg.A t Qa Xg.xe s → wpAny (model Xg.prog Xg.w) (As.over (loopC elt tg iter scope pos it Xg.env) []) t Qa E s := fun h => by
    rw [hxe, hXA] at h
    exact wpAny_mono h (fun _ _ z => z) fun _ _ z => z.elim
  show Seg _ As _ _ n s₀ _ ((compTurn (gexp elt tg iter scope pos) 0 (.ref it) .none Xg.env).onRaise (leaving Xg.env)) [] s
  rw [compTurn_gen, Sem.onRaise_eq_wrap]
  refine seg_bind_wrap (wpAny_standAt ?_)
  rcases hP.turn i m σ H w with ⟨stop, q⟩ | ⟨goi, hm, step⟩
  · refine seg_bind_wrap (noX (thn (T.done Xg rfl rfl rfl hcalm i _ s σ H Xg.xe I fpk st stop) fun r s1 ⟨hr, I1⟩ => ?_))
    subst hr
    exact seg_end (.ok .next) ⟨rfl, σ, H, I1, q⟩
  · refine seg_bind_wrap (noX (thn (T.item Xg rfl rfl rfl hcalm i _ s σ H Xg.xe I fpk st goi) fun r s1 ⟨u, hr, h4⟩ => ?_))
    subst hr
    refine seg_bind_wrap (noX (thn h4 fun _ s5 ⟨v, H5, I5, r5, y5, st5, fr5⟩ => ?_))
    have I5' := I5.pinned (fun b hb => ⟨fr5 b hb, (fpk b hb).2⟩) (T.obj _ _ st5)
    refine seg_bind_wrap (noX (thn (hg.run _ s5 σ H5 v u _ I5' r5 (step v H5 y5)) fun _ s6 ⟨σ6, H6, I6, q6⟩ => ?_))
    refine seg_bind_wrap ?_
    simp only [List.forIn_nil]
    refine wpAny_pure ?_
    simp only [if_true]
    have hy : ∀ v, yieldOut Xg.env v = yieldValue v := fun v => by simp only [yieldOut, hco, Bool.false_eq_true, if_false]
    simp only [hy]
    rw [Sem.bind_eq_wrap', Sem.bind_eq_wrap', Sem.wrap_wrap, Sem.wrap_wrap]
    refine seg_wrap (noX (thn (he.run _ s6 σ6 H6 _ I6 q6) fun y s7 ⟨x7, H7, I7, r7, b, e7, q7⟩ => ?_))
    subst e7
    cases r7
    obtain ⟨n', rfl⟩ : ∃ n', n = n' + 1 := ⟨n - 1, by omega⟩
    refine seg_at (seg_yield rfl rfl rfl ⟨b, rfl, ⟨σ6, H7, I7.unpinned⟩, fun hb => ?_, fun hb s'' hh ho hbare => ?_⟩)
    · subst hb
      exact ⟨σ6, H7, I7.unpinned, q7⟩
    · subst hb
      obtain ⟨m', hm', w7⟩ := q7
      refine seg_again rfl (ih n' rfl m' (i + 1) s'' s'' (by omega) ⟨σ6, H7, Inv.sim I7.unpinned hh ho hbare, ?_, fun b hb => ⟨?_, (fpk b hb).2⟩, w7⟩)
      · rw [hh]
        exact T.keep _ _ _ st5 fun b hb o e => (I7.pin (b, o) (List.mem_append_right _ (List.mem_append_right _ (mem_pinsAt hb e)))).1
      · obtain ⟨o, e, d⟩ := T.obj _ _ st5 b hb
        exact (I7.pin (b, o) (List.mem_append_right _ (List.mem_append_right _ (mem_pinsAt hb e)))).2.1

theorem seg_loop (hXA : Xg.A = As.over (loopC elt tg iter scope pos it Xg.env) []) (hcalm : Xg.calm = true) (hpn : Xg.pn = [])
    (hco : Xg.env.scope.isCoroutine = false)
    (T : Turn Xg.prog Xg.w Xg.K tg J fp it tn) (hg : PG Xg tg g) (he : PE Xg elt te) (hP : Plan J g te W Q) (hxe : Xg.xe = fun _ _ => False) :
    ∀ (n m i : Nat) (s₀ s : Shared), m ≤ n → Rest Xg a go fp tn W i m s →
      Seg (model Xg.prog Xg.w) As (endG Xg a go Q) (protoG Xg a go Q) n s₀ (loopC elt tg iter scope pos it Xg.env) ((model Xg.prog Xg.w).den (loopC elt tg iter scope pos it Xg.env)) [] s := by
  intro n
  induction n with
  | zero => exact seg_turn hXA hcalm hpn hco T hg he hP hxe 0 fun n' e => by cases e
  | succ n ih => exact seg_turn hXA hcalm hpn hco T hg he hP hxe (n + 1) fun n' e => by cases e; exact ih

theorem seg_start (hXA : Xg.A = As.over (loopC elt tg iter scope pos it Xg.env) []) (hcalm : Xg.calm = true) (hpn : Xg.pn = [])
    (hco : Xg.env.scope.isCoroutine = false)
    (T : Turn Xg.prog Xg.w Xg.K tg J fp it tn) (hg : PG Xg tg g) (he : PE Xg elt te) (hP : Plan J g te W Q) (hxe : Xg.xe = fun _ _ => False)
    (n m : Nat) (s₀ s : Shared) (hmn : m ≤ n) (hR : Rest Xg a go fp tn W 0 m s) :
      Seg (model Xg.prog Xg.w) As (endG Xg a go Q) (protoG Xg a go Q) n s₀ (.compStart (gexp elt tg iter scope pos) 0 (.ref it) .none Xg.env)
        ((model Xg.prog Xg.w).den (.compStart (gexp elt tg iter scope pos) 0 (.ref it) .none Xg.env)) [] s := by
  have loop := seg_loop hXA hcalm hpn hco T hg he hP hxe n m 0 s₀ s hmn hR
  obtain ⟨σ, H, I, st, fpk, w⟩ := hR
  show Seg _ As _ _ _ s₀ _ ((compStart (gexp elt tg iter scope pos) 0 (.ref it) .none Xg.env).onRaise (leaving Xg.env)) [] s
  unfold compStart
  rw [Sem.onRaise_eq_wrap]
  show Seg _ As _ _ _ s₀ _ ((ask >>= _).wrap _ _ _ _) [] s
  refine seg_bind_wrap (wpAny_askSetting ?_)
  split
  · exact seg_again rfl loop
  · first
      | exact seg_bind_wrap (wpAny_rule (seg_bind_wrap (wpAny_standAt (seg_bind_wrap (T.self _ 0 s _ _ st (seg_again rfl loop))))))
      | (refine seg_bind_wrap (wpAny_rule ?_); show Seg _ As _ _ _ s₀ _ ((standAt iter.pos >>= _).wrap _ _ _ _) [] s; exact seg_bind_wrap (wpAny_standAt (seg_bind_wrap (T.self _ 0 s _ _ st (seg_again rfl loop)))))
end

/-! ### the consumer: all -/
section
variable {A : Around} {E : Value → Shared → Prop}
theorem all_loop {P : Program} {w : World} {Xg : Cx} {a : Addr} {go : Obj} {g : Nat} {Q : Bool → Hp → Prop} {R : Result → Shared → Prop} (hXp : Xg.prog = P) (hXw : Xg.w = w) (hpn : Xg.pn = []) (hh : A.handled = none) (hroom : A.depth < recursionLimit)
    (hgo : ∀ h : Heap, h.get? a = some go → h.IsGen a g)
    (hend : ∀ k s', Ended Xg a go Q k s' → R (.ok (.ret (.bool k))) s') :
    ∀ (n : Nat) (s : Shared), (∃ σ H, Inv Xg [(a, go)] σ H s) →
      (∃ gs, s.gens[g]? = some gs ∧ ∀ s'' : Shared, s''.heap = s.heap → s''.os = s.os → AllBare s''.gens → gs.Goes (model P w) A.in1.in1 (endG Xg a go Q) (protoG Xg a go Q) n (.send .none) s'') →
      codeAny (model P w) A (.builtin "all.loop" ⟨[.ref a], []⟩) R s := by
  subst hXp hXw
  intro n
  have pinA : ∀ {σ : L2.St} {H : Hp} {s : Shared}, Inv Xg [(a, go)] σ H s → s.heap.get? a = some go := fun I => (I.pin (a, go) (List.mem_append_right _ List.mem_cons_self)).1
  have step : ∀ (n : Nat) (s : Shared), (∃ σ H, Inv Xg [(a, go)] σ H s) →
      (∃ gs, s.gens[g]? = some gs ∧ ∀ s'' : Shared, s''.heap = s.heap → s''.os = s.os → AllBare s''.gens → gs.Goes (model Xg.prog Xg.w) A.in1.in1 (endG Xg a go Q) (protoG Xg a go Q) n (.send .none) s'') →
      (∀ n', n = n' + 1 → ∀ s' gs' , (∃ σ H, Inv Xg [(a, go)] σ H s') → s'.gens[g]? = some gs' → (∀ s'' : Shared, s''.heap = s'.heap → s''.os = s'.os → AllBare s''.gens → gs'.Goes (model Xg.prog Xg.w) A.in1.in1 (endG Xg a go Q) (protoG Xg a go Q) n' (.send .none) s'') → codeAny (model Xg.prog Xg.w) A (.builtin "all.loop" ⟨[.ref a], []⟩) R s') →
      codeAny (model Xg.prog Xg.w) A (.builtin "all.loop" ⟨[.ref a], []⟩) R s := by
    intro n s ⟨σ, H, I⟩ ⟨gs, hgs, hgoes⟩ again
    have hgl : g < s.gens.size := (Array.getElem?_eq_some_iff.mp hgs).1
    refine codeAny_builtin F.entry_all_loop ?_
    rw [Around.under_plainId F.plain_all_loop _]
    show wpAny _ A.in1 (pyNext (.ref a) >>= _) _ _ s
    refine wpAny_bind (wpAny_gsz (n := g + 1) hgl (wpAny_pyNext_genexpQ (P := fun _ _ s₁ => Ended Xg a go Q true s₁) (A := A.in1) hh I.nolimit hroom (hgo _ (pinA I)) hgs
      (hgoes (s.setGen g .running) rfl rfl (bareSet I.bare rfl)) (fun v s₁ gs' hb hv => ?_) (fun s₁ hp h' hk => ?_)))
    · intro hsz
      obtain ⟨b, rfl, ⟨σ1, H1, I1⟩, hF, hT⟩ := hv
      refine wpAny_bind (wpAny_holding (wpAny_truthy_bool ?_))
      refine wpAny_bind (wpAny_letGo ?_)
      have hbare : AllBare (s₁.setGen g gs').gens := bareSet I1.bare hb
      cases b with
      | true =>
        simp only [if_true]
        refine wpAny_pure ⟨plainId_quiet F.plain_all_loop _, ?_⟩
        have hk := hT rfl
        cases n with
        | zero => exact False.elim (hk s₁ rfl rfl I1.bare)
        | succ n' =>
          refine again n' rfl (s₁.setGen g gs') gs' ⟨σ1, H1, Inv.sim I1 rfl rfl hbare⟩ ?_ fun s'' e1 e2 e3 => hk s'' e1 e2 e3
          have q : (s₁.setGen g gs').gens.size = s₁.gens.size := by simp [Shared.setGen]
          have h1 : g < s₁.gens.size := by
            have hsz' : g + 1 ≤ (s₁.setGen g gs').gens.size := hsz
            omega
          simp [Shared.setGen, h1]
      | false =>
        simp only [Bool.false_eq_true, if_false]
        obtain ⟨σ2, H2, I2, q2⟩ := hF rfl
        exact wpAny_bind (wpAny_rule (wpAny_pure (hend false _ ⟨σ2, H2, Inv.sim I2 rfl rfl (bareSet I2.bare hb), q2⟩)))
    · intro _
      obtain ⟨σ2, H2, I2, q2⟩ := hp
      refine wpAny_bind (wpAny_rule (wpAny_pure (hend true _ ⟨σ2, H2, ?_, q2⟩)))
      have I3 : Inv Xg [(a, go)] σ2 H2 { s₁ with heap := h', toks := s₁.toks } := I2.kept hk
      exact Inv.sim I3 rfl rfl (bareSet I2.bare rfl)
  induction n with
  | zero => exact fun s hI hg => step 0 s hI hg fun n' e => by cases e
  | succ n ih => exact fun s hI hg => step (n + 1) s hI hg fun n' e s' gs' h1 h2 h3 => by cases e; exact ih s' h1 ⟨gs', h2, h3⟩
end

/-! ### making it -/
structure GenOk (N : List Str) (scX scope : Scope) (ow : List (Str × Nat)) : Prop where
  kind : scope.kind = .function
  co : scope.isCoroutine = false
  cell : ∀ y ∈ scope.names, y.2 ≠ .cell
  dot : scope.names.lookup (".0" : Str) = some NameKind.local
  free : ∀ y ∈ scope.names, y.2 = .free → scX.names.lookup y.1 = some .cell ∨ scX.names.lookup y.1 = some .free
  uniq : ∀ y, (y, NameKind.free) ∈ scope.names → scope.names.lookup y = some .free
  own : ∀ y ∈ scope.names, y.2 = .local → y.1 ∈ ow.map (·.1) ∨ y.1 ∉ N
  ix : ∀ p ∈ ow, N[p.2]? = some p.1

theorem gen_begin {X : Cx} {pins : List (Addr × Obj)} {σ : L2.St} {H : Hp} {s : Shared} {scope : Scope} {own : List (Str × Nat)} {fp : List Addr} {it : Value} {h' : Heap} {A : Around} {a : Addr} {go : Obj}
    {cenv : Env} {gens' : Array GenState} {tk : Nat}
    (I : Inv X pins σ H s) (ok : GenOk X.N X.env.scope scope own) (hN : X.N.Nodup) (hfp : ∀ b ∈ fp, FpOk X pins H b ∧ b < s.heap.objs.size)
    (hc1 : cenv.scope = scope) (hc2 : cenv.locals = s.heap.objs.size) (hc3 : cenv.cells = cloFrom X.env.cells scope.names []) (hc4 : cenv.globals = X.env.globals) (hc5 : cenv.builtins = builtinsNs) (hc6 : cenv.frame = some cenv.locals)
    (hA1 : A.handled = none) (hA2 : A.frames = some (cenv :: X.stack))
    (hn' : h'.Ns s.heap.objs.size (fun y => if y = ".0" then some it else none)) (hs' : Heap.SameBut s.heap.objs.size (s.heap.push { cls := .type "frame", data := .dict #[] }) h')
    (ha : a = h'.objs.size) (hgo : ∀ v, go.data ≠ .cell v) (hfr : Obj.isFreed go = false) (hg : AllBare gens') :
    Inv (cxG X X.N A cenv s H fp) [(a, go)] (wipe σ (own.map (·.2))) H { s with heap := h'.push go, gens := gens', toks := tk } := by
  have hfree : ∀ y ∈ scope.names, y.2 = .free → ∃ c, X.env.cells.lookup y.1 = some c := fun y hy e => by
    rcases ok.free y hy e with k | k
    · exact I.ok.has _ (.inl k)
    · exact I.ok.has _ (.inr k)
  have hsz : h'.objs.size = s.heap.objs.size + 1 := by rw [hs'.1, Heap.size_push]
  have kp : ∀ b o, s.heap.get? b = some o → (h'.push go).get? b = some o := fun b o e =>
    Heap.get?_push_of_some _ (hs'.extBut b o (Nat.ne_of_lt (Heap.lt_size e)) (Heap.get?_push_of_some _ e))
  have cm : ∀ {y c}, (y, c) ∈ cloFrom X.env.cells scope.names [] → X.env.cells.lookup y = some c ∧ c < s.heap.objs.size := fun {y c} hm => by
    rcases cloFrom_mem hm with hm | ⟨h1, rfl⟩
    · cases hm
    · obtain ⟨c, hc⟩ := hfree _ h1 rfl
      rw [hc]
      obtain ⟨w, z⟩ := I.cell _ _ hc
      exact ⟨rfl, z.lt⟩
  have mem : ∀ {y c}, cenv.cells.lookup y = some c → X.env.cells.lookup y = some c ∧ c < s.heap.objs.size := fun {y c} e => by
    rw [hc3] at e
    exact cm (PySem.mem_of_lookup e)
  have look : ∀ {y}, scope.names.lookup y = some .free → ∃ c, cenv.cells.lookup y = some c := fun {y} hl => by
    obtain ⟨c', e'⟩ := mem_lookup (cloFrom_has (cells := X.env.cells) (acc := []) (PySem.mem_of_lookup hl))
    exact ⟨c', by rw [hc3]; exact e'⟩
  have nocell : ∀ y, scope.names.lookup y ≠ some .cell := fun y e => ok.cell _ (PySem.mem_of_lookup e) rfl
  have okB : (cxG X X.N A cenv s H fp).Ok := by
    refine ⟨I.ok.mod, by show cenv.scope.kind = _; rw [hc1]; exact ok.kind, by show cenv.globals = _; rw [hc4]; exact I.ok.glob, hc5, by show s.heap.objs.size ≤ cenv.locals; rw [hc2]; exact Nat.le_refl _,
      fun y z c e1 e2 => I.ok.inj y z c (mem e1).1 (mem e2).1, fun y hy => ?_, fun y c z e => (by cases z), fun _ => hA1, hA2, .inr ⟨rfl, hc6⟩, fun b hb => ⟨?_, fun y c e z => ?_⟩, I.bs, Nat.le_trans I.ok.bsz I.sz, fun b o e hb => ?_, fun b hb z => ?_, I.stack, I.stkFree⟩
    · have hy : scope.names.lookup y = some .cell ∨ scope.names.lookup y = some .free := by
        rcases hy with hy | hy
        · left; have q : cenv.scope.names.lookup y = _ := hy; rw [hc1] at q; exact q
        · right; have q : cenv.scope.names.lookup y = _ := hy; rw [hc1] at q; exact q
      rcases hy with hy | hy
      · exact (nocell y hy).elim
      · exact look hy
    · show b ≠ cenv.locals
      rw [hc2]; exact Nat.ne_of_lt (hfp b hb).2
    · exact (hfp b hb).1.2.2.2.2.1 y c (mem e).1 z
    · rcases (hfp b hb).1.2.2.2.1 with z | z
      · exact I.ok.noex b o e z
      · exact absurd (Nat.lt_of_lt_of_le (Heap.lt_size e) (Nat.le_trans I.ok.bsz z)) (Nat.lt_irrefl _)
    · rcases List.mem_cons.mp (I.stkSub b z) with z | z
      · exact (hfp b hb).1.2.1 z
      · exact (hfp b hb).1.2.2.1 z
  have hHC : H cenv.locals = none := by rw [hc2]; exact I.hok.fresh (Nat.le_refl _)
  refine ⟨okB, rfl, hg, Un.kept kp, ⟨_, by show Heap.Ns _ cenv.locals _; rw [hc2]; exact hn'.push _, fun i y av e1 e2 e3 => ?_⟩, fun y c e => ?_, hHC, fun y c e => I.freeC y c (mem e).1, fun p hp => ?_, I.hok.kept kp, by rw [wipe_length]; exact I.len⟩
  · obtain ⟨e2, hne⟩ := wipe_some e2
    have e3' : scope.names.lookup y = some .local ∨ scope.names.lookup y = some .cell ∨ scope.names.lookup y = some .free := by
      have q : cenv.scope.names.lookup y = some .local ∨ cenv.scope.names.lookup y = some .cell ∨ cenv.scope.names.lookup y = some .free := e3
      rw [hc1] at q; exact q
    rcases e3' with e3 | e3 | e3
    · exfalso
      rcases ok.own _ (PySem.mem_of_lookup e3) rfl with z | z
      · obtain ⟨p, hp, e⟩ := List.mem_map.mp z
        have hi := ok.ix p hp
        rw [e] at hi
        have : i = p.2 := nodup_ix hN e1 hi
        exact hne (List.mem_map.mpr ⟨p, hp, this.symm⟩)
      · exact z (List.mem_of_getElem? e1)
    · exact (nocell y e3).elim
    · have hX := ok.free (y, .free) (PySem.mem_of_lookup e3) rfl
      obtain ⟨m, hn, hl⟩ := I.loc
      have hv : Vis X.env.scope y := .inr hX
      obtain ⟨u, r, l⟩ := hl i y av e1 e2 hv
      obtain ⟨c, hcc⟩ := look e3
      refine ⟨u, r, .inr ⟨.inr (by show cenv.scope.names.lookup y = _; rw [hc1]; exact e3), c, hcc, ?_⟩⟩
      rcases l with ⟨k, _⟩ | ⟨_, c', e', z⟩
      · exfalso
        have k' : X.env.scope.names.lookup y = some .local := k
        rcases hX with q | q <;> (have q' : X.env.scope.names.lookup y = _ := q; rw [k'] at q'; cases q')
      · have : c = c' := by
          have := (mem hcc).1
          rw [e'] at this; cases this; rfl
        subst this
        exact z.keeps kp
  · obtain ⟨v, z⟩ := I.cell y c (mem e).1
    exact ⟨v, z.keeps kp⟩
  · have hp' : p = (a, go) := by simpa [cxG] using hp
    subst hp'
    refine ⟨by rw [ha]; exact Heap.get?_push_size _ hfr, by rw [ha]; exact I.hok.fresh (by omega), ?_, ?_, hgo⟩
    · show a ≠ cenv.locals
      rw [hc2, ha]; exact Nat.ne_of_gt (by omega)
    · intro hb
      have hb' : a ∈ frs X.stack := hb
      rcases List.mem_cons.mp (I.stkSub a hb') with z | z
      · rw [ha] at z
        have := I.lt
        exact Nat.lt_irrefl _ (Nat.lt_of_lt_of_le (z ▸ this) (by omega))
      · exact I.nofs (a := a) (by rw [ha]; omega) z

def tAllG (P : Addr) (own : List (Str × Nat)) (wi : TI) (g : TG) (te : TE) : TE := fun σ H Q => wi σ H fun J H1 => TabG H1 P ∧ ∀ H2, Tabbed P H1 H2 →
  ∃ (W : Nat → Nat → L2.St → Hp → Prop) (m : Nat), W 0 m (wipe σ (own.map (·.2))) H2 ∧ Plan J g te W (fun b H => Q (.bl b) H)

theorem over_hd {A : Around} {c : Code} : (A.over c []).handled = A.handled := rfl
theorem gen_over {A : Around} {elt tg iter : Expr} {scope : Scope} {pos : Pos} {it : Addr} {cenv : Env} {l : List Env} {k : Nat} (hr : Room (k + 1) A) (hf : A.frames = some l) :
    Room k ((A.in1.in1).over (loopC elt tg iter scope pos it cenv) []) ∧ ((A.in1.in1).over (loopC elt tg iter scope pos it cenv) []).frames = some (cenv :: l) := by
  refine ⟨⟨hr.hd, ?_, ?_⟩, ?_⟩
  · have := hr.dp
    show A.depth + 0 + 1 + 3 * k + 5 < recursionLimit
    omega
  · have := hr.un
    show A.units + 1 + 1 + 0 + 3 + 16 * k + 200 < cLine
    omega
  · show pushEnvs [cenv] (pushEnvs [] A.frames) = _
    rw [hf]; rfl

theorem pe_allG {X : Cx} {c P : Addr} {elt tg iter : Expr} {p pos gpos : Pos} {scope : Scope} {own : List (Str × Nat)} {wi : TI} {g : TG} {te : TE} {k : Nat}
    (hr : Room (k + 1) X.A) (hg : Gl X "all") (hm : X.mg "all" = none) (hb : bootBuiltins "all" = some (.builtin "all")) (TB : TabB X.base X.mg c P) (hcode : X.env.code = .ref c)
    (ok : GenOk X.N X.env.scope scope own) (hN : X.N.Nodup) (hi : PI X tg iter wi)
    (hgt : ∀ A cenv s H fp, cenv.scope = scope → PG (cxG X X.N A cenv s H fp) tg g)
    (hel : ∀ A cenv s H fp, cenv.scope = scope → Room k A → PE (cxG X X.N A cenv s H fp) elt te)
    (hs : ∀ v, genFold iter X.env v = pure v)
    (he : starEach [gexp elt tg iter scope gpos] X.env = (false, eval (gexp elt tg iter scope gpos) X.env) :: starEach [] X.env := by rfl) :
    PE X (.Call (.Name "all" p) [gexp elt tg iter scope gpos] [] pos) (tAllG P own wi g te) := by
  refine ⟨fun pins s σ H Q I h => ?_⟩
  have hfree : ∀ y ∈ scope.names, y.2 = .free → ∃ c, X.env.cells.lookup y.1 = some c := fun y hy e => by
    rcases ok.free y hy e with k | k
    · exact I.ok.has _ (.inl k)
    · exact I.ok.has _ (.inr k)
  refine wpAny_Call_Name_kw (ld_blt I hg hm hb ?_)
  refine PyProof.Rows.callWith_builtin1 ?_ he (by rfl)
  rw [he]
  show wpAny _ _ (spliced ((false, eval (gexp elt tg iter scope gpos) X.env) :: backTo pos (starEach [] X.env))) _ _ s
  refine Calls.spliced_cons (wpAny_GeneratorExp_make ok.co (closure_ok hfree) ok.cell ok.dot ok.kind (by have := hr.dp; omega) ?_ hs)
  refine thn (hi.run pins s σ H _ I h) fun v s1 h1 => thn h1 fun itv s2 h2 => ?_
  obtain ⟨it, fp, tn, J, H1, rfl, I2, T, st2, f2, ⟨ps, hP, ht⟩, cont⟩ := h2
  refine ⟨I2.nolimit, ?_⟩
  have hPs : s2.heap.get? P = some { cls := .none, data := .fields ps } := I2.hok P _ hP
  have cd : PySem.W.CodeHd s2.heap c P := TB.code.keeps fun b u e => I2.bk b u e
  have fpP : ∀ b ∈ fp, b ≠ P := fun b hb z => by
    have := (f2 b hb).1
    rw [z, hP] at this; cases this
  have fplt : ∀ b ∈ fp, b < s2.heap.objs.size := fun b hb => by
    obtain ⟨o, e, _⟩ := T.obj 0 _ st2 b hb
    exact Heap.lt_size e
  have main : ∀ (code : Value) (h3 : Heap) (tk : Nat) (ps' : Array Value), Heap.ExtBut P s2.heap h3 → s2.heap.objs.size ≤ h3.objs.size → h3.get? P = some { cls := .none, data := .fields ps' } → (∃ more, ps' = ps ++ more) → TriplesOk ps'.toList →
      wpAny (model X.prog X.w) X.A (builtinsFor X.env.globals X.env.builtins) (fun bi s₄ =>
        ∀ h', h'.Ns s₄.heap.objs.size (fun y => if y = ".0" then some (.ref it) else none) → Heap.SameBut s₄.heap.objs.size (s₄.heap.push { cls := .type "frame", data := .dict #[] }) h' →
          wpAny (model X.prog X.w) X.A (spliced (backTo pos (starEach [] X.env))) (fun us s' => wpAny (model X.prog X.w) X.A (call (.builtin "all") (Value.ref h'.objs.size :: us)) (EP X pins σ Q) X.xe s') X.xe { s₄ with
            gens := s₄.gens.push (.fresh (.compStart (gexp elt tg iter scope gpos) 0 (.ref it) .none (genEnv scope (cloFrom X.env.cells scope.names []) s₄.heap.objs.size code bi X.env))),
            toks := s₄.toks + 1 + 1 + 1,
            heap := h'.push { cls := .type "generator", data := .fields #[.int s₄.gens.size 0, .str "<genexpr>" (s₄.toks + 1), .str (X.env.qual ++ "<genexpr>") (s₄.toks + 1 + 1)] } }) X.xe { s2 with heap := h3, toks := tk } := by
    intro code h3 tk ps' hx hsz hP3 ⟨more, hmore⟩ ht3
    subst hmore
    obtain ⟨bm, ob, e1, e2, e3, e4, e5, e6, e7, e8⟩ := TB.bm
    have keep3 : ∀ b u, b ≠ P → s2.heap.get? b = some u → h3.get? b = some u := fun b u hb e => hx b u hb e
    refine wpAny_builtinsFor (m := X.mg) (by rw [I2.ok.glob]; exact (I2.mod.glob.keeps I2.bk).extBut hx TB.gP) e1 e2 (keep3 _ _ e4 (I2.bk _ _ e5)) e6 e7 e8 ?_
    have I3 := inv_tab (more := more) (h' := h3) (g' := s2.gens) (d' := s2.drawn) (t' := tk) I2 hP keep3 hP3 I2.bare
    intro h' hn' hs'
    refine Calls.spliced_nil ?_
    have hszC : h'.objs.size = h3.objs.size + 1 := by
      have := hs'.1
      rw [Heap.size_push] at this
      exact this
    -- the context
    generalize hce : genEnv scope (cloFrom X.env.cells scope.names []) h3.objs.size code builtinsNs X.env = cenv
    have c1 : cenv.scope = scope := by rw [← hce]; rfl
    have c2 : cenv.locals = h3.objs.size := by rw [← hce]; rfl
    have c3 : cenv.cells = cloFrom X.env.cells scope.names [] := by rw [← hce]; rfl
    have c4 : cenv.globals = X.env.globals := by rw [← hce]; rfl
    have c5 : cenv.builtins = builtinsNs := by rw [← hce]; rfl
    have c6 : cenv.frame = some cenv.locals := by rw [← hce]; rfl
    obtain ⟨hrg, hfr⟩ := gen_over (A := X.A) (elt := elt) (tg := tg) (iter := iter) (scope := scope) (pos := gpos) (it := it) (cenv := cenv) hr I2.ok.frames
    have fpOk3 : ∀ b ∈ fp, FpOk X pins (upd H1 P (.tbl (ps ++ more))) b ∧ b < h3.objs.size := fun b hb =>
      ⟨⟨by rw [upd_ne (fpP b hb)]; exact (f2 b hb).1, (f2 b hb).2⟩, Nat.lt_of_lt_of_le (fplt b hb) hsz⟩
    have IG := gen_begin (A := (X.A.in1.in1).over (loopC elt tg iter scope gpos it cenv) []) (gens' := s2.gens.push (.fresh (.compStart (gexp elt tg iter scope gpos) 0 (.ref it) .none cenv))) (tk := tk + 1 + 1 + 1)
      (a := h'.objs.size) (go := { cls := .type "generator", data := .fields #[.int s2.gens.size 0, .str "<genexpr>" (tk + 1), .str (X.env.qual ++ "<genexpr>") (tk + 1 + 1)] })
      I3 ok hN fpOk3 c1 c2 c3 c4 c5 c6 hr.hd hfr hn' hs' rfl (fun v z => by cases z) rfl (I2.bare.push rfl)
    obtain ⟨W, m, hW, hPl⟩ := cont (upd H1 P (.tbl (ps ++ more))) ⟨⟨ps ++ more, upd_same, ht3⟩, fun b hb => upd_ne hb⟩
    have hd := hr.hd
    have hroom : X.A.depth < recursionLimit := by have := hr.dp; omega
    refine call_function_tree F.kind_all F.plain_all F.entry_all (F.args_all1 _) ?_
    unfold Builtin.«all»
    refine wpAny_bind (m := oneArg "all" _) (wpAny_pure ?_)
    refine wpAny_bind (wpAny_pyIter_gen ⟨_, _, _, Heap.get?_push_size _ rfl, rfl, rfl, rfl⟩ ?_)
    refine wpAny_pure ⟨plainId_quiet F.plain_all_loop _, ?_⟩
    refine all_loop (A := X.A) (a := h'.objs.size) (g := s2.gens.size)
      (Q := fun b H => Q (.bl b) H) (Xg := cxG X X.N ((X.A.in1.in1).over (loopC elt tg iter scope gpos it cenv) []) cenv { s2 with heap := h3, toks := tk } (upd H1 P (.tbl (ps ++ more))) fp)
      (go := { cls := .type "generator", data := .fields #[.int s2.gens.size 0, .str "<genexpr>" (tk + 1), .str (X.env.qual ++ "<genexpr>") (tk + 1 + 1)] }) rfl rfl rfl hd hroom (fun h e => ⟨_, _, _, e, rfl, rfl, rfl⟩)
      (fun b s' hE => ?_) m _ ⟨_, _, IG⟩ ⟨_, Array.getElem?_push_size .., fun s'' e1 e2 e3 => ⟨rfl, ?_⟩⟩
    · obtain ⟨σ', H', I', q'⟩ := hE
      have J : Inv X pins σ H' s' := I3.call' (ch := fp) I'.os I'.base I'.hok I'.bare fun b hb => ⟨(f2 b hb).2.2.2.1, (f2 b hb).2.1, (f2 b hb).2.2.2.2.1, (f2 b hb).2.2.2.2.2⟩
      exact ⟨.bl b, H', J, rfl, q'⟩
    · refine seg_start (Xg := cxG X X.N ((X.A.in1.in1).over (loopC elt tg iter scope gpos it cenv) []) cenv { s2 with heap := h3, toks := tk } (upd H1 P (.tbl (ps ++ more))) fp) (As := X.A.in1.in1) (tg := tg) (elt := elt) (iter := iter) (it := it) (fp := fp) (tn := tn) (J := J) (g := g) (te := te) (W := W)
        rfl rfl rfl (by show cenv.scope.isCoroutine = false; rw [c1]; exact ok.co) T (hgt _ _ _ _ _ c1) (hel _ _ _ _ _ c1 hrg) hPl rfl m m s'' s'' (Nat.le_refl _) ?_
      refine ⟨_, _, Inv.sim IG e1 e2 e3, ?_, fun b hb => ?_, hW⟩
      · rw [e1]
        refine T.keep 0 _ _ st2 fun b hb o e => Heap.get?_push_of_some _ (hs'.extBut b o (Nat.ne_of_lt (fpOk3 b hb).2) (Heap.get?_push_of_some _ (keep3 b o (fpP b hb) e)))
      · refine ⟨(fpOk3 b hb).1.1, ?_, ?_, .inl hb, fun y c' e => ?_, fun p hp => ?_⟩
        · show b ≠ cenv.locals
          rw [c2]; exact Nat.ne_of_lt (fpOk3 b hb).2
        · intro z
          rcases List.mem_cons.mp (I3.stkSub b z) with z | z
          · exact (f2 b hb).2.1 z
          · exact (f2 b hb).2.2.1 z
        · have e : cenv.cells.lookup y = some c' := e
          rw [c3] at e
          rcases cloFrom_mem (PySem.mem_of_lookup e) with hm | ⟨h1, h2⟩
          · cases hm
          · obtain ⟨c0, hc0⟩ := hfree _ h1 rfl
            rw [hc0] at h2
            exact fun z => (f2 b hb).2.2.2.2.1 y c0 hc0 (by rw [← z, h2]; rfl)
        · have hp' : p.1 = h'.objs.size := by
            rcases List.mem_append.mp hp with z | z
            · exact absurd z (by simp [cxG])
            · rcases List.mem_cons.mp z with z | z
              · rw [z]
              · cases z
          rw [hp']
          exact Nat.ne_of_gt (Nat.lt_trans (fpOk3 b hb).2 (by rw [hszC]; exact Nat.lt_succ_self _))
  cases hf : codeAmong gpos ps.toList with
  | none =>
    refine wpAny_genexprCodeX hcode (cd.code hPs ht) (cd.tab hPs) hf fun c' h' tk hx hge hlt hco' _ htab' _ => ?_
    obtain ⟨o1, vs, f1, tf, fl, tg', inF, tx, tt, op, _, _, _, _, _, _, _, _, _, htr, _⟩ := hco'
    exact main _ h' tk _ hx (Nat.le_trans hge (Nat.le_of_lt hlt)) htab'.2 ⟨_, rfl⟩ htr
  | some cv => exact wpAny_genexprCode_hit hcode (cd.code hPs ht) hf (main cv s2.heap s2.toks ps (Heap.ExtBut.refl _ _) (Nat.le_refl _) hPs ⟨#[], by simp⟩ ht)
end GA

namespace DL
open PySem PySem.Spec PyProof.Rows L2

/-! ### values as trees: a tuple is its items; lists and dicts stand in a store -/
inductive D where
  | non | bl (b : Bool) | int (i : Int) | str (s : Str) | ref (a : Addr) | tup (ds : List D) | ktup (ds : List D)

mutual
inductive Rep (K : PySem.W.Frag) (H : Hp) : D → V → Prop
  | non : Rep K H .non .non
  | bl (b : Bool) : Rep K H (.bl b) (.bl b)
  | int (i : Int) : Rep K H (.int i) (.int i)
  | str (s : Str) : Rep K H (.str s) (.str s)
  | ref (a : Addr) : Rep K H (.ref a) (.ref a)
  | tup {a : Addr} {xs : List V} {ds : List D} : H a = some (.tup xs) → Reps K H ds xs → Rep K H (.tup ds) (.ref a)
  | ktup {a : Addr} {xs : List V} {ds : List D} : SqT K H a xs → Reps K H ds xs → Rep K H (.ktup ds) (.ref a)
inductive Reps (K : PySem.W.Frag) (H : Hp) : List D → List V → Prop
  | nil : Reps K H [] []
  | cons {d : D} {v : V} {ds : List D} {vs : List V} : Rep K H d v → Reps K H ds vs → Reps K H (d :: ds) (v :: vs)
end

/-- tuples stand -/
def Ts (K : PySem.W.Frag) (H H' : Hp) : Prop := (∀ a xs, SqT K H a xs → SqT K H' a xs) ∧ ∀ a xs, H a = some (.tup xs) → H' a = some (.tup xs)
theorem Ts.refl (K : PySem.W.Frag) (H : Hp) : Ts K H H := ⟨fun _ _ h => h, fun _ _ h => h⟩
theorem Ts.trans {K : PySem.W.Frag} {H H1 H2 : Hp} (a : Ts K H H1) (b : Ts K H1 H2) : Ts K H H2 := ⟨fun x xs h => b.1 x xs (a.1 x xs h), fun x xs h => b.2 x xs (a.2 x xs h)⟩

section
variable {K : PySem.W.Frag} {H H' : Hp}
mutual
theorem Rep.mono (t : Ts K H H') : ∀ (d : D) (v : V), Rep K H d v → Rep K H' d v
  | .non, _, h => by cases h; exact .non
  | .bl b, _, h => by cases h; exact .bl b
  | .int i, _, h => by cases h; exact .int i
  | .str s, _, h => by cases h; exact .str s
  | .ref a, _, h => by cases h; exact .ref a
  | .tup ds, _, h => by
    cases h with
    | tup h1 h2 => exact .tup (t.2 _ _ h1) (Reps.mono t ds _ h2)
  | .ktup ds, _, h => by
    cases h with
    | ktup h1 h2 => exact .ktup (t.1 _ _ h1) (Reps.mono t ds _ h2)
theorem Reps.mono (t : Ts K H H') : ∀ (ds : List D) (vs : List V), Reps K H ds vs → Reps K H' ds vs
  | [], _, h => by cases h; exact .nil
  | d :: ds, _, h => by
    cases h with
    | cons h1 h2 => exact .cons (Rep.mono t d _ h1) (Reps.mono t ds _ h2)
end
theorem Reps.length : ∀ {ds : List D} {vs : List V}, Reps K H ds vs → ds.length = vs.length
  | [], _, h => by cases h; rfl
  | d :: ds, _, h => by
    cases h with
    | cons h1 h2 => simp [Reps.length h2]
theorem Reps.get : ∀ {ds : List D} {vs : List V} {i : Nat} {d : D}, Reps K H ds vs → ds[i]? = some d → ∃ v, vs[i]? = some v ∧ Rep K H d v
  | [], _, _, _, _, e => by simp at e
  | d :: ds, _, 0, _, h, e => by
    cases h with
    | cons h1 h2 => simp at e; subst e; exact ⟨_, rfl, h1⟩
  | d :: ds, _, i + 1, _, h, e => by
    cases h with
    | cons h1 h2 =>
      obtain ⟨v, e1, e2⟩ := Reps.get (i := i) h2 (by simpa using e)
      exact ⟨v, by simpa using e1, e2⟩
theorem Reps.getV : ∀ {ds : List D} {vs : List V} {i : Nat} {v : V}, Reps K H ds vs → vs[i]? = some v → ∃ d, ds[i]? = some d ∧ Rep K H d v
  | [], _, _, _, h, e => by cases h; simp at e
  | d :: ds, _, 0, _, h, e => by
    cases h with
    | cons h1 h2 => simp at e; subst e; exact ⟨_, rfl, h1⟩
  | d :: ds, _, i + 1, _, h, e => by
    cases h with
    | cons h1 h2 =>
      obtain ⟨v, e1, e2⟩ := Reps.getV (i := i) h2 (by simpa using e)
      exact ⟨v, by simpa using e1, e2⟩
theorem Reps.append : ∀ {ds es : List D} {vs us : List V}, Reps K H ds vs → Reps K H es us → Reps K H (ds ++ es) (vs ++ us)
  | [], _, _, _, h, s => by cases h; exact s
  | d :: ds, _, _, _, h, s => by
    cases h with
    | cons h1 h2 => exact .cons h1 (Reps.append h2 s)
theorem Reps.take : ∀ {ds : List D} {vs : List V} (n : Nat), Reps K H ds vs → Reps K H (ds.take n) (vs.take n)
  | _, _, 0, _ => .nil
  | [], _, _ + 1, h => by cases h; exact .nil
  | d :: ds, _, n + 1, h => by
    cases h with
    | cons h1 h2 => exact .cons h1 (Reps.take n h2)
theorem Reps.drop : ∀ {ds : List D} {vs : List V} (n : Nat), Reps K H ds vs → Reps K H (ds.drop n) (vs.drop n)
  | _, _, 0, h => h
  | [], _, _ + 1, h => by cases h; exact .nil
  | d :: ds, _, n + 1, h => by
    cases h with
    | cons h1 h2 => exact Reps.drop n h2
theorem Reps.erase : ∀ {ds : List D} {vs : List V} (n : Nat), Reps K H ds vs → Reps K H (ds.eraseIdx n) (vs.eraseIdx n)
  | [], _, _, h => by cases h; exact .nil
  | d :: ds, _, 0, h => by cases h with | cons h1 h2 => exact h2
  | d :: ds, _, n + 1, h => by cases h with | cons h1 h2 => exact .cons h1 (Reps.erase n h2)
theorem Reps.set {d : D} {v : V} (r : Rep K H d v) : ∀ {ds : List D} {vs : List V} (n : Nat), Reps K H ds vs → Reps K H (ds.set n d) (vs.set n v)
  | [], _, _, h => by cases h; exact .nil
  | d :: ds, _, 0, h => by cases h with | cons h1 h2 => exact .cons r h2
  | d :: ds, _, n + 1, h => by cases h with | cons h1 h2 => exact .cons h1 (Reps.set r n h2)
theorem Reps.strs : ∀ {ss : List Str} {vs : List V}, Reps K H (ss.map D.str) vs → vs = ss.map V.str
  | [], _, h => by cases h; rfl
  | s :: ss, _, h => by
    cases h with
    | cons h1 h2 => cases h1; rw [Reps.strs h2]; rfl
theorem Reps.of_strs : ∀ (ss : List Str), Reps K H (ss.map D.str) (ss.map V.str)
  | [] => .nil
  | s :: ss => .cons (.str s) (Reps.of_strs ss)
end

/-! ### the store -/
inductive DO where
  | lst (ds : List D) | dic (kvs : List (Key × D)) | dit (kvs : List (List Key × D)) | lck (kvs : List (List Key × D)) (o : HO) | ext (f : Heap → Prop) (ts : List (Addr × D))

/-- what stands beside the store: its invariant, its addresses -/
structure Gh where
  inv : Hp → Prop
  own : Addr → Prop
  stable : ∀ H H', inv H → (∀ a, own a → H' a = H a) → inv H'
  there : ∀ H, inv H → ∀ a, own a → H a ≠ none

structure M where
  mu : Addr → Option DO
  gh : Gh
def M.set (m : M) (a : Addr) (o : DO) : M := { m with mu := fun b => if b = a then some o else m.mu b }
theorem M.set_same {m : M} {a : Addr} {o : DO} : (m.set a o).mu a = some o := by simp [M.set]
theorem M.set_ne {m : M} {a b : Addr} {o : DO} (h : b ≠ a) : (m.set a o).mu b = m.mu b := by simp [M.set, h]
theorem M.set_gh {m : M} {a : Addr} {o : DO} : (m.set a o).gh = m.gh := rfl

def KVd (K : PySem.W.Frag) (H : Hp) {κ : Type} : List (κ × D) → List (κ × V) → Prop := Paired fun p q => p.1 = q.1 ∧ Rep K H p.2 q.2

def RepO (K : PySem.W.Frag) (H : Hp) (a : Addr) : DO → Prop
  | .lst ds => ∃ xs, H a = some (.lst xs) ∧ Reps K H ds xs
  | .dic kvs => ∃ ys, H a = some (.dK ys) ∧ KVd K H kvs ys
  | .dit kvs => ∃ ys, H a = some (.dT ys) ∧ KVd K H kvs ys
  | .lck kvs o => H a = some o ∧ ∃ od ys, o = .frz od (.dT ys) ∧ KVd K H kvs ys
  | .ext f ts => H a = some (.ext f) ∧ ∀ t ∈ ts, Rep K H t.2 (.ref t.1)
structure RelH (K : PySem.W.Frag) (H : Hp) (m : M) : Prop where
  inv : m.gh.inv H
  sep : ∀ a, m.gh.own a → m.mu a = none
  obj : ∀ a o, m.mu a = some o → RepO K H a o
/-- slots: what is known of each -/
def RelS (K : PySem.W.Frag) (H : Hp) : List (Option D) → L2.St → Prop := Paired fun od ov => ∀ d, od = some d → ∃ v, ov = some v ∧ Rep K H d v

section
variable {K : PySem.W.Frag} {H H' : Hp}
theorem KVd.mono {κ : Type} (t : Ts K H H') {a : List (κ × D)} {b : List (κ × V)} (h : KVd K H a b) : KVd K H' a b := Paired.mapP h fun p q z => ⟨z.1, Rep.mono t _ _ z.2⟩
theorem RelS.mono (t : Ts K H H') {δ : List (Option D)} {σ : L2.St} (h : RelS K H δ σ) : RelS K H' δ σ := Paired.mapP h fun p q z d e => by
  obtain ⟨v, e1, e2⟩ := z d e
  exact ⟨v, e1, Rep.mono t _ _ e2⟩
theorem RelS.get : ∀ {δ : List (Option D)} {σ : L2.St} {i : Nat} {d : D}, RelS K H δ σ → δ[i]? = some (some d) → ∃ v, σ[i]? = some (some v) ∧ Rep K H d v
  | _, _, _, _, .nil, e => by simp at e
  | _, _, 0, _, .cons r _, e => by
    simp at e
    obtain ⟨v, e1, e2⟩ := r _ e
    exact ⟨v, by simp [e1], e2⟩
  | _, _, i + 1, d, .cons _ t, e => by
    obtain ⟨v, h1, h2⟩ := RelS.get (i := i) (d := d) t (by simpa using e)
    exact ⟨v, by simpa using h1, h2⟩
theorem RelS.set {d : D} {v : V} (r : Rep K H d v) : ∀ {δ : List (Option D)} {σ : L2.St} (i : Nat), RelS K H δ σ → RelS K H (δ.set i (some d)) (σ.set i (some v))
  | _, _, _, .nil => .nil
  | _, _, 0, .cons _ t => .cons (fun e h => by cases h; exact ⟨v, rfl, r⟩) t
  | _, _, i + 1, .cons q t => .cons q (RelS.set r i t)
theorem RelS.length : ∀ {δ : List (Option D)} {σ : L2.St}, RelS K H δ σ → δ.length = σ.length := fun h => Paired.length h
theorem RelS.forget : ∀ {δ : List (Option D)} {σ : L2.St} (i : Nat) (x : Option V), RelS K H δ σ → RelS K H (δ.set i none) (σ.set i x)
  | _, _, _, _, .nil => .nil
  | _, _, 0, _, .cons _ t => .cons (fun e h => by cases h) t
  | _, _, i + 1, x, .cons q t => .cons q (RelS.forget i x t)

theorem Ts.new {a : Addr} {o : HO} (h : H a = none) : Ts K H (upd H a o) := ⟨fun b xs s => by
  rcases s with (s | ⟨ob, s⟩) | s
  · exact .inl (.inl (by rw [upd_ne (ne_of_none s h)]; exact s))
  · exact .inl (.inr ⟨ob, by rw [upd_ne (ne_of_none s h)]; exact s⟩)
  · exact .inr s, fun b xs s => by rw [upd_ne (ne_of_none s h)]; exact s⟩
theorem Ts.put {a : Addr} {o u : HO} (h : H a = some u) (hu : ∀ xs, u ≠ .tup xs) (hf : ∀ ob xs, u ≠ .frz ob (.tup xs)) : Ts K H (upd H a o) := ⟨fun b xs s => by
  rcases s with (s | ⟨ob, s⟩) | s
  · have ne : b ≠ a := fun e => by subst e; rw [h] at s; cases s; exact hu _ rfl
    exact .inl (.inl (by rw [upd_ne ne]; exact s))
  · have ne : b ≠ a := fun e => by subst e; rw [h] at s; cases s; exact hf _ _ rfl
    exact .inl (.inr ⟨ob, by rw [upd_ne ne]; exact s⟩)
  · exact .inr s, fun b xs s => by
    have ne : b ≠ a := fun e => by subst e; rw [h] at s; cases s; exact hu _ rfl
    rw [upd_ne ne]; exact s⟩

theorem RepO.mono {a : Addr} {o : DO} (t : Ts K H H') (ha : H' a = H a) (h : RepO K H a o) : RepO K H' a o := by
  cases o with
  | lst ds => obtain ⟨xs, e, r⟩ := h; exact ⟨xs, ha.trans e, Reps.mono t _ _ r⟩
  | dic kvs => obtain ⟨ys, e, r⟩ := h; exact ⟨ys, ha.trans e, r.mono t⟩
  | dit kvs => obtain ⟨ys, e, r⟩ := h; exact ⟨ys, ha.trans e, r.mono t⟩
  | lck kvs o => obtain ⟨e, od, ys, e2, r⟩ := h; exact ⟨ha.trans e, od, ys, e2, r.mono t⟩
  | ext f ts => exact ⟨ha.trans h.1, fun z hz => Rep.mono t _ _ (h.2 z hz)⟩
theorem RepO.some {a : Addr} {o : DO} (h : RepO K H a o) : ∃ u, H a = some u ∧ (∀ xs, u ≠ .tup xs) ∧ (∀ ob xs, u ≠ .frz ob (.tup xs)) := by
  cases o with
  | lst ds => obtain ⟨xs, e, r⟩ := h; exact ⟨_, e, (fun _ z => by cases z), (fun _ _ z => by cases z)⟩
  | dic kvs => obtain ⟨ys, e, r⟩ := h; exact ⟨_, e, (fun _ z => by cases z), (fun _ _ z => by cases z)⟩
  | dit kvs => obtain ⟨ys, e, r⟩ := h; exact ⟨_, e, (fun _ z => by cases z), (fun _ _ z => by cases z)⟩
  | lck kvs o => obtain ⟨e, od, ys, e2, r⟩ := h; subst e2; exact ⟨_, e, (fun _ z => by cases z), (fun _ _ z => by cases z)⟩
  | ext f ts => exact ⟨_, h.1, (fun _ z => by cases z), (fun _ _ z => by cases z)⟩
theorem RelH.fresh {m : M} {p : Addr} (r : RelH K H m) (h : H p = none) : m.mu p = none := by
  cases e : m.mu p with
  | none => rfl
  | some o =>
    obtain ⟨u, hu, _⟩ := (r.obj p o e).some
    rw [h] at hu; cases hu
/-- a new thing of which the store knows nothing -/
theorem RelH.new {m : M} {p : Addr} {o : HO} (r : RelH K H m) (h : H p = none) : RelH K (upd H p o) m where
  inv := m.gh.stable _ _ r.inv fun a ha => upd_ne fun e => by subst e; exact m.gh.there _ r.inv a ha h
  sep := r.sep
  obj := fun a x e => (r.obj a x e).mono (Ts.new h) (upd_ne fun z => by subst z; rw [r.fresh h] at e; cases e)
/-- a new thing in the store -/
theorem RelH.newO {m : M} {p : Addr} {o : HO} {x : DO} (r : RelH K H m) (h : H p = none) (hx : RepO K (upd H p o) p x) : RelH K (upd H p o) (m.set p x) where
  inv := (r.new h).inv
  sep := fun a ha => by
    have ne : a ≠ p := fun e => by subst e; exact m.gh.there _ r.inv a ha h
    rw [M.set_ne ne]; exact r.sep a ha
  obj := fun a y e => by
    by_cases z : a = p
    · subst z; rw [M.set_same] at e; cases e; exact hx
    · rw [M.set_ne z] at e; exact (r.new h).obj a y e
/-- a thing of the store is changed -/
theorem RelH.put {m : M} {p : Addr} {o : HO} {x y : DO} (r : RelH K H m) (h : m.mu p = some y) (hx : RepO K (upd H p o) p x) : RelH K (upd H p o) (m.set p x) := by
  obtain ⟨u, hu, n1, n2⟩ := (r.obj p y h).some
  refine ⟨m.gh.stable _ _ r.inv fun a ha => upd_ne fun e => ?_, fun a ha => ?_, fun a z e => ?_⟩
  · subst e; rw [r.sep a ha] at h; cases h
  · have ne : a ≠ p := fun e => by subst e; rw [r.sep a ha] at h; cases h
    rw [M.set_ne ne]; exact r.sep a ha
  · by_cases q : a = p
    · subst q; rw [M.set_same] at e; cases e; exact hx
    · rw [M.set_ne q] at e; exact (r.obj a z e).mono (Ts.put hu n1 n2) (upd_ne q)
theorem RelH.putTS {m : M} {p : Addr} {o : HO} {y : DO} (r : RelH K H m) (h : m.mu p = some y) : Ts K H (upd H p o) := by
  obtain ⟨u, hu, n1, n2⟩ := (r.obj p y h).some
  exact Ts.put hu n1 n2
end

/-! ### transformers over trees -/
abbrev Sl := List (Option D)
abbrev DK := D → M → Prop
abbrev DTr := Sl → M → DK → Prop
abbrev DTT := Sl → M → (Bool → M → Prop) → Prop
abbrev DTA := Sl → M → (List D → M → Prop) → Prop

def Fits (K : PySem.W.Frag) (H : Hp) (Q' : DK) (Q : VK) : Prop := ∀ d m, Q' d m → ∀ v H', Ts K H H' → Rep K H' d v → RelH K H' m → Q v H'
theorem Fits.mono {K : PySem.W.Frag} {H H1 : Hp} {Q' : DK} {Q : VK} (t : Ts K H H1) (f : Fits K H Q' Q) : Fits K H1 Q' Q := fun d m q v H' t' r rh => f d m q v H' (t.trans t') r rh
def up (K : PySem.W.Frag) (t : DTr) : TE := fun σ H Q => ∃ δ m Q', RelS K H δ σ ∧ RelH K H m ∧ t δ m Q' ∧ Fits K H Q' Q
def FitsB (K : PySem.W.Frag) (H : Hp) (Q' : Bool → M → Prop) (Q : Bool → Hp → Prop) : Prop := ∀ b m, Q' b m → ∀ H', Ts K H H' → RelH K H' m → Q b H'
def upB (K : PySem.W.Frag) (t : DTT) : TT := fun σ H Q => ∃ δ m Q', RelS K H δ σ ∧ RelH K H m ∧ t δ m Q' ∧ FitsB K H Q' Q
def FitsA (K : PySem.W.Frag) (H : Hp) (Q' : List D → M → Prop) (Q : List V → Hp → Prop) : Prop := ∀ ds m, Q' ds m → ∀ vs H', Ts K H H' → Reps K H' ds vs → RelH K H' m → Q vs H'
def upA (K : PySem.W.Frag) (t : DTA) : TA := fun σ H Q => ∃ δ m Q', RelS K H δ σ ∧ RelH K H m ∧ t δ m Q' ∧ FitsA K H Q' Q

def DE (X : Cx) (e : Expr) (t : DTr) : Prop := PE X e (up X.K t)
def DTst (X : Cx) (e : Expr) (t : DTT) : Prop := PT X e (upB X.K t)
def DTW (X : Cx) (e : Expr) (t : DTT) : Prop := PW X e (upB X.K t)
def DA (X : Cx) (es : List Expr) (t : DTA) : Prop := PA X es (upA X.K t)

theorem _root_.L2.PE.imp {X : Cx} {e : Expr} {t t' : TE} (h : PE X e t) (i : ∀ σ H Q, t' σ H Q → t σ H Q) : PE X e t' := ⟨fun pins s σ H Q I q => h.run pins s σ H Q I (i σ H Q q)⟩
theorem _root_.L2.PT.imp {X : Cx} {e : Expr} {t t' : TT} (h : PT X e t) (i : ∀ σ H Q, t' σ H Q → t σ H Q) : PT X e t' := ⟨fun pins s σ H Q I q => h.run pins s σ H Q I (i σ H Q q)⟩
theorem _root_.L2.PW.imp {X : Cx} {e : Expr} {t t' : TT} (h : PW X e t) (i : ∀ σ H Q, t' σ H Q → t σ H Q) : PW X e t' := ⟨fun wh pins s σ H Q I q => h.run wh pins s σ H Q I (i σ H Q q)⟩
theorem _root_.L2.PA.imp {X : Cx} {es : List Expr} {t t' : TA} (h : PA X es t) (i : ∀ σ H Q, t' σ H Q → t σ H Q) : PA X es t' := ⟨fun pos pins s σ H Q I q => h.run pos pins s σ H Q I (i σ H Q q)⟩
theorem _root_.L2.PS.imp {X : Cx} {st : Stmt} {t t' : L2.TS} (h : PS X st t) (i : ∀ D σ H, t' D σ H → t D σ H) : PS X st t' := ⟨fun pins s σ H D I q => h.run pins s σ H D I (i D σ H q)⟩
theorem _root_.L2.PSs.imp {X : Cx} {st : List Stmt} {t t' : L2.TS} (h : PSs X st t) (i : ∀ D σ H, t' D σ H → t D σ H) : PSs X st t' := ⟨fun pins s σ H D I q => h.run pins s σ H D I (i D σ H q)⟩

/-! ### two in a row -/
abbrev DR2 := D → D → M → DK → Prop
def dOp (R : DR2) (ta tb : DTr) : DTr := fun δ m Q => ta δ m fun x m1 => tb δ m1 fun y m2 => R x y m2 Q
def OpL (K : PySem.W.Frag) (r : R2) (R : DR2) : Prop := ∀ (x y : D) (vx vy : V) (H : Hp) (m : M) (Q' : DK) (Q : VK), Rep K H x vx → Rep K H y vy → RelH K H m → R x y m Q' → Fits K H Q' Q → r vx vy H Q
theorem up_op {K : PySem.W.Frag} {r : R2} {R : DR2} (h : OpL K r R) {ta tb : DTr} : ∀ σ H Q, up K (dOp R ta tb) σ H Q → tOp r (up K ta) (up K tb) σ H Q := by
  rintro σ H Q ⟨δ, m, Q', rs, rh, t, f⟩
  refine ⟨δ, m, _, rs, rh, t, fun x m1 q1 v H1 t1 r1 rh1 => ?_⟩
  refine ⟨δ, m1, _, rs.mono t1, rh1, q1, fun y m2 q2 u H2 t2 r2 rh2 => ?_⟩
  exact h x y v u H2 m2 Q' Q (Rep.mono t2 _ _ r1) r2 rh2 q2 (f.mono (t1.trans t2))
def dUn (R : D → M → DK → Prop) (ta : DTr) : DTr := fun δ m Q => ta δ m fun x m1 => R x m1 Q
def UnL (K : PySem.W.Frag) (r : V → Hp → VK → Prop) (R : D → M → DK → Prop) : Prop := ∀ (x : D) (vx : V) (H : Hp) (m : M) (Q' : DK) (Q : VK), Rep K H x vx → RelH K H m → R x m Q' → Fits K H Q' Q → r vx H Q
theorem up_un {K : PySem.W.Frag} {r : V → Hp → VK → Prop} {R : D → M → DK → Prop} (h : UnL K r R) {ta : DTr} : ∀ σ H Q, up K (dUn R ta) σ H Q → tUn r (up K ta) σ H Q := by
  rintro σ H Q ⟨δ, m, Q', rs, rh, t, f⟩
  exact ⟨δ, m, _, rs, rh, t, fun x m1 q1 v H1 t1 r1 rh1 => h x v H1 m1 Q' Q r1 rh1 q1 (f.mono t1)⟩
/-- arguments -/
abbrev DRA := List D → M → DK → Prop
def dArgs (R : DRA) (t : DTA) : DTr := fun δ m Q => t δ m fun xs m1 => R xs m1 Q
def ArgL (K : PySem.W.Frag) (r : List V → Hp → VK → Prop) (R : DRA) : Prop := ∀ (xs : List D) (vs : List V) (H : Hp) (m : M) (Q' : DK) (Q : VK), Reps K H xs vs → RelH K H m → R xs m Q' → Fits K H Q' Q → r vs H Q
theorem up_args {K : PySem.W.Frag} {r : List V → Hp → VK → Prop} {R : DRA} (h : ArgL K r R) {t : DTA} : ∀ σ H Q, up K (dArgs R t) σ H Q → upA K t σ H (fun vs H1 => r vs H1 Q) := by
  rintro σ H Q ⟨δ, m, Q', rs, rh, t, f⟩
  exact ⟨δ, m, _, rs, rh, t, fun xs m1 q1 vs H1 t1 r1 rh1 => h xs vs H1 m1 Q' Q r1 rh1 q1 (f.mono t1)⟩

/-! ### names, constants -/
section
variable {X : Cx}
def dVar (i : Nat) : DTr := fun δ m Q => ∃ d, δ[i]? = some (some d) ∧ Q d m
def dC (d : D) : DTr := fun _ m Q => Q d m
theorem de_of_var {e : Expr} {i : Nat} (h : PE X e (tVar i)) : DE X e (dVar i) := h.imp fun σ H Q ⟨δ, m, Q', rs, rh, ⟨d, e, q⟩, f⟩ => by
  obtain ⟨v, e1, r⟩ := rs.get e
  exact ⟨v, e1, f d m q v H (Ts.refl _ _) r rh⟩
theorem de_var (i : Nat) {x : Str} {pos : Pos} (hN : X.N[i]? = some x := by rfl) (hv : Vis X.env.scope x := by first | exact Or.inl rfl | exact Or.inr (Or.inl rfl) | exact Or.inr (Or.inr rfl)) (hd : (x == ("__debug__" : Str)) = false := by decide)
    (hcd : (x == ("__classdict__" : Str)) = false := by decide) : DE X (.Name x pos) (dVar i) := de_of_var (pe_var hN hv hd hcd)
theorem de_of_c {e : Expr} {v : V} {d : D} (h : PE X e (tC v)) (r : ∀ H, Rep X.K H d v) : DE X e (dC d) := h.imp fun σ H Q ⟨δ, m, Q', rs, rh, q, f⟩ => f d m q v H (Ts.refl _ _) (r H) rh
theorem de_int {i j pos} : DE X (.Constant (.int i) j pos) (dC (.int i)) := de_of_c pe_int fun _ => .int i
theorem de_bl {b j pos} : DE X (.Constant (.bool b) j pos) (dC (.bl b)) := de_of_c pe_bl fun _ => .bl b
theorem de_non {j pos} : DE X (.Constant .none j pos) (dC .non) := de_of_c pe_non fun _ => .non
theorem de_str {s j pos} : DE X (.Constant (.str s) j pos) (dC (.str s)) := de_of_c pe_str fun _ => .str s
theorem de_glob {x : Str} {v : V} {d : D} {u : Value} {pos : Pos} (hg : Gl X x) (hm : X.mg x = some u) (rv : RelV v u) (r : ∀ H, Rep X.K H d v) (hd : (x == ("__debug__" : Str)) = false := by decide) : DE X (.Name x pos) (dC d) := de_of_c (pe_glob hg hm rv hd) r

/-! ### arguments -/
def dNil : DTA := fun _ m Q => Q [] m
def dCons (te : DTr) (t : DTA) : DTA := fun δ m Q => te δ m fun x m1 => t δ m1 fun xs m2 => Q (x :: xs) m2
theorem da_nil : DA X [] dNil := pa_nil.imp fun σ H Q ⟨δ, m, Q', rs, rh, q, f⟩ => f [] m q [] H (Ts.refl _ _) .nil rh
theorem da_cons {e : Expr} {es : List Expr} {te : DTr} {t : DTA} (he : DE X e te) (hr : DA X es t) (hs : starEach (e :: es) X.env = (false, eval e X.env) :: starEach es X.env := by rfl) : DA X (e :: es) (dCons te t) :=
  (pa_cons he hr hs).imp fun σ H Q ⟨δ, m, Q', rs, rh, q, f⟩ =>
    ⟨δ, m, _, rs, rh, q, fun x m1 q1 v H1 t1 r1 rh1 => ⟨δ, m1, _, rs.mono t1, rh1, q1, fun xs m2 q2 vs H2 t2 r2 rh2 =>
      f (x :: xs) m2 q2 (v :: vs) H2 (t1.trans t2) (.cons (Rep.mono t2 _ _ r1) r2) rh2⟩⟩

/-! ### displays -/
def dTup (t : DTA) : DTr := fun δ m Q => t δ m fun xs m1 => xs.length ≤ sizeLine ∧ Q (.tup xs) m1
theorem de_tup {es : List Expr} {t : DTA} {x1} {pos : Pos} (h : DA X es t) : DE X (.Tuple es x1 pos) (dTup t) := (pe_tup h).imp fun σ H Q ⟨δ, m, Q', rs, rh, q, f⟩ =>
  ⟨δ, m, _, rs, rh, q, fun xs m1 ⟨z, q1⟩ vs H1 t1 r1 rh1 => ⟨by rw [← r1.length]; exact z, fun p hp =>
    f (.tup xs) m1 q1 (.ref p) _ (t1.trans (Ts.new hp)) (.tup upd_same (Reps.mono (Ts.new hp) _ _ r1)) (rh1.new hp)⟩⟩
def dLst (t : DTA) : DTr := fun δ m Q => t δ m fun xs m1 => xs.length ≤ sizeLine ∧ ∀ p, m1.mu p = none → Q (.ref p) (m1.set p (.lst xs))
theorem de_lst {es : List Expr} {t : DTA} {pos : Pos} (h : DA X es t) : DE X (.List es pos) (dLst t) := (pe_lst h).imp fun σ H Q ⟨δ, m, Q', rs, rh, q, f⟩ =>
  ⟨δ, m, _, rs, rh, q, fun xs m1 ⟨z, q1⟩ vs H1 t1 r1 rh1 => ⟨by rw [← r1.length]; exact z, fun p hp =>
    f (.ref p) _ (q1 p (rh1.fresh hp)) (.ref p) _ (t1.trans (Ts.new hp)) (.ref p) (rh1.newO hp ⟨vs, upd_same, Reps.mono (Ts.new hp) _ _ r1⟩)⟩⟩
end
end DL

namespace DL
open PySem PySem.Spec PyProof.Rows L2

/-! ### equality of data -/
mutual
def D.py : D → PyData
  | .non => .none
  | .bl b => .bool b
  | .int i => .int i
  | .str s => .str s
  | .ref _ => .none
  | .tup ds => .tuple (D.pys ds)
  | .ktup ds => .tuple (D.pys ds)
def D.pys : List D → List PyData
  | [] => []
  | d :: ds => d.py :: D.pys ds
end
mutual
def D.pure : D → Bool
  | .ref _ => false
  | .tup ds => D.pures ds
  | .ktup ds => D.pures ds
  | _ => true
def D.pures : List D → Bool
  | [] => true
  | d :: ds => d.pure && D.pures ds
end
section
variable {K : PySem.W.Frag} {H : Hp}
mutual
theorem Rep.dp : ∀ (d : D) (v : V), d.pure = true → Rep K H d v → Dp K H v d.py
  | .non, _, _, h => by cases h; exact .non
  | .bl b, _, _, h => by cases h; exact .bl b
  | .int i, _, _, h => by cases h; exact .int i
  | .str s, _, _, h => by cases h; exact .str s
  | .ref a, _, p, h => by simp [D.pure] at p
  | .tup ds, _, p, h => by
    cases h with
    | tup h1 h2 => exact .tup (.inl (.inl h1)) (Reps.dp ds _ p h2)
  | .ktup ds, _, p, h => by
    cases h with
    | ktup h1 h2 => exact .tup h1 (Reps.dp ds _ p h2)
theorem Reps.dp : ∀ (ds : List D) (vs : List V), D.pures ds = true → Reps K H ds vs → DpAll K H vs (D.pys ds)
  | [], _, _, h => by cases h; exact .nil
  | d :: ds, _, p, h => by
    cases h with
    | cons h1 h2 =>
      simp only [D.pures, Bool.and_eq_true] at p
      exact .cons (Rep.dp d _ p.1 h1) (Reps.dp ds _ p.2 h2)
end
end
/-- a value's data, through a list of the store -/
inductive PyOf (m : M) : D → PyData → Prop
  | d {d : D} (h : d.pure = true) : PyOf m d d.py
  | l {a : Addr} {ds : List D} (h : m.mu a = some (.lst ds)) (p : D.pures ds = true) : PyOf m (.ref a) (.list (D.pys ds))
theorem PyOf.dp {K : PySem.W.Frag} {H : Hp} {m : M} {d : D} {v : V} {p : PyData} (h : PyOf m d p) (r : Rep K H d v) (rh : RelH K H m) : Dp K H v p := by
  cases h with
  | d h => exact Rep.dp d v h r
  | l h p =>
    cases r
    obtain ⟨xs, e, rs⟩ := rh.obj _ _ h
    exact .lst (SqL.of e) (Reps.dp _ _ p rs)
def rdEqG (neg : Bool) : DR2 := fun x y m Q => ∃ p q, PyOf m x p ∧ PyOf m y q ∧ SeqAt.shaped p = true ∧ SeqAt.shaped q = true ∧ Q (.bl (if neg then !PyData.eqv p q else PyData.eqv p q)) m
/-- ==, !=: two ints, two texts; else data -/
def rdEq (neg : Bool) : DR2 := fun x y m Q => match x, y with
  | .int i, .int j => Q (.bl (if neg then !(i == j) else i == j)) m
  | .str s, .str t => Q (.bl (if neg then !(s == t) else s == t)) m
  | x, y => rdEqG neg x y m Q
theorem opl_eqG {K : PySem.W.Frag} : OpL K (rEqD K) (rdEqG false) := fun x y vx vy H m Q' Q rx ry rh ⟨p, q, h1, h2, s1, s2, q3⟩ f =>
  ⟨p, q, h1.dp rx rh, h2.dp ry rh, s1, s2, f _ m q3 _ H (Ts.refl _ _) (.bl _) rh⟩
theorem opl_neG {K : PySem.W.Frag} : OpL K (rNeD K) (rdEqG true) := fun x y vx vy H m Q' Q rx ry rh ⟨p, q, h1, h2, s1, s2, q3⟩ f =>
  ⟨p, q, h1.dp rx rh, h2.dp ry rh, s1, s2, f _ m q3 _ H (Ts.refl _ _) (.bl _) rh⟩
theorem opl_eq {K : PySem.W.Frag} : OpL K (fun x y H Q => L2.rEq x y H Q ∨ rEqD K x y H Q) (rdEq false) := fun x y vx vy H m Q' Q rx ry rh q f => by
  cases x <;> cases y <;> first | exact .inr (opl_eqG _ _ vx vy H m Q' Q rx ry rh q f) | skip
  · cases rx; cases ry
    refine .inl ⟨rfl, ?_⟩
    rw [dec_int]
    exact f _ m q _ H (Ts.refl _ _) (.bl _) rh
  · cases rx; cases ry
    refine .inl ⟨rfl, ?_⟩
    rw [dec_str]
    exact f _ m q _ H (Ts.refl _ _) (.bl _) rh
theorem opl_ne {K : PySem.W.Frag} : OpL K (fun x y H Q => rNe x y H Q ∨ rNeD K x y H Q) (rdEq true) := fun x y vx vy H m Q' Q rx ry rh q f => by
  cases x <;> cases y <;> first | exact .inr (opl_neG _ _ vx vy H m Q' Q rx ry rh q f) | skip
  · cases rx; cases ry
    refine .inl ⟨rfl, ?_⟩
    rw [dec_int]
    exact f _ m q _ H (Ts.refl _ _) (.bl _) rh
  · cases rx; cases ry
    refine .inl ⟨rfl, ?_⟩
    rw [dec_str]
    exact f _ m q _ H (Ts.refl _ _) (.bl _) rh

section
variable {X : Cx} {a b e : Expr} {ta tb te : DTr} {pos : Pos}

/-! ### operators -/
def rdAdd : DR2 := fun x y m Q => match x, y with
  | .int i, .int j => Q (.int (i + j)) m
  | .str s, .str t => s.length + t.length ≤ sizeLine ∧ Q (.str (s ++ t)) m
  | .tup xs, .tup ys => xs ≠ [] ∧ xs.length + ys.length ≤ sizeLine ∧ Q (.tup (xs ++ ys)) m
  | .ref l, .ref k => ∃ xs ys, m.mu l = some (.lst xs) ∧ m.mu k = some (.lst ys) ∧ xs.length + ys.length ≤ sizeLine ∧ ∀ p, m.mu p = none → Q (.ref p) (m.set p (.lst (xs ++ ys)))
  | _, _ => False
theorem de_add (ha : DE X a ta) (hb : DE X b tb) : DE X (.BinOp a .Add b pos) (dOp rdAdd ta tb) := by
  refine (pe_op (((op_add.or op_add_str).or op_cat).or op_catT) ha hb).imp (up_op ?_)
  intro x y vx vy H m Q' Q rx ry rh h f
  cases x <;> cases y <;> first | exact h.elim | skip
  · cases rx; cases ry
    exact .inl (.inl (.inl ⟨_, _, rfl, rfl, f _ m h _ H (Ts.refl _ _) (.int _) rh⟩))
  · cases rx; cases ry
    exact .inl (.inl (.inr ⟨_, _, rfl, rfl, h.1, f _ m h.2 _ H (Ts.refl _ _) (.str _) rh⟩))
  · cases rx; cases ry
    obtain ⟨xs, ys, h1, h2, h3, q⟩ := h
    obtain ⟨us, e1, r1⟩ := rh.obj _ _ h1
    obtain ⟨ws, e2, r2⟩ := rh.obj _ _ h2
    refine .inl (.inr ⟨_, _, us, ws, rfl, rfl, e1, e2, by rw [← r1.length, ← r2.length]; exact h3, fun p hp => ?_⟩)
    exact f _ _ (q p (rh.fresh hp)) _ _ (Ts.new hp) (.ref p) (rh.newO hp ⟨_, upd_same, Reps.mono (Ts.new hp) _ _ (r1.append r2)⟩)
  · rename_i xs ys
    cases rx with
    | tup h1 r1 =>
      rename_i p us
      cases ry with
      | tup h2 r2 =>
        rename_i p' ws
        obtain ⟨n1, n2, q⟩ := h
        refine .inr ⟨p, p', us, ws, rfl, rfl, .inl (.inl h1), .inl (.inl h2), fun z => ?_, by rw [← r1.length, ← r2.length]; exact n2, fun z => ?_, fun z l hl => ?_⟩
        · subst z; have := r1.length; apply n1; exact List.eq_nil_of_length_eq_zero (by simpa using this)
        · subst z
          have : ys = [] := List.eq_nil_of_length_eq_zero (by simpa using r2.length)
          subst this
          rw [List.append_nil] at q
          exact f _ m q _ H (Ts.refl _ _) (.tup h1 r1) rh
        · exact f _ m q _ _ (Ts.new hl) (.tup upd_same (Reps.mono (Ts.new hl) _ _ (r1.append r2))) (rh.new hl)
def rdI (C : Int → Int → Prop) (g : Int → Int → Int) : DR2 := fun x y m Q => match x, y with
  | .int i, .int j => C i j ∧ Q (.int (g i j)) m
  | _, _ => False
theorem opl_I {K : PySem.W.Frag} {C : Int → Int → Prop} {g : Int → Int → Int} : OpL K (rI C fun i j => .int (g i j)) (rdI C g) := by
  intro x y vx vy H m Q' Q rx ry rh h f
  cases x <;> cases y <;> first | exact h.elim | skip
  cases rx; cases ry
  exact ⟨_, _, rfl, rfl, h.1, f _ m h.2 _ H (Ts.refl _ _) (.int _) rh⟩
theorem opl_I0 {K : PySem.W.Frag} {g : Int → Int → Int} : OpL K (rI0 fun i j => .int (g i j)) (rdI (fun _ _ => True) g) := by
  intro x y vx vy H m Q' Q rx ry rh h f
  cases x <;> cases y <;> first | exact h.elim | skip
  cases rx; cases ry
  exact ⟨_, _, rfl, rfl, f _ m h.2 _ H (Ts.refl _ _) (.int _) rh⟩
theorem de_sub (ha : DE X a ta) (hb : DE X b tb) : DE X (.BinOp a .Sub b pos) (dOp (rdI (fun _ _ => True) (· - ·)) ta tb) := (pe_op op_sub ha hb).imp (up_op opl_I0)
theorem de_mul (ha : DE X a ta) (hb : DE X b tb) : DE X (.BinOp a .Mult b pos) (dOp (rdI CMul (· * ·)) ta tb) := (pe_op op_mul ha hb).imp (up_op opl_I)
theorem de_xor (ha : DE X a ta) (hb : DE X b tb) : DE X (.BinOp a .BitXor b pos) (dOp (rdI (fun _ _ => True) Builtin.bitXor) ta tb) := (pe_op op_xor ha hb).imp (up_op opl_I0)
theorem de_mod (ha : DE X a ta) (hb : DE X b tb) : DE X (.BinOp a .Mod b pos) (dOp (rdI (fun _ j => 0 < j) (· % ·)) ta tb) := (pe_op op_mod ha hb).imp (up_op opl_I)
theorem de_pow (ha : DE X a ta) (hb : DE X b tb) : DE X (.BinOp a .Pow b pos) (dOp (rdI CPow (fun i j => i ^ j.toNat)) ta tb) := (pe_op op_pow ha hb).imp (up_op opl_I)
theorem de_neg (ha : DE X a ta) : DE X (.UnaryOp .USub a pos) (dUn (fun x m Q => match x with | .int i => Q (.int (-i)) m | _ => False) ta) := by
  refine (pe_un un_neg ha).imp (up_un ?_)
  intro x vx H m Q' Q rx rh h f
  cases x <;> first | exact h.elim | skip
  cases rx
  exact ⟨_, rfl, f _ m h _ H (Ts.refl _ _) (.int _) rh⟩

/-! ### comparisons, as values and as tests -/
def rdB (p : Int → Int → Bool) : DR2 := fun x y m Q => match x, y with
  | .int i, .int j => Q (.bl (p i j)) m
  | _, _ => False
theorem opl_B {K : PySem.W.Frag} {p : Int → Int → Bool} : OpL K (rI0 fun i j => .bl (p i j)) (rdB p) := by
  intro x y vx vy H m Q' Q rx ry rh h f
  cases x <;> cases y <;> first | exact h.elim | skip
  cases rx; cases ry
  exact ⟨_, _, rfl, rfl, f _ m h _ H (Ts.refl _ _) (.bl _) rh⟩
/-- a comparison operator's rule -/
structure DC (X : Cx) (op : CmpOp) (R : DR2) : Prop where
  ex : ∃ r, OpR X (compareOp op) r ∧ OpL X.K r R
theorem dc_lt : DC X .Lt (rdB fun i j => decide (i < j)) := ⟨_, op_lt, opl_B⟩
theorem dc_le : DC X .LtE (rdB fun i j => decide (i ≤ j)) := ⟨_, op_le, opl_B⟩
theorem dc_gt : DC X .Gt (rdB fun i j => decide (j < i)) := ⟨_, op_gt, opl_B⟩
theorem dc_ge : DC X .GtE (rdB fun i j => decide (j ≤ i)) := ⟨_, op_ge, opl_B⟩
theorem dc_eq {k : Nat} (hr : Room k X.A) : DC X .Eq (rdEq false) := ⟨_, op_eq.or (op_eqD hr.units), opl_eq⟩
theorem dc_ne {k : Nat} (hr : Room k X.A) : DC X .NotEq (rdEq true) := ⟨_, op_ne.or (op_neD hr.units), opl_ne⟩
def rdIsN (neg : Bool) : DR2 := fun x y m Q => match y with
  | .non => (match x with | .non => Q (.bl !neg) m | _ => Q (.bl neg) m)
  | _ => False
theorem dc_isN : DC X .Is (rdIsN false) := ⟨_, op_isN, fun x y vx vy H m Q' Q rx ry rh h f => by
  cases y <;> first | exact h.elim | skip
  cases ry
  refine ⟨rfl, ?_⟩
  cases x <;> cases rx <;> exact f _ m h _ H (Ts.refl _ _) (.bl _) rh⟩
theorem dc_notN : DC X .IsNot (rdIsN true) := ⟨_, op_notN, fun x y vx vy H m Q' Q rx ry rh h f => by
  cases y <;> first | exact h.elim | skip
  cases ry
  refine ⟨rfl, ?_⟩
  cases x <;> cases rx <;> exact f _ m h _ H (Ts.refl _ _) (.bl _) rh⟩
/-- membership in a tuple or list of flat things -/
def flatD : D → Bool
  | .non => true | .bl _ => true | .int _ => true | .str _ => true | _ => false
def eqFl : D → D → Bool
  | .non, .non => true
  | .bl a, .bl b => a == b
  | .bl a, .int b => (if a then 1 else 0) == b
  | .int a, .bl b => a == (if b then 1 else 0)
  | .int a, .int b => a == b
  | .str a, .str b => a == b
  | _, _ => false
def SeqD (m : M) (y : D) (ds : List D) : Prop := y = .tup ds ∨ y = .ktup ds ∨ ∃ a, y = .ref a ∧ m.mu a = some (.lst ds)
theorem SeqD.of {K : PySem.W.Frag} {H : Hp} {m : M} {y : D} {ds : List D} {v : V} (h : SeqD m y ds) (r : Rep K H y v) (rh : RelH K H m) : ∃ p xs, v = .ref p ∧ (SqL K H p xs ∨ SqT K H p xs) ∧ Reps K H ds xs := by
  rcases h with rfl | rfl | ⟨a, rfl, h⟩
  · cases r with
    | tup h1 h2 => exact ⟨_, _, rfl, .inr (.inl (.inl h1)), h2⟩
  · cases r with
    | ktup h1 h2 => exact ⟨_, _, rfl, .inr h1, h2⟩
  · cases r
    obtain ⟨xs, e, rs⟩ := rh.obj _ _ h
    exact ⟨_, _, rfl, .inl (SqL.of e), rs⟩
def rdIn (neg : Bool) : DR2 := fun x y m Q => ∃ ds, SeqD m y ds ∧ flatD x = true ∧ ds.all flatD = true ∧ Q (.bl (if neg then !(ds.any fun d => eqFl d x) else ds.any fun d => eqFl d x)) m
theorem flat_v {K : PySem.W.Frag} {H : Hp} {d : D} {v : V} (h : flatD d = true) (r : Rep K H d v) : flatV v = true := by
  cases r <;> first | rfl | (simp [flatD] at h)
theorem eq_v {K : PySem.W.Frag} {H : Hp} {d e : D} {v u : V} (h : flatD d = true) (h' : flatD e = true) (r : Rep K H d v) (r' : Rep K H e u) : eqV v u = eqFl d e := by
  cases r <;> cases r' <;> first | rfl | (simp [flatD] at h) | (simp [flatD] at h')
theorem flat_all {K : PySem.W.Frag} {H : Hp} : ∀ {ds : List D} {vs : List V}, ds.all flatD = true → Reps K H ds vs → vs.all flatV = true
  | [], _, _, r => by cases r; rfl
  | d :: ds, _, h, r => by
    cases r with
    | cons r1 r2 =>
      simp only [List.all_cons, Bool.and_eq_true] at h ⊢
      exact ⟨flat_v h.1 r1, flat_all h.2 r2⟩
theorem in_all {K : PySem.W.Frag} {H : Hp} {x : D} {v : V} (hx : flatD x = true) (rx : Rep K H x v) : ∀ {ds : List D} {vs : List V}, ds.all flatD = true → Reps K H ds vs → inV v vs = ds.any fun d => eqFl d x
  | [], _, _, r => by cases r; rfl
  | d :: ds, _, h, r => by
    cases r with
    | cons r1 r2 =>
      simp only [List.all_cons, Bool.and_eq_true] at h
      have ih := in_all hx rx h.2 r2
      unfold inV at ih ⊢
      rw [List.any_cons, List.any_cons, ih, eq_v h.1 hx r1 rx]
theorem opl_in {K : PySem.W.Frag} (neg : Bool) : OpL K (rIn K neg) (rdIn neg) := fun x y vx vy H m Q' Q rx ry rh ⟨ds, hs, fx, fs, q⟩ f => by
  obtain ⟨p, xs, rfl, h, rs⟩ := hs.of ry rh
  refine ⟨p, xs, rfl, h, flat_v fx rx, flat_all fs rs, ?_⟩
  rw [in_all fx rx fs rs]
  exact f _ m q _ H (Ts.refl _ _) (.bl _) rh
theorem dc_in : DC X .In (rdIn false) := ⟨_, op_in_seq, opl_in false⟩
theorem dc_notIn : DC X .NotIn (rdIn true) := ⟨_, op_notIn_seq, opl_in true⟩
/-- one sign in a text -/
def rdInS : DR2 := fun x y m Q => ∃ (c : Nat) (z : Str), x = .str ⟨#[c]⟩ ∧ y = .str z ∧ Q (.bl (decide (c ∈ z.cps.toList))) m
theorem dc_inS : DC X .In rdInS := ⟨_, op_in_sign, fun x y vx vy H m Q' Q rx ry rh ⟨c, z, e1, e2, q⟩ f => by
  subst e1 e2; cases rx; cases ry
  exact ⟨c, z, rfl, rfl, f _ m q _ H (Ts.refl _ _) (.bl _) rh⟩⟩

theorem de_cmp {op : CmpOp} {R : DR2} (ho : DC X op R) (ha : DE X a ta) (hb : DE X b tb) (hm : behindInMarks op b = false := by first | exact nobehind _ (by decide) (by decide) | rfl) : DE X (.Compare a [op] [b] pos) (dOp R ta tb) := by
  obtain ⟨r, h1, h2⟩ := ho.ex
  exact (pe_cmpR h1 ha hb hm).imp (up_op h2)
def dB (t : DTr) : DTT := fun δ m Q => t δ m fun x m1 => ∃ c, x = .bl c ∧ Q c m1
theorem up_B {K : PySem.W.Frag} {t : DTr} : ∀ σ H Q, upB K (dB t) σ H Q → up K t σ H (fun x H' => ∃ k, x = .bl k ∧ Q k H') := fun σ H Q ⟨δ, m, Q', rs, rh, q, f⟩ =>
  ⟨δ, m, _, rs, rh, q, fun d m1 ⟨c, e, q1⟩ v H' t1 r1 rh1 => by subst e; cases r1; exact ⟨c, rfl, f c m1 q1 H' t1 rh1⟩⟩
theorem dt_cmp {op : CmpOp} {R : DR2} (ho : DC X op R) (ha : DE X a ta) (hb : DE X b tb) (hm : behindInMarks op b = false := by first | exact nobehind _ (by decide) (by decide) | rfl) : DTst X (.Compare a [op] [b] pos) (dB (dOp R ta tb)) := by
  obtain ⟨r, h1, h2⟩ := ho.ex
  exact (pt_cmpR h1 ha hb hm).imp fun σ H Q q => up_op h2 σ H _ (up_B σ H Q q)
theorem dt_val (h : DE X e te) (he : ∀ whole, isTrue e X.env whole = (do let v ← whole; standAt e.pos; holding [v] (truthy v)) := by intro _; rfl) : DTst X e (dB te) := (pt_val h he).imp up_B
def dChain (R R' : DR2) (ta tb tc : DTr) : DTr := fun δ m Q => ta δ m fun x m1 => tb δ m1 fun y m2 => R x y m2 fun z m3 => ∃ k, z = .bl k ∧ if k = true then tc δ m3 fun w m4 => R' y w m4 Q else Q (.bl false) m3
theorem up_chain {K : PySem.W.Frag} {r r' : R2} {R R' : DR2} {tc : DTr} (h2 : OpL K r R) (h2' : OpL K r' R') : ∀ σ H Q, up K (dChain R R' ta tb tc) σ H Q → tChain r r' (up K ta) (up K tb) (up K tc) σ H Q := fun σ H Q ⟨δ, m, Q', rs, rh, q, f⟩ => by
  refine ⟨δ, m, _, rs, rh, q, fun x m1 q1 v H1 t1 r1 rh1 => ⟨δ, m1, _, rs.mono t1, rh1, q1, fun y m2 q2 u H2 t2 r2 rh2 => ?_⟩⟩
  refine h2 x y v u H2 m2 _ _ (Rep.mono t2 _ _ r1) r2 rh2 q2 fun z m3 ⟨k, ez, qk⟩ vz H3 t3 r3 rh3 => ?_
  subst ez; cases r3
  refine ⟨k, rfl, ?_⟩
  cases k with
  | true =>
    rw [if_pos rfl] at qk ⊢
    refine ⟨δ, m3, _, rs.mono ((t1.trans t2).trans t3), rh3, qk, fun w m4 q4 vw H4 t4 r4 rh4 => ?_⟩
    exact h2' y w u vw H4 m4 Q' Q (Rep.mono (t3.trans t4) _ _ r2) r4 rh4 q4 (f.mono (((t1.trans t2).trans t3).trans t4))
  | false =>
    rw [if_neg Bool.false_ne_true] at qk ⊢
    exact f _ m3 qk _ H3 ((t1.trans t2).trans t3) (.bl _) rh3
theorem de_chain {op op' : CmpOp} {R R' : DR2} {c : Expr} {tc : DTr} (ho : DC X op R) (ho' : DC X op' R') (ha : DE X a ta) (hb : DE X b tb) (hc : DE X c tc)
    (hm : lastMarks [op, op'] [b, c] = false := by with_unfolding_all rfl) : DE X (.Compare a [op, op'] [b, c] pos) (dChain R R' ta tb tc) := by
  obtain ⟨r, h1, h2⟩ := ho.ex
  obtain ⟨r', h1', h2'⟩ := ho'.ex
  exact (pe_chain h1 h1' ha hb hc hm).imp (up_chain h2 h2')
theorem dt_chain {op op' : CmpOp} {R R' : DR2} {c : Expr} {tc : DTr} (ho : DC X op R) (ho' : DC X op' R') (ha : DE X a ta) (hb : DE X b tb) (hc : DE X c tc)
    (hm : lastMarks [op, op'] [b, c] = false := by with_unfolding_all rfl) : DTst X (.Compare a [op, op'] [b, c] pos) (dB (dChain R R' ta tb tc)) := by
  obtain ⟨r, h1, h2⟩ := ho.ex
  obtain ⟨r', h1', h2'⟩ := ho'.ex
  exact (pt_chain h1 h1' ha hb hc hm).imp fun σ H Q q => up_chain h2 h2' σ H _ (up_B σ H Q q)

/-! ### and, or, not; if-expressions -/
variable {tA tB : DTT} {rest : List Expr}
def dNot (t : DTT) : DTT := fun δ m Q => t δ m fun c m1 => Q (!c) m1
theorem dt_not (ha : DTst X a tA) : DTst X (.UnaryOp .Not a pos) (dNot tA) := (pt_not ha).imp fun σ H Q ⟨δ, m, Q', rs, rh, q, f⟩ =>
  ⟨δ, m, _, rs, rh, q, fun c m1 q1 H1 t1 rh1 => f _ m1 q1 H1 t1 rh1⟩
def dAnd (t u : DTT) : DTT := fun δ m Q => t δ m fun c m1 => if c = true then u δ m1 Q else Q false m1
def dOr (t u : DTT) : DTT := fun δ m Q => t δ m fun c m1 => if c = true then Q true m1 else u δ m1 Q
theorem dw_and1 (ha : DTst X a tA) : DTW X (.BoolOp .And [a] pos) tA := pw_and1 ha
theorem dw_or1 (ha : DTst X a tA) : DTW X (.BoolOp .Or [a] pos) tA := pw_or1 ha
theorem dw_and (ha : DTst X a tA) (hb : DTW X (.BoolOp .And (b :: rest) pos) tB) : DTW X (.BoolOp .And (a :: b :: rest) pos) (dAnd tA tB) := (pw_and ha hb).imp fun σ H Q ⟨δ, m, Q', rs, rh, q, f⟩ =>
  ⟨δ, m, _, rs, rh, q, fun c m1 q1 H1 t1 rh1 => by
    cases c with
    | true => exact ⟨δ, m1, Q', rs.mono t1, rh1, q1, fun c m2 q2 H2 t2 rh2 => f c m2 q2 H2 (t1.trans t2) rh2⟩
    | false => exact f _ m1 q1 H1 t1 rh1⟩
theorem dw_or (ha : DTst X a tA) (hb : DTW X (.BoolOp .Or (b :: rest) pos) tB) : DTW X (.BoolOp .Or (a :: b :: rest) pos) (dOr tA tB) := (pw_or ha hb).imp fun σ H Q ⟨δ, m, Q', rs, rh, q, f⟩ =>
  ⟨δ, m, _, rs, rh, q, fun c m1 q1 H1 t1 rh1 => by
    cases c with
    | false => exact ⟨δ, m1, Q', rs.mono t1, rh1, q1, fun c m2 q2 H2 t2 rh2 => f c m2 q2 H2 (t1.trans t2) rh2⟩
    | true => exact f _ m1 q1 H1 t1 rh1⟩
theorem dt_w {t : DTT} (h : DTW X e t) : DTst X e t := h.pt
def dAndV (ta tb : DTr) : DTr := fun δ m Q => ta δ m fun x m1 => ∃ c, x = .bl c ∧ if c = true then tb δ m1 Q else Q (.bl false) m1
def dOrV (ta tb : DTr) : DTr := fun δ m Q => ta δ m fun x m1 => ∃ c, x = .bl c ∧ if c = true then Q (.bl true) m1 else tb δ m1 Q
theorem de_one {op} (h : DE X a ta) : DE X (.BoolOp op [a] pos) ta := pe_one h
theorem de_and (ha : DE X a ta) (hb : DE X (.BoolOp .And (b :: rest) pos) tb) : DE X (.BoolOp .And (a :: b :: rest) pos) (dAndV ta tb) := (pe_and ha hb).imp fun σ H Q ⟨δ, m, Q', rs, rh, q, f⟩ =>
  ⟨δ, m, _, rs, rh, q, fun x m1 ⟨c, e, q1⟩ v H1 t1 r1 rh1 => by
    subst e; cases r1
    refine ⟨c, rfl, ?_⟩
    cases c with
    | true => exact ⟨δ, m1, Q', rs.mono t1, rh1, q1, f.mono t1⟩
    | false => exact f _ m1 q1 _ H1 t1 (.bl _) rh1⟩
theorem de_or (ha : DE X a ta) (hb : DE X (.BoolOp .Or (b :: rest) pos) tb) : DE X (.BoolOp .Or (a :: b :: rest) pos) (dOrV ta tb) := (pe_or ha hb).imp fun σ H Q ⟨δ, m, Q', rs, rh, q, f⟩ =>
  ⟨δ, m, _, rs, rh, q, fun x m1 ⟨c, e, q1⟩ v H1 t1 r1 rh1 => by
    subst e; cases r1
    refine ⟨c, rfl, ?_⟩
    cases c with
    | false => exact ⟨δ, m1, Q', rs.mono t1, rh1, q1, f.mono t1⟩
    | true => exact f _ m1 q1 _ H1 t1 (.bl _) rh1⟩
theorem de_not (ha : DE X a ta) : DE X (.UnaryOp .Not a pos) (fun δ m Q => ta δ m fun x m1 => ∃ c, x = .bl c ∧ Q (.bl !c) m1) := (pe_not ha).imp fun σ H Q ⟨δ, m, Q', rs, rh, q, f⟩ =>
  ⟨δ, m, _, rs, rh, q, fun x m1 ⟨c, e, q1⟩ v H1 t1 r1 rh1 => by
    subst e; cases r1
    exact ⟨c, rfl, f _ m1 q1 _ H1 t1 (.bl _) rh1⟩⟩
def dIf (t : DTT) (ta tb : DTr) : DTr := fun δ m Q => t δ m fun c m1 => if c = true then ta δ m1 Q else tb δ m1 Q
theorem de_ifE {c : Expr} (hc : DTst X c tA) (ha : DE X a ta) (hb : DE X b tb) : DE X (.IfExp c a b pos) (dIf tA ta tb) := (pe_ifExp hc ha hb).imp fun σ H Q ⟨δ, m, Q', rs, rh, q, f⟩ =>
  ⟨δ, m, _, rs, rh, q, fun c m1 q1 H1 t1 rh1 => by
    cases c with
    | true => exact ⟨δ, m1, Q', rs.mono t1, rh1, q1, f.mono t1⟩
    | false => exact ⟨δ, m1, Q', rs.mono t1, rh1, q1, f.mono t1⟩⟩
end
end DL

namespace DL
open PySem PySem.Spec PyProof.Rows L2
section
variable {X : Cx} {a b e o : Expr} {ta tb te to : DTr} {es : List Expr} {t : DTA} {pos apos : Pos}

/-! ### subscripts and slices -/
def rdIx : DR2 := fun x y m Q => match x, y with
  | .tup ds, .int i => ∃ d, atI ds i = some d ∧ Q d m
  | .ktup ds, .int i => ∃ d, atI ds i = some d ∧ Q d m
  | .ref a, .int i => ∃ ds d, m.mu a = some (.lst ds) ∧ atI ds i = some d ∧ Q d m
  | .str z, .int i => ∃ c, z.length ≤ sizeLine ∧ atI z.cps.toList i = some c ∧ Q (.str ⟨#[c]⟩) m
  | _, _ => False
theorem atI_rep {K : PySem.W.Frag} {H : Hp} {ds : List D} {vs : List V} {i : Int} {d : D} (r : Reps K H ds vs) (h : atI ds i = some d) : ∃ v, atI vs i = some v ∧ Rep K H d v := by
  unfold atI at h ⊢
  rw [← r.length]
  cases e : ixN ds.length i with
  | none => rw [e] at h; cases h
  | some j =>
    rw [e] at h
    exact r.get h
theorem opl_ix {K : PySem.W.Frag} : OpL K (rIx K) rdIx := by
  intro x y vx vy H m Q' Q rx ry rh h f
  cases x <;> cases y <;> first | exact h.elim | skip
  · cases rx; cases ry
    obtain ⟨c, h1, h2, q⟩ := h
    exact .inr (.inr ⟨_, _, c, rfl, rfl, h1, h2, f _ m q _ H (Ts.refl _ _) (.str _) rh⟩)
  · cases rx; cases ry
    obtain ⟨ds, d, h1, h2, q⟩ := h
    obtain ⟨xs, e, rs⟩ := rh.obj _ _ h1
    obtain ⟨v, e2, rv⟩ := atI_rep rs h2
    exact .inl ⟨_, xs, _, v, rfl, rfl, SqL.of e, e2, f _ m q _ H (Ts.refl _ _) rv rh⟩
  · cases ry
    cases rx with
    | tup h1 rs =>
      obtain ⟨d, h2, q⟩ := h
      obtain ⟨v, e2, rv⟩ := atI_rep rs h2
      exact .inr (.inl ⟨_, _, _, v, rfl, rfl, .inl (.inl h1), e2, f _ m q _ H (Ts.refl _ _) rv rh⟩)
  · cases ry
    cases rx with
    | ktup h1 rs =>
      obtain ⟨d, h2, q⟩ := h
      obtain ⟨v, e2, rv⟩ := atI_rep rs h2
      exact .inr (.inl ⟨_, _, _, v, rfl, rfl, h1, e2, f _ m q _ H (Ts.refl _ _) rv rh⟩)
theorem de_ix (ha : DE X a ta) (hb : DE X b tb) (hs : PlainIx b := by exact fun _ _ => rfl) : DE X (.Subscript a b pos) (dOp rdIx ta tb) := (pe_ix ix_seq ha hb hs).imp (up_op opl_ix)

abbrev DTO := Sl → M → (Option Int → M → Prop) → Prop
def FitsO (K : PySem.W.Frag) (H : Hp) (Q' : Option Int → M → Prop) (Q : Option Int → Hp → Prop) : Prop := ∀ b m, Q' b m → ∀ H', Ts K H H' → RelH K H' m → Q b H'
def upO (K : PySem.W.Frag) (t : DTO) : TO := fun σ H Q => ∃ δ m Q', RelS K H δ σ ∧ RelH K H m ∧ t δ m Q' ∧ FitsO K H Q' Q
def DPo (X : Cx) (e : Option Expr) (t : DTO) : Prop := PO X e (upO X.K t)
theorem _root_.L2.PO.imp {X : Cx} {e : Option Expr} {t t' : TO} (h : PO X e t) (i : ∀ σ H Q, t' σ H Q → t σ H Q) : PO X e t' := ⟨fun pins s σ H Q I q => h.run pins s σ H Q I (i σ H Q q)⟩
def dNoPart : DTO := fun _ m Q => Q none m
def dPart (t : DTr) : DTO := fun δ m Q => t δ m fun x m1 => ∃ i, x = .int i ∧ Q (some i) m1
theorem dpo_none : DPo X none dNoPart := po_none.imp fun σ H Q ⟨δ, m, Q', rs, rh, q, f⟩ => f none m q H (Ts.refl _ _) rh
theorem dpo_some (h : DE X e te) : DPo X (some e) (dPart te) := (po_some h).imp fun σ H Q ⟨δ, m, Q', rs, rh, q, f⟩ =>
  ⟨δ, m, _, rs, rh, q, fun x m1 ⟨i, e, q1⟩ v H1 t1 r1 rh1 => by subst e; cases r1; exact ⟨i, rfl, f _ m1 q1 H1 t1 rh1⟩⟩
def cutL {α : Type} (xs : List α) (lo hi : Option Int) : List α := (xs.drop (HT.sIx xs.length 0 lo)).take (HT.sIx xs.length xs.length hi - HT.sIx xs.length 0 lo)
theorem cut_rep {K : PySem.W.Frag} {H : Hp} {ds : List D} {vs : List V} (lo hi : Option Int) (r : Reps K H ds vs) : Reps K H (cutL ds lo hi) (cutV vs lo hi) := by
  unfold cutL cutV
  rw [← r.length]
  exact (r.drop _).take _
def rdSl (x : D) (lo hi : Option Int) (m : M) (Q : DK) : Prop := match x with
  | .tup ds => ¬ (HT.sIx ds.length 0 lo = 0 ∧ HT.sIx ds.length ds.length hi = ds.length) ∧ Q (.tup (cutL ds lo hi)) m
  | .ref a => ∃ ds, m.mu a = some (.lst ds) ∧ ∀ p, m.mu p = none → Q (.ref p) (m.set p (.lst (cutL ds lo hi)))
  | .str z => z.length ≤ sizeLine ∧ Q (.str (cutS z lo hi)) m
  | _ => False
def dSl (te : DTr) (tl th : DTO) : DTr := fun δ m Q => te δ m fun x m1 => tl δ m1 fun l m2 => th δ m2 fun h m3 => rdSl x l h m3 Q
theorem de_slice {lo hi : Option Expr} {tl th : DTO} {p2 : Pos} (he : DE X e te) (hl : DPo X lo tl) (hu : DPo X hi th) : DE X (.Subscript e (.Slice lo hi none p2) pos) (dSl te tl th) := by
  refine (pe_slice ((sl_list.or sl_tup).or sl_str) he hl hu).imp fun σ H Q ⟨δ, m, Q', rs, rh, q, f⟩ => ?_
  refine ⟨δ, m, _, rs, rh, q, fun x m1 q1 v H1 t1 r1 rh1 => ⟨δ, m1, _, rs.mono t1, rh1, q1, fun l m2 q2 H2 t2 rh2 => ⟨δ, m2, _, rs.mono (t1.trans t2), rh2, q2, fun h m3 q3 H3 t3 rh3 => ?_⟩⟩⟩
  have r3 := Rep.mono (t2.trans t3) _ _ r1
  have f3 := f.mono ((t1.trans t2).trans t3)
  cases x <;> first | exact q3.elim | skip
  · cases r3
    exact .inr ⟨_, rfl, q3.1, f3 _ m3 q3.2 _ H3 (Ts.refl _ _) (.str _) rh3⟩
  · cases r3
    obtain ⟨ds, e, q⟩ := q3
    obtain ⟨xs, e2, rr⟩ := rh3.obj _ _ e
    exact .inl (.inl ⟨_, xs, rfl, SqL.of e2, fun p hp => f3 _ _ (q p (rh3.fresh hp)) _ _ (Ts.new hp) (.ref p) (rh3.newO hp ⟨_, upd_same, Reps.mono (Ts.new hp) _ _ (cut_rep l h rr)⟩)⟩)
  · cases r3 with
    | tup e rr =>
      obtain ⟨n, q⟩ := q3
      exact .inl (.inr ⟨_, _, rfl, .inl (.inl e), by rw [← rr.length]; exact n, fun p hp => f3 _ m3 q _ _ (Ts.new hp) (.tup upd_same (Reps.mono (Ts.new hp) _ _ (cut_rep l h rr))) (rh3.new hp)⟩)

/-! ### built-in functions -/
def lenD (m : M) (x : D) (n : Nat) : Prop := match x with
  | .str z => z.length ≤ sizeLine ∧ n = z.length
  | .tup ds => n = ds.length
  | .ktup ds => n = ds.length
  | .ref a => ∃ ds, m.mu a = some (.lst ds) ∧ n = ds.length
  | _ => False
def rdLen : DRA := fun xs m Q => ∃ x n, xs = [x] ∧ lenD m x n ∧ Q (.int n) m
theorem Reps.one {K : PySem.W.Frag} {H : Hp} {d : D} {vs : List V} (r : Reps K H [d] vs) : ∃ v, vs = [v] ∧ Rep K H d v := by
  cases r with
  | cons r1 r2 => cases r2; exact ⟨_, rfl, r1⟩
theorem Reps.two {K : PySem.W.Frag} {H : Hp} {d e : D} {vs : List V} (r : Reps K H [d, e] vs) : ∃ v u, vs = [v, u] ∧ Rep K H d v ∧ Rep K H e u := by
  cases r with
  | cons r1 r2 => obtain ⟨u, rfl, r3⟩ := r2.one; exact ⟨_, _, rfl, r1, r3⟩
theorem len_v {K : PySem.W.Frag} {H : Hp} {m : M} {x : D} {v : V} {n : Nat} (h : lenD m x n) (r : Rep K H x v) (rh : RelH K H m) : LenV K v H n := by
  cases r with
  | str z => exact h
  | tup e rr => exact .inr ⟨_, .inl (.inl e), by rw [← rr.length]; exact h⟩
  | ktup e rr => exact .inr ⟨_, e, by rw [← rr.length]; exact h⟩
  | ref a =>
    obtain ⟨ds, e, hn⟩ := h
    obtain ⟨xs, e2, rr⟩ := rh.obj _ _ e
    exact .inl ⟨xs, SqL.of e2, by rw [← rr.length]; exact hn⟩
  | _ => exact h.elim
theorem argl_len {K : PySem.W.Frag} : ArgL K (fun xs H Q => ∃ x n, xs = [x] ∧ LenV K x H n ∧ Q (.int n) H) rdLen := fun xs vs H m Q' Q r rh ⟨x, n, e, hl, q⟩ f => by
  subst e
  obtain ⟨v, rfl, rv⟩ := r.one
  exact ⟨v, n, rfl, len_v hl rv rh, f _ m q _ H (Ts.refl _ _) (.int _) rh⟩
theorem de_blt {id : String} {x : Str} {p : Pos} {r : List V → Hp → VK → Prop} {R : DRA} (hc : CallR X (.builtin id) r) (hl : ArgL X.K r R) (hg : Gl X x) (hm : X.mg x = none) (hv : bootBuiltins x = some (.builtin id)) (ha : DA X (e :: es) t) (hn : x ≠ "__name__" := by decide) (hdb : (x == ("__debug__" : Str)) = false := by decide)
    (he : starEach (e :: es) X.env = (false, eval e X.env) :: starEach es X.env := by rfl) (hpl : (backTo pos (starEach es X.env)).any (·.1) = false := by rfl) : DE X (.Call (.Name x p) (e :: es) [] pos) (dArgs R t) :=
  (pe_callB hc hg hm hv ha hn hdb he hpl).imp (up_args hl)
theorem de_bty {T : String} {x : Str} {p : Pos} {r : List V → Hp → VK → Prop} {R : DRA} (hc : CallR X (.type T) r) (hl : ArgL X.K r R) (hg : Gl X x) (hm : X.mg x = none) (hv : bootBuiltins x = some (.type T)) (ha : DA X (e :: es) t) (hn : x ≠ "__name__" := by decide) (hdb : (x == ("__debug__" : Str)) = false := by decide)
    (he : starEach (e :: es) X.env = (false, eval e X.env) :: starEach es X.env := by rfl) (hpl : (backTo pos (starEach es X.env)).any (·.1) = false := by rfl) : DE X (.Call (.Name x p) (e :: es) [] pos) (dArgs R t) :=
  (pe_callTy hc hg hm hv ha hn hdb he hpl).imp (up_args hl)
theorem de_len {p : Pos} (hg : Gl X "len") (hm : X.mg "len" = none) (ha : DA X (e :: es) t)
    (he : starEach (e :: es) X.env = (false, eval e X.env) :: starEach es X.env := by rfl) (hpl : (backTo pos (starEach es X.env)).any (·.1) = false := by rfl) : DE X (.Call (.Name "len" p) (e :: es) [] pos) (dArgs rdLen t) :=
  de_blt call_len argl_len hg hm PySem.boot_len ha (by decide) (by decide) he hpl
def rdStr : DRA := fun xs m Q => ∃ i : Int, xs = [.int i] ∧ i.natAbs.log2 < 1920 ∧ Q (.str (toString i)) m
theorem argl_str {K : PySem.W.Frag} : ArgL K (fun xs H Q => ∃ i : Int, xs = [.int i] ∧ i.natAbs.log2 < 1920 ∧ Q (.str (toString i)) H) rdStr := fun xs vs H m Q' Q r rh ⟨i, e, hl, q⟩ f => by
  subst e
  obtain ⟨v, rfl, rv⟩ := r.one
  cases rv
  exact ⟨i, rfl, hl, f _ m q _ H (Ts.refl _ _) (.str _) rh⟩
/-- list(xs), tuple(xs) of a list or a tuple -/
def rdList : DRA := fun xs m Q => ∃ x ds, xs = [x] ∧ SeqD m x ds ∧ ∀ p, m.mu p = none → Q (.ref p) (m.set p (.lst ds))
theorem argl_list {K : PySem.W.Frag} : ArgL K (fun xs H Q => ∃ p ys, xs = [.ref p] ∧ (SqL K H p ys ∨ SqT K H p ys) ∧ ∀ l, H l = none → Q (.ref l) (upd H l (.lst ys))) rdList := fun xs vs H m Q' Q r rh ⟨x, ds, e, hs, q⟩ f => by
  subst e
  obtain ⟨v, rfl, rv⟩ := r.one
  obtain ⟨p, ys, rfl, h, rr⟩ := hs.of rv rh
  exact ⟨p, ys, rfl, h, fun l hl => f _ _ (q l (rh.fresh hl)) _ _ (Ts.new hl) (.ref l) (rh.newO hl ⟨ys, upd_same, Reps.mono (Ts.new hl) _ _ rr⟩)⟩
def rdTuple : DRA := fun xs m Q => ∃ x ds, xs = [x] ∧ ((∃ a, x = .ref a ∧ m.mu a = some (.lst ds)) ∨ x = .tup ds) ∧ Q (.tup ds) m
theorem argl_tuple {K : PySem.W.Frag} : ArgL K (fun xs H Q => ∃ p ys, xs = [.ref p] ∧ ((SqL K H p ys ∧ ∀ l, H l = none → Q (.ref l) (upd H l (.tup ys))) ∨ (SqT K H p ys ∧ Q (.ref p) H))) rdTuple := fun xs vs H m Q' Q r rh ⟨x, ds, e, hs, q⟩ f => by
  subst e
  obtain ⟨v, rfl, rv⟩ := r.one
  rcases hs with ⟨a, rfl, h⟩ | rfl
  · cases rv
    obtain ⟨ys, e, rr⟩ := rh.obj _ _ h
    exact ⟨_, ys, rfl, .inl ⟨SqL.of e, fun l hl => f _ m q _ _ (Ts.new hl) (.tup upd_same (Reps.mono (Ts.new hl) _ _ rr)) (rh.new hl)⟩⟩
  · cases rv with
    | tup e rr => exact ⟨_, _, rfl, .inr ⟨.inl (.inl e), f _ m q _ H (Ts.refl _ _) (.tup e rr) rh⟩⟩
/-- isinstance(x, T) -/
def tyD (m : M) (x : D) (T : String) : Prop := match x with
  | .non => T = "NoneType" | .bl _ => T = "bool" | .int _ => T = "int" | .str _ => T = "str" | .tup _ => T = "tuple"
  | .ktup _ => False
  | .ref a => (∃ ds, m.mu a = some (.lst ds) ∧ T = "list") ∨ (∃ ds, m.mu a = some (.dic ds) ∧ T = "dict") ∨ (∃ ds, m.mu a = some (.dit ds) ∧ T = "dict")
theorem ty_v {K : PySem.W.Frag} {H : Hp} {m : M} {x : D} {v : V} {T : String} (h : tyD m x T) (r : Rep K H x v) (rh : RelH K H m) : TyX K H v (.type T) := by
  cases r with
  | non => cases h; exact .base .non
  | bl b => cases h; exact .base (.bl b)
  | int i => cases h; exact .base (.int i)
  | str s => cases h; exact .base (.str s)
  | tup e rr => cases h; exact .base (.tup e)
  | ktup e rr => exact h.elim
  | ref a =>
    rcases h with ⟨ds, e, rfl⟩ | ⟨ds, e, rfl⟩ | ⟨ds, e, rfl⟩
    · obtain ⟨xs, e2, _⟩ := rh.obj _ _ e; exact .base (.lst e2)
    · obtain ⟨xs, e2, _⟩ := rh.obj _ _ e; exact .base (.dK e2)
    · obtain ⟨xs, e2, _⟩ := rh.obj _ _ e; exact .base (.dT e2)
def dIsi (T : String) (te : DTr) : DTr := fun δ m Q => te δ m fun x m1 => ∃ U b, tyD m1 x U ∧ kitB U T = some b ∧ Q (.bl b) m1
theorem de_isi {T : String} {p p2 : Pos} {y : Str} (hg : Gl X "isinstance") (hm : X.mg "isinstance" = none) (hb : bootBuiltins "isinstance" = some (.builtin "isinstance")) (he : DE X e te) (hT : PE X (.Name y p2) (tC (.ty T)))
    (hs : starEach [e, .Name y p2] X.env = (false, eval e X.env) :: starEach [.Name y p2] X.env := by rfl) (hpl : (backTo pos (starEach [.Name y p2] X.env)).any (·.1) = false := by rfl) : DE X (.Call (.Name "isinstance" p) [e, .Name y p2] [] pos) (dIsi T te) :=
  (pe_callB call_isi hg hm hb (pa_cons he (pa_cons hT pa_nil (by rfl)) hs) (by decide) (by decide) hs hpl).imp fun σ H Q ⟨δ, m, Q', rs, rh, q, f⟩ =>
    ⟨δ, m, _, rs, rh, q, fun x m1 ⟨U, b, hU, hk, q1⟩ v H1 t1 r1 rh1 => ⟨v, .ty T, .type U, .type T, b, rfl, .ty T, ty_v hU r1 rh1, kit_ty hk, f _ m1 q1 _ H1 t1 (.bl _) rh1⟩⟩

/-! ### methods of lists -/
abbrev DRM := D → List D → M → DK → Prop
def MtL (K : PySem.W.Frag) (r : V → List V → Hp → VK → Prop) (R : DRM) : Prop := ∀ (x : D) (ys : List D) (vx : V) (vs : List V) (H : Hp) (m : M) (Q' : DK) (Q : VK), Rep K H x vx → Reps K H ys vs → RelH K H m → R x ys m Q' → Fits K H Q' Q → r vx vs H Q
def isL (m : M) (x : D) : Prop := ∃ a ds, x = .ref a ∧ m.mu a = some (.lst ds)
def dMeth (R : DRM) (to : DTr) (t : DTA) : DTr := fun δ m Q => to δ m fun x m1 => isL m1 x ∧ t δ m1 fun ys m2 => R x ys m2 Q
def dMeth0 (R : DRM) (to : DTr) : DTr := fun δ m Q => to δ m fun x m1 => isL m1 x ∧ R x [] m1 Q
theorem isL_v {K : PySem.W.Frag} {H : Hp} {m : M} {x : D} {v : V} (h : isL m x) (r : Rep K H x v) (rh : RelH K H m) : tyV K "list" v H := by
  obtain ⟨a, ds, rfl, e⟩ := h
  cases r
  obtain ⟨xs, e2, _⟩ := rh.obj _ _ e
  exact .inl ⟨rfl, xs, SqL.of e2⟩
theorem up_bm {K : PySem.W.Frag} {r : V → List V → Hp → VK → Prop} {R : DRM} (h : MtL K r R) : ∀ σ H Q, up K (dMeth R to t) σ H Q → tBM K "list" r (up K to) (upA K t) σ H Q := fun σ H Q ⟨δ, m, Q', rs, rh, q, f⟩ =>
  ⟨δ, m, _, rs, rh, q, fun x m1 ⟨hl, q1⟩ v H1 t1 r1 rh1 => ⟨isL_v hl r1 rh1, δ, m1, _, rs.mono t1, rh1, q1, fun ys m2 q2 vs H2 t2 r2 rh2 => h x ys v vs H2 m2 Q' Q (Rep.mono t2 _ _ r1) r2 rh2 q2 (f.mono (t1.trans t2))⟩⟩
theorem up_bm0 {K : PySem.W.Frag} {r : V → List V → Hp → VK → Prop} {R : DRM} (h : MtL K r R) : ∀ σ H Q, up K (dMeth0 R to) σ H Q → tBM0 K "list" r (up K to) σ H Q := fun σ H Q ⟨δ, m, Q', rs, rh, q, f⟩ =>
  ⟨δ, m, _, rs, rh, q, fun x m1 ⟨hl, q1⟩ v H1 t1 r1 rh1 => ⟨isL_v hl r1 rh1, h x [] v [] H1 m1 Q' Q r1 .nil rh1 q1 (f.mono t1)⟩⟩
def rdAppend : DRM := fun x ys m Q => ∃ a ds y, x = .ref a ∧ ys = [y] ∧ m.mu a = some (.lst ds) ∧ ds.length < sizeLine ∧ Q .non (m.set a (.lst (ds ++ [y])))
theorem mtl_append {K : PySem.W.Frag} : MtL K rAppend rdAppend := fun x ys vx vs H m Q' Q rx rs rh ⟨a, ds, y, ex, ey, h, hz, q⟩ f => by
  subst ex ey
  cases rx
  obtain ⟨v, rfl, rv⟩ := rs.one
  obtain ⟨xs, e, rr⟩ := rh.obj _ _ h
  have t := rh.putTS (o := .lst (xs ++ [v])) h
  exact ⟨a, xs, v, rfl, rfl, e, by rw [← rr.length]; exact hz, f _ _ q _ _ t .non (rh.put h ⟨_, upd_same, Reps.mono t _ _ (rr.append (.cons rv .nil))⟩)⟩
def rdExtend : DRM := fun x ys m Q => ∃ a b ds es, x = .ref a ∧ ys = [.ref b] ∧ m.mu a = some (.lst ds) ∧ m.mu b = some (.lst es) ∧ ds.length + es.length ≤ sizeLine ∧ Q .non (m.set a (.lst (ds ++ es)))
theorem mtl_extend {K : PySem.W.Frag} : MtL K rExtend rdExtend := fun x ys vx vs H m Q' Q rx rs rh ⟨a, b, ds, es, ex, ey, h, hb, hz, q⟩ f => by
  subst ex ey
  cases rx
  obtain ⟨v, rfl, rv⟩ := rs.one
  cases rv
  obtain ⟨xs, e, rr⟩ := rh.obj _ _ h
  obtain ⟨zs, e2, rr2⟩ := rh.obj _ _ hb
  have t := rh.putTS (o := .lst (xs ++ zs)) h
  exact ⟨a, b, xs, zs, rfl, rfl, e, e2, by rw [← rr.length, ← rr2.length]; exact hz, f _ _ q _ _ t .non (rh.put h ⟨_, upd_same, Reps.mono t _ _ (rr.append rr2)⟩)⟩
def rdPopAt : DRM := fun x ys m Q => ∃ a ds i k y, x = .ref a ∧ ys = [.int i] ∧ m.mu a = some (.lst ds) ∧ -(2 ^ 63) ≤ i ∧ i < 2 ^ 63 ∧ seqIndex? i ds.length = some k ∧ ds[k]? = some y ∧ Q y (m.set a (.lst (ds.eraseIdx k)))
theorem mtl_popAt {K : PySem.W.Frag} : MtL K rPopAt rdPopAt := fun x ys vx vs H m Q' Q rx rs rh ⟨a, ds, i, k, y, ex, ey, h, h1, h2, hk, hy, q⟩ f => by
  subst ex ey
  cases rx
  obtain ⟨v, rfl, rv⟩ := rs.one
  cases rv
  obtain ⟨xs, e, rr⟩ := rh.obj _ _ h
  obtain ⟨u, hu, ru⟩ := rr.get hy
  have t := rh.putTS (o := .lst (xs.eraseIdx k)) h
  exact ⟨a, xs, i, k, u, rfl, rfl, e, h1, h2, by rw [← rr.length]; exact hk, hu, f _ _ q _ _ t (Rep.mono t _ _ ru) (rh.put h ⟨_, upd_same, Reps.mono t _ _ (rr.erase k)⟩)⟩
theorem de_meth {id : String} {name : Str} {r : V → List V → Hp → VK → Prop} {R : DRM} (slot : Slot "list" name id) (hty : typeOf (.builtin id) = pure (.type "method_descriptor")) (hm : MtR X id r) (hl : MtL X.K r R) (ho : DE X o to) (ha : DA X (e :: es) t)
    (hbase : attributeBase o name X.env (eval o X.env) = eval o X.env := by rfl)
    (hfew : ((backTo pos (starEach (e :: es) X.env)).all (fun x => !x.1) && (backToKw pos (keywordEach [] X.env)).all (fun x => x.1.isSome)
      && decide ((e :: es).length + ([] : List Keyword).length + (if ([] : List Keyword).isEmpty then 0 else 1) < 30)) = true := by rfl)
    (hline : (apos.endLine == pos.line) = true := by rfl) (hs : starEach (e :: es) X.env = (false, eval e X.env) :: starEach es X.env := by rfl) (hplain : (backTo pos (starEach es X.env)).any (·.1) = false := by rfl) :
    DE X (.Call (.Attribute o name apos) (e :: es) [] pos) (dMeth R to t) := (pe_bm PySem.F.plainAttrs_list slot hty hm ho ha hbase hfew hline hs hplain).imp (up_bm hl)
theorem de_append (ho : DE X o to) (he : DE X e te)
    (hbase : attributeBase o "append" X.env (eval o X.env) = eval o X.env := by rfl)
    (hfew : ((backTo pos (starEach [e] X.env)).all (fun x => !x.1) && (backToKw pos (keywordEach [] X.env)).all (fun x => x.1.isSome)
      && decide ([e].length + ([] : List Keyword).length + (if ([] : List Keyword).isEmpty then 0 else 1) < 30)) = true := by rfl)
    (hline : (apos.endLine == pos.line) = true := by rfl) (hs : starEach [e] X.env = (false, eval e X.env) :: starEach [] X.env := by rfl) (hplain : (backTo pos (starEach [] X.env)).any (·.1) = false := by rfl) :
    DE X (.Call (.Attribute o "append" apos) [e] [] pos) (dMeth rdAppend to (dCons te dNil)) := de_meth PySem.F.slot_list_append PySem.F.type_list_append mt_append mtl_append ho (da_cons he da_nil hs) hbase hfew hline hs hplain
theorem de_extend (ho : DE X o to) (he : DE X e te)
    (hbase : attributeBase o "extend" X.env (eval o X.env) = eval o X.env := by rfl)
    (hfew : ((backTo pos (starEach [e] X.env)).all (fun x => !x.1) && (backToKw pos (keywordEach [] X.env)).all (fun x => x.1.isSome)
      && decide ([e].length + ([] : List Keyword).length + (if ([] : List Keyword).isEmpty then 0 else 1) < 30)) = true := by rfl)
    (hline : (apos.endLine == pos.line) = true := by rfl) (hs : starEach [e] X.env = (false, eval e X.env) :: starEach [] X.env := by rfl) (hplain : (backTo pos (starEach [] X.env)).any (·.1) = false := by rfl) :
    DE X (.Call (.Attribute o "extend" apos) [e] [] pos) (dMeth rdExtend to (dCons te dNil)) := de_meth PySem.F.slot_list_extend PySem.F.type_list_extend mt_extend mtl_extend ho (da_cons he da_nil hs) hbase hfew hline hs hplain
theorem de_popAt (ho : DE X o to) (he : DE X e te)
    (hbase : attributeBase o "pop" X.env (eval o X.env) = eval o X.env := by rfl)
    (hfew : ((backTo pos (starEach [e] X.env)).all (fun x => !x.1) && (backToKw pos (keywordEach [] X.env)).all (fun x => x.1.isSome)
      && decide ([e].length + ([] : List Keyword).length + (if ([] : List Keyword).isEmpty then 0 else 1) < 30)) = true := by rfl)
    (hline : (apos.endLine == pos.line) = true := by rfl) (hs : starEach [e] X.env = (false, eval e X.env) :: starEach [] X.env := by rfl) (hplain : (backTo pos (starEach [] X.env)).any (·.1) = false := by rfl) :
    DE X (.Call (.Attribute o "pop" apos) [e] [] pos) (dMeth rdPopAt to (dCons te dNil)) := de_meth PySem.F.slot_list_pop PySem.F.type_list_pop mt_popAt mtl_popAt ho (da_cons he da_nil hs) hbase hfew hline hs hplain

/-! ### methods of texts -/
def dM1 (R : DRM) (to te : DTr) : DTr := fun δ m Q => to δ m fun x m1 => (∃ z, x = .str z) ∧ te δ m1 fun y m2 => R x [y] m2 Q
theorem up_m1 {K : PySem.W.Frag} {r : V → List V → Hp → VK → Prop} {R : DRM} (h : MtL K r R) : ∀ σ H Q, up K (dM1 R to te) σ H Q → tM1 r (up K to) (up K te) σ H Q := fun σ H Q ⟨δ, m, Q', rs, rh, q, f⟩ =>
  ⟨δ, m, _, rs, rh, q, fun x m1 ⟨⟨z, ez⟩, q1⟩ v H1 t1 r1 rh1 => ⟨by subst ez; cases r1; exact ⟨z, rfl⟩, δ, m1, _, rs.mono t1, rh1, q1, fun y m2 q2 u H2 t2 r2 rh2 => h x [y] v [u] H2 m2 Q' Q (Rep.mono t2 _ _ r1) (.cons r2 .nil) rh2 q2 (f.mono (t1.trans t2))⟩⟩
def rdJoin : DRM := fun x ys m Q => ∃ (z : Str) (y : D) (ss : List Str), x = .str z ∧ ys = [y] ∧ SeqD m y (ss.map D.str) ∧ (ss.map (·.length)).sum + ss.length * z.length ≤ 16777216 ∧ Q (.str (Txt.join z ss)) m
theorem mtl_join {K : PySem.W.Frag} : MtL K (fun x xs H Q => ∃ a p, ∃ ys : List Str, x = .str a ∧ xs = [.ref p] ∧ (SqL K H p (ys.map V.str) ∨ SqT K H p (ys.map V.str)) ∧
      (ys.map (·.length)).sum + ys.length * a.length ≤ 16777216 ∧ Q (.str (Txt.join a ys)) H) rdJoin := fun x ys vx vs H m Q' Q rx rs rh ⟨z, y, ss, ex, ey, hs, hz, q⟩ f => by
  subst ex ey
  cases rx
  obtain ⟨v, rfl, rv⟩ := rs.one
  obtain ⟨p, xs, rfl, h, rr⟩ := hs.of rv rh
  have := rr.strs
  subst this
  exact ⟨z, p, ss, rfl, rfl, h, hz, f _ m q _ H (Ts.refl _ _) (.str _) rh⟩
theorem de_join (ho : DE X o to) (he : DE X e te) (hs : starEach [e] X.env = [(false, eval e X.env)] := by rfl) (hbase : attributeBase o "join" X.env (eval o X.env) = eval o X.env := by rfl) (hline : (apos.endLine == pos.line) = true := by rfl) :
    DE X (.Call (.Attribute o "join" apos) [e] [] pos) (dM1 rdJoin to te) := (pe_join ho he hs hbase hline).imp (up_m1 mtl_join)

/-! ### f-strings -/
def dFmt (te : DTr) : DTr := fun δ m Q => te δ m fun x m1 => match x with
  | .str y => y.length ≤ sizeLine ∧ Q (.str y) m1
  | .int i => i.natAbs.log2 < 1920 ∧ Q (.str (toString i)) m1
  | _ => False
theorem de_fmt (he : DE X e te) : DE X (.FormattedValue e (-1) none pos) (dFmt te) := (pe_fmt he).imp fun σ H Q ⟨δ, m, Q', rs, rh, q, f⟩ =>
  ⟨δ, m, _, rs, rh, q, fun x m1 q1 v H1 t1 r1 rh1 => by
    cases r1 <;> first | exact q1.elim | skip
    · rename_i i
      exact .inr ⟨i, rfl, q1.1, f _ m1 q1.2 _ H1 t1 (.str _) rh1⟩
    · rename_i y
      exact .inl ⟨y, rfl, q1.1, f _ m1 q1.2 _ H1 t1 (.str _) rh1⟩⟩
def dJs : List DTr → Str → Sl → M → (Str → M → Prop) → Prop
  | [], acc, _, m, Q => Q acc m
  | t :: ts, acc, δ, m, Q => t δ m fun x m1 => ∃ y : Str, x = .str y ∧ (acc ++ y).length ≤ sizeLine ∧ dJs ts (acc ++ y) δ m1 Q
inductive DJ (X : Cx) : List Expr → List DTr → Prop where
  | nil : DJ X [] []
  | cons {e : Expr} {t : DTr} {es : List Expr} {ts : List DTr} (h : DE X e t) (r : DJ X es ts) : DJ X (e :: es) (t :: ts)
theorem DJ.pj {es : List Expr} {ts : List DTr} (h : DJ X es ts) : PJ X es (ts.map (up X.K)) := by
  induction h with
  | nil => exact .nil
  | cons h _ ih => exact .cons h ih
theorem up_js {K : PySem.W.Frag} {Q : VK} : ∀ (ts : List DTr) (acc : Str) (σ : L2.St) (H : Hp) (δ : Sl) (m : M) (Q' : DK), RelS K H δ σ → RelH K H m → dJs ts acc δ m (fun out m1 => Q' (.str out) m1) → Fits K H Q' Q → tJs (ts.map (up K)) acc σ H (fun out H1 => Q (.str out) H1)
  | [], acc, σ, H, δ, m, Q', rs, rh, q, f => f _ m q _ H (Ts.refl _ _) (.str _) rh
  | t :: ts, acc, σ, H, δ, m, Q', rs, rh, q, f => ⟨δ, m, _, rs, rh, q, fun x m1 ⟨y, ex, hy, q1⟩ v H1 t1 r1 rh1 => by
      subst ex; cases r1
      exact ⟨y, rfl, hy, up_js ts (acc ++ y) σ H1 δ m1 Q' (rs.mono t1) rh1 q1 (f.mono t1)⟩⟩
theorem de_joined {v1 v2 : Expr} {rest : List Expr} {ts : List DTr} (h : DJ X (v1 :: v2 :: rest) ts) : DE X (.JoinedStr (v1 :: v2 :: rest) pos) (fun δ m Q => dJs ts Str.empty δ m fun out m1 => Q (.str out) m1) :=
  (pe_joined h.pj).imp fun σ H Q ⟨δ, m, Q', rs, rh, q, f⟩ => up_js ts Str.empty σ H δ m Q' rs rh q f

/-! ### defs -/
abbrev DSp := List D → M → DK → Prop
def spUp (K : PySem.W.Frag) (sp : DSp) : Sp := fun vs H Q _ => ∃ ds m Q', Reps K H ds vs ∧ RelH K H m ∧ sp ds m Q' ∧ Fits K H Q' Q
structure DCal (P : Program) (w : World) (K : PySem.W.Frag) (mg : Str → Option Value) (base : Heap) (k : Nat) (x : Str) (sp : DSp) : Prop where
  ex : ∃ (f : Addr) (fd : FuncData) (ps : List Str), FnOk P w K mg base CX0 k f fd ps (spUp K sp) ∧ mg x = some (.ref f) ∧ PySem.W.keepIn K (.ref f) = true ∧ Binds K fd ps []
def dCall (sp : DSp) (t : DTA) : DTr := fun δ m Q => t δ m fun ds m1 => sp ds m1 Q
theorem up_call {K : PySem.W.Frag} {sp : DSp} {E : XK} : ∀ σ H Q, up K (dCall sp t) σ H Q → tCall (spUp K sp) [] E (upA K t) σ H Q := fun σ H Q ⟨δ, m, Q', rs, rh, q, f⟩ =>
  ⟨δ, m, _, rs, rh, q, fun ds m1 q1 vs H1 t1 r1 rh1 => by
    show spUp K sp (vs ++ []) H1 Q E
    rw [List.append_nil]
    exact ⟨ds, m1, Q', r1, rh1, q1, f.mono t1⟩⟩
theorem de_call {k j : Nat} {x : Str} {p : Pos} {sp : DSp} (c : DCal X.prog X.w X.K X.mg X.base k x sp) (hr : Room j X.A) (hk : k ≤ j) (hg : Gl X x) (ha : DA X (e :: es) t)
    (hdb : (x == ("__debug__" : Str)) = false := by decide) (he : starEach (e :: es) X.env = (false, eval e X.env) :: starEach es X.env := by rfl) (hpl : (backTo pos (starEach es X.env)).any (·.1) = false := by rfl) :
    DE X (.Call (.Name x p) (e :: es) [] pos) (dCall sp t) := by
  obtain ⟨f, fd, ps, F, hm, kp, b⟩ := c.ex
  exact (pe_call F (hr.mono hk) hg hm kp b .nil pass0 ha hdb he hpl).imp up_call
end
end DL

namespace DL
open PySem PySem.Spec PyProof.Rows L2 GA GxR

/-! ### statements -/
structure DEnds where
  nx : Sl → M → Prop
  rt : DK
  bk : Sl → M → Prop := fun _ _ => False
  ct : Sl → M → Prop := fun _ _ => False
abbrev DTS := DEnds → Sl → M → Prop
def FitN (K : PySem.W.Frag) (H : Hp) (q : Sl → M → Prop) (Q : L2.St → Hp → Prop) : Prop := ∀ δ m, q δ m → ∀ σ H', Ts K H H' → RelS K H' δ σ → RelH K H' m → Q σ H'
theorem FitN.mono {K : PySem.W.Frag} {H H1 : Hp} {q : Sl → M → Prop} {Q : L2.St → Hp → Prop} (t : Ts K H H1) (f : FitN K H q Q) : FitN K H1 q Q := fun δ m h σ H' t' rs rh => f δ m h σ H' (t.trans t') rs rh
structure FitsE (K : PySem.W.Frag) (H : Hp) (E' : DEnds) (E : Ends) : Prop where
  nx : FitN K H E'.nx E.nx
  rt : Fits K H E'.rt E.rt
  bk : FitN K H E'.bk E.bk
  ct : FitN K H E'.ct E.ct
theorem FitsE.mono {K : PySem.W.Frag} {H H1 : Hp} {E' : DEnds} {E : Ends} (t : Ts K H H1) (f : FitsE K H E' E) : FitsE K H1 E' E := ⟨f.nx.mono t, f.rt.mono t, f.bk.mono t, f.ct.mono t⟩
def upS (K : PySem.W.Frag) (t : DTS) : L2.TS := fun E σ H => ∃ δ m E', RelS K H δ σ ∧ RelH K H m ∧ t E' δ m ∧ FitsE K H E' E
def DS (X : Cx) (st : Stmt) (t : DTS) : Prop := PS X st (upS X.K t)
def DSs (X : Cx) (st : List Stmt) (t : DTS) : Prop := PSs X st (upS X.K t)

/-! ### targets: names, and tuples of names -/
inductive Tg where
  | name (i : Nat) | tup (is : List Nat)
def setAll (δ : Sl) : List Nat → List D → Sl
  | i :: is, d :: ds => setAll (δ.set i (some d)) is ds
  | _, _ => δ
def gD : Tg → D → Sl → (Sl → Prop) → Prop
  | .name i, d, δ, Q => Q (δ.set i (some d))
  | .tup is, d, δ, Q => ∃ ds, (d = .tup ds ∨ d = .ktup ds) ∧ ds.length = is.length ∧ Q (setAll δ is ds)
def gNs : List Nat → TGs
  | [] => gNil
  | i :: is => gCons (gName i) (gNs is)
def gV (K : PySem.W.Frag) : Tg → TG
  | .name i => gName i
  | .tup is => gTup K is.length (gNs is)
theorem gNs_ok {K : PySem.W.Frag} {H : Hp} : ∀ (is : List Nat) (ds : List D) (vs : List V) (δ : Sl) (σ : L2.St) (Q : L2.St → Hp → Prop), ds.length = is.length → Reps K H ds vs → RelS K H δ σ → (∀ σ', RelS K H (setAll δ is ds) σ' → (∀ ws, (∀ i ∈ is, i ∈ ws) → wipe σ' ws = wipe σ ws) → Q σ' H) → gNs is vs σ H Q
  | [], ds, vs, δ, σ, Q, hl, r, rs, h => by
    have : ds = [] := List.eq_nil_of_length_eq_zero (by simpa using hl)
    subst this
    cases r
    exact ⟨rfl, h σ rs fun _ _ => rfl⟩
  | i :: is, [], vs, δ, σ, Q, hl, r, rs, h => by simp at hl
  | i :: is, d :: ds, vs, δ, σ, Q, hl, r, rs, h => by
    cases r with
    | cons r1 r2 =>
      rename_i v vs
      refine ⟨v, vs, rfl, ?_⟩
      refine gNs_ok is ds vs (δ.set i (some d)) (σ.set i (some v)) Q (by simpa using hl) r2 (RelS.set r1 i rs) fun σ' h1 h2 => h σ' h1 fun ws hw => ?_
      rw [h2 ws fun j hj => hw j (List.mem_cons_of_mem _ hj)]
      exact wipe_set (hw i List.mem_cons_self) _ _
where
  wipe_set {i : Nat} : ∀ {ws : List Nat}, i ∈ ws → ∀ (σ : L2.St) (x : Option V), wipe (σ.set i x) ws = wipe σ ws
  | w :: ws, h, σ, x => by
    unfold wipe
    by_cases e : i ∈ ws
    · rw [wipe_set e]
    · have : i = w := by
        rcases List.mem_cons.mp h with h | h
        · exact h
        · exact (e h).elim
      subst this
      rw [wipe_out e, List.set_set]
  wipe_out {i : Nat} : ∀ {ws : List Nat}, i ∉ ws → ∀ {σ : L2.St} {x : Option V}, wipe (σ.set i x) ws = (wipe σ ws).set i x
  | [], _, σ, x => rfl
  | w :: ws, h, σ, x => by
    unfold wipe
    rw [wipe_out fun e => h (List.mem_cons_of_mem _ e), List.set_comm]
    exact fun e => h (e ▸ List.mem_cons_self)
theorem gV_ok {K : PySem.W.Frag} {H : Hp} {t : Tg} {d : D} {v : V} {δ : Sl} {σ : L2.St} {q : Sl → Prop} {Q : L2.St → Hp → Prop} (r : Rep K H d v) (rs : RelS K H δ σ) (h : gD t d δ q)
    (hq : ∀ δ' σ', q δ' → RelS K H δ' σ' → (∀ ws, (∀ i ∈ (match t with | .name i => [i] | .tup is => is), i ∈ ws) → wipe σ' ws = wipe σ ws) → Q σ' H) : gV K t v σ H Q := by
  cases t with
  | name i => exact hq _ _ h (RelS.set r i rs) fun ws hw => gNs_ok.wipe_set (hw i List.mem_cons_self) _ _
  | tup is =>
    obtain ⟨ds, e, hl, h⟩ := h
    obtain ⟨a, vs, rfl, hs, rr⟩ : ∃ a vs, v = .ref a ∧ SqT K H a vs ∧ Reps K H ds vs := by
      rcases e with rfl | rfl
      · cases r with | tup h1 h2 => exact ⟨_, _, rfl, .inl (.inl h1), h2⟩
      · cases r with | ktup h1 h2 => exact ⟨_, _, rfl, h1, h2⟩
    exact ⟨a, vs, rfl, hs, by rw [← rr.length]; exact hl, gNs_ok is ds vs δ σ Q hl rr rs fun σ' h1 h2 => hq _ σ' h h1 h2⟩
def DG (X : Cx) (target : Expr) (t : Tg) : Prop := PG X target (gV X.K t)

section
variable {X : Cx} {e : Expr} {te : DTr} {pos : Pos} {st : Stmt} {rest : List Stmt} {t u : DTS}
theorem dg_name {i : Nat} {x : Str} (hN : X.N.Nodup) (hi : X.N[i]? = some x) (hx : Loc X.env.scope x) (hf : X.fn x = true ∨ X.env.scope.names.lookup x = some .local := by first | exact .inl rfl | exact .inr rfl | assumption) : DG X (.Name x pos) (.name i) := pg_name hN hi hx hf
def DGs (X : Cx) (es : List Expr) (is : List Nat) : Prop := PGs X es (gNs is)
theorem dgs_nil : DGs X [] [] := pgs_nil
theorem dgs_cons {i : Nat} {is : List Nat} {e : Expr} {es : List Expr} (h : PG X e (gName i)) (r : DGs X es is) (hs : (assignEach (e :: es) X.env).map (·.2) = assign e X.env :: (assignEach es X.env).map (·.2) := by rfl) : DGs X (e :: es) (i :: is) := pgs_cons h r hs
theorem dg_tup {es : List Expr} {is : List Nat} {k : Nat} (hc : X.calm = true) (h : DGs X es is) (hn : (assignEach es X.env).length = is.length := by rfl) (hst : (assignEach es X.env).findIdx? (·.1) = none := by rfl) : DG X (.Tuple es k pos) (.tup is) := pg_tup hc h hn hst

def dNext : DTS := fun E δ m => E.nx δ m
theorem dss_nil : DSs X [] dNext := pss_nil.imp fun E σ H ⟨δ, m, E', rs, rh, q, f⟩ => f.nx δ m q σ H (Ts.refl _ _) rs rh
def dSeq (t u : DTS) : DTS := fun E δ m => t { E with nx := fun δ' m' => u E δ' m' } δ m
theorem dss_cons (h1 : DS X st t) (h2 : DSs X rest u) : DSs X (st :: rest) (dSeq t u) := (pss_cons h1 h2).imp fun E σ H ⟨δ, m, E', rs, rh, q, f⟩ =>
  ⟨δ, m, _, rs, rh, q, ⟨fun δ' m' q' σ' H' t' rs' rh' => ⟨δ', m', E', rs', rh', q', f.mono t'⟩, f.rt, f.bk, f.ct⟩⟩
theorem dss_one (h1 : DS X st t) : DSs X [st] t := pss_one h1
def dSet (te : DTr) (i : Nat) : DTS := fun E δ m => te δ m fun x m1 => E.nx (δ.set i (some x)) m1
theorem ds_set {i : Nat} {x : Str} {pos' : Pos} (hN : X.N.Nodup) (hi : X.N[i]? = some x) (hx : Loc X.env.scope x) (he : DE X e te) (hs : swapsWith e (some (.Name x pos')) pos.line X.env = pure false := by rfl) (hf : X.fn x = true ∨ X.env.scope.names.lookup x = some .local := by first | exact .inl rfl | exact .inr rfl | assumption) :
    DS X (.Assign [.Name x pos'] e pos) (dSet te i) := (ps_set hN hi hx he hs hf).imp fun E σ H ⟨δ, m, E', rs, rh, q, f⟩ =>
  ⟨δ, m, _, rs, rh, q, fun d m1 q1 v H1 t1 r1 rh1 => f.nx _ m1 q1 _ H1 t1 (RelS.set r1 i (rs.mono t1)) rh1⟩
def dAsg (te : DTr) (g : Tg) : DTS := fun E δ m => te δ m fun x m1 => gD g x δ fun δ' => E.nx δ' m1
theorem ds_asg {tg : Expr} {g : Tg} (he : DE X e te) (hg : DG X tg g) (hs : swapsWithSole [tg] e pos.line X.env = pure false := by rfl) (hw : swappedStores [tg] e X.env = pure none := by rfl)
    (h1 : (assignEach [tg] X.env).map (·.2) = [assign tg X.env] := by rfl) : DS X (.Assign [tg] e pos) (dAsg te g) := (ps_asg he hg hs hw h1).imp fun E σ H ⟨δ, m, E', rs, rh, q, f⟩ =>
  ⟨δ, m, _, rs, rh, q, fun d m1 q1 v H1 t1 r1 rh1 => gV_ok r1 (rs.mono t1) q1 fun δ' σ' q2 rs2 _ => f.nx δ' m1 q2 σ' H1 t1 rs2 rh1⟩
def dPar (i j : Nat) (ta : DTA) : DTS := fun E δ m => ta δ m fun ds m1 => ∃ x y, ds = [x, y] ∧ E.nx ((δ.set i (some x)).set j (some y)) m1
theorem ds_par {i j : Nat} {x y : Str} {a b : Expr} {ta : DTA} {px py pt : Pos} {kt k2 pt2} (hc : X.calm = true) (hN : X.N.Nodup) (hi : X.N[i]? = some x) (hj : X.N[j]? = some y) (hij : i ≠ j)
    (hx : X.env.scope.names.lookup x = some .local) (hy : X.env.scope.names.lookup y = some .local) (ha : DA X [a, b] ta)
    (hw : swappedStores [.Tuple [.Name x px, .Name y py] kt pt] (.Tuple [a, b] k2 pt2) X.env = pure (some [x, y]))
    (hs : swapsWithSole [.Tuple [.Name x px, .Name y py] kt pt] (.Tuple [a, b] k2 pt2) pos.line X.env = pure false := by rfl) :
    DS X (.Assign [.Tuple [.Name x px, .Name y py] kt pt] (.Tuple [a, b] k2 pt2) pos) (dPar i j ta) := (ps_par hc hN hi hj hij hx hy ha hw hs).imp fun E σ H ⟨δ, m, E', rs, rh, q, f⟩ =>
  ⟨δ, m, _, rs, rh, q, fun ds m1 ⟨x, y, e, q1⟩ vs H1 t1 r1 rh1 => by
    subst e
    obtain ⟨v, u, rfl, r2, r3⟩ := r1.two
    exact ⟨v, u, rfl, f.nx _ m1 q1 _ H1 t1 (RelS.set r3 j (RelS.set r2 i (rs.mono t1))) rh1⟩⟩
def dExpr (te : DTr) : DTS := fun E δ m => te δ m fun _ m1 => E.nx δ m1
theorem ds_expr (he : DE X e te) (hs : swapsWith e none pos.line X.env = pure false := by rfl) : DS X (.Expr e pos) (dExpr te) := (ps_expr he hs).imp fun E σ H ⟨δ, m, E', rs, rh, q, f⟩ =>
  ⟨δ, m, _, rs, rh, q, fun d m1 q1 v H1 t1 r1 rh1 => f.nx _ m1 q1 σ H1 t1 (rs.mono t1) rh1⟩
def dRet (te : DTr) : DTS := fun E δ m => te δ m E.rt
theorem ds_ret (he : DE X e te) : DS X (.Return (some e) pos) (dRet te) := (ps_ret he).imp fun E σ H ⟨δ, m, E', rs, rh, q, f⟩ => ⟨δ, m, _, rs, rh, q, f.rt⟩
def dIfS (c : DTT) (t u : DTS) : DTS := fun E δ m => c δ m fun b m1 => if b = true then t E δ m1 else u E δ m1
theorem ds_if {c : Expr} {a b : List Stmt} {tc : DTT} (hc : DTst X c tc) (ha : DSs X a t) (hb : DSs X b u) : DS X (.If c a b pos) (dIfS tc t u) := (ps_if hc ha hb).imp fun E σ H ⟨δ, m, E', rs, rh, q, f⟩ =>
  ⟨δ, m, _, rs, rh, q, fun b m1 q1 H1 t1 rh1 => by
    cases b with
    | true => exact ⟨δ, m1, E', rs.mono t1, rh1, q1, f.mono t1⟩
    | false => exact ⟨δ, m1, E', rs.mono t1, rh1, q1, f.mono t1⟩⟩
theorem ds_never : DS X st (fun _ _ _ => False) := ps_never.imp fun E σ H ⟨δ, m, E', rs, rh, q, f⟩ => q.elim

/-! ### what is walked -/
abbrev DTI := Sl → M → (List D → (M → Prop) → M → Prop) → Prop
structure Wk (K : PySem.W.Frag) (H0 : Hp) (J : It) (xs : List D) (ok : M → Prop) : Prop where
  go : ∀ i H m, Ts K H0 H → RelH K H m → ok m → i < xs.length → J.go i H
  yld : ∀ i H m v H', Ts K H0 H → RelH K H m → ok m → i < xs.length → J.yld i H v H' → Ts K H H' ∧ RelH K H' m ∧ ∃ d, xs[i]? = some d ∧ Rep K H' d v
  stop : ∀ i H m, Ts K H0 H → RelH K H m → ok m → xs.length ≤ i → J.stop i H
def upI (K : PySem.W.Frag) (t : DTI) : TI := fun σ H R => ∃ δ m Q', RelS K H δ σ ∧ RelH K H m ∧ t δ m Q' ∧ ∀ xs ok m1, Q' xs ok m1 → ∀ J H1, Ts K H H1 → RelH K H1 m1 → Wk K H1 J xs ok → R J H1
def DPI (X : Cx) (tg iter : Expr) (t : DTI) : Prop := PI X tg iter (upI X.K t)
theorem _root_.L2.PI.imp {X : Cx} {tg iter : Expr} {t t' : TI} (h : PI X tg iter t) (i : ∀ σ H Q, t' σ H Q → t σ H Q) : PI X tg iter t' := ⟨fun pins s σ H Q I q => h.run pins s σ H Q I (i σ H Q q)⟩
/-- a list of the store, which stands through the walk -/
def iL (te : DTr) : DTI := fun δ m R => te δ m fun x m1 => ∃ a ds, x = .ref a ∧ m1.mu a = some (.lst ds) ∧ R ds (fun m => m.mu a = some (.lst ds)) m1
theorem wk_list {K : PySem.W.Frag} {H0 : Hp} {a : Addr} {ds : List D} : Wk K H0 (Itl K a) ds (fun m => m.mu a = some (.lst ds)) := by
  refine ⟨fun i H m t r o hi => ?_, fun i H m v H' t r o hi y => ?_, fun i H m t r o hi => ?_⟩
  · obtain ⟨ys, e, rr⟩ := r.obj _ _ o
    exact ⟨ys, ys[i]'(by rw [← rr.length]; exact hi), SqL.of e, by simp⟩
  · obtain ⟨ys, e, rr⟩ := r.obj _ _ o
    obtain ⟨rfl, y⟩ := y
    obtain ⟨d, hd, rd⟩ := rr.getV (y ys (SqL.of e))
    exact ⟨Ts.refl _ _, r, d, hd, rd⟩
  · obtain ⟨ys, e, rr⟩ := r.obj _ _ o
    exact ⟨ys, SqL.of e, by rw [← rr.length]; exact hi⟩
theorem dpi_list {tg : Expr} (he : DE X e te) : DPI X tg e (iL te) := (pi_list he).imp fun σ H R ⟨δ, m, Q', rs, rh, q, f⟩ =>
  ⟨δ, m, _, rs, rh, q, fun x m1 ⟨a, ds, ex, h, q1⟩ v H1 t1 r1 rh1 => by
    subst ex; cases r1
    obtain ⟨xs, e1, _⟩ := rh1.obj _ _ h
    exact ⟨a, rfl, ⟨xs, SqL.of e1⟩, f ds _ m1 q1 _ H1 t1 rh1 wk_list⟩⟩
/-- a tuple -/
def iT (te : DTr) : DTI := fun δ m R => te δ m fun x m1 => ∃ ds, (x = .tup ds ∨ x = .ktup ds) ∧ R ds (fun _ => True) m1
theorem sq_of {K : PySem.W.Frag} {H : Hp} {x : D} {ds : List D} {v : V} (e : x = .tup ds ∨ x = .ktup ds) (r : Rep K H x v) : ∃ a vs, v = .ref a ∧ SqT K H a vs ∧ Reps K H ds vs := by
  rcases e with rfl | rfl
  · cases r with | tup h1 h2 => exact ⟨_, _, rfl, .inl (.inl h1), h2⟩
  · cases r with | ktup h1 h2 => exact ⟨_, _, rfl, h1, h2⟩
theorem wk_tup {K : PySem.W.Frag} {H0 : Hp} {a : Addr} {ds : List D} {vs : List V} (h : SqT K H0 a vs) (r0 : Reps K H0 ds vs) : Wk K H0 (Itt K a) ds (fun _ => True) := by
  refine ⟨fun i H m t r o hi => ?_, fun i H m v H' t r o hi y => ?_, fun i H m t r o hi => ?_⟩
  · exact ⟨vs, vs[i]'(by rw [← r0.length]; exact hi), t.1 _ _ h, by simp⟩
  · obtain ⟨rfl, y⟩ := y
    obtain ⟨d, hd, rd⟩ := (Reps.mono t _ _ r0).getV (y vs (t.1 _ _ h))
    exact ⟨Ts.refl _ _, r, d, hd, rd⟩
  · exact ⟨vs, t.1 _ _ h, by rw [← r0.length]; exact hi⟩
theorem dpi_tup {tg : Expr} (he : DE X e te) : DPI X tg e (iT te) := (pi_tup he).imp fun σ H R ⟨δ, m, Q', rs, rh, q, f⟩ =>
  ⟨δ, m, _, rs, rh, q, fun x m1 ⟨ds, ex, q1⟩ v H1 t1 r1 rh1 => by
    obtain ⟨a, vs, rfl, hs, rr⟩ := sq_of ex r1
    exact ⟨a, rfl, ⟨vs, hs⟩, f ds _ m1 q1 _ H1 t1 rh1 (wk_tup hs rr)⟩⟩
/-- a range -/
def rangeD (n : Nat) : List D := (List.range n).map fun (i : Nat) => D.int (i : Int)
def iR1 (te : DTr) : DTI := fun δ m R => te δ m fun x m1 => ∃ j : Int, x = .int j ∧ -(2 ^ 62) ≤ j ∧ j < 2 ^ 62 ∧ R (rangeD j.toNat) (fun _ => True) m1
theorem rangeD_len (n : Nat) : (rangeD n).length = n := by simp [rangeD]
theorem rangeD_get {n i : Nat} (h : i < n) : (rangeD n)[i]? = some (.int (i : Int)) := by simp [rangeD, h]
theorem dpi_range {tg : Expr} {p : Pos} (hg : Gl X "range") (hm : X.mg "range" = none) (he : DE X e te) (hs : starEach [e] X.env = [(false, eval e X.env)] := by rfl) : DPI X tg (.Call (.Name "range" p) [e] [] pos) (iR1 te) :=
  (pi_range1 hg hm (pa_cons he pa_nil (by rw [hs]; rfl)) hs).imp fun σ H R ⟨δ, m, Q', rs, rh, q, f⟩ =>
  ⟨δ, m, _, rs, rh, q, fun x m1 ⟨j, ex, h1, h2, q1⟩ v H1 t1 r1 rh1 => by
    subst ex; cases r1
    refine ⟨j, rfl, h1, h2, f _ _ m1 q1 _ H1 t1 rh1 ⟨fun i H m t r o hi => ?_, fun i H m v H' t r o hi y => ?_, fun i H m t r o hi => ?_⟩⟩
    · rw [rangeD_len] at hi; exact hi
    · obtain ⟨rfl, rfl⟩ := y
      rw [rangeD_len] at hi
      refine ⟨Ts.refl _ _, r, _, rangeD_get hi, ?_⟩
      have : (0 : Int) + (i : Int) = (i : Int) := by omega
      rw [this]
      exact .int _
    · rw [rangeD_len] at hi; exact hi⟩

/-! ### for -/
def dFor (ws : DTI) (g : Tg) (tb : DTS) : DTS := fun E δ m => ws δ m fun xs ok m1 => ∃ P : Nat → Sl → M → Prop, P 0 δ m1 ∧ (∀ i δ m, P i δ m → ok m) ∧
  (∀ i d δ m, xs[i]? = some d → P i δ m → gD g d δ fun δ2 => tb { E with nx := P (i + 1), ct := P (i + 1), bk := E.nx } δ2 m) ∧ (∀ δ m, P xs.length δ m → E.nx δ m)
theorem ds_for {iter tg : Expr} {body : List Stmt} {ws : DTI} {g : Tg} {tb : DTS} (hp : PassesOwn (model X.prog X.w) X.A X.env X.xe) (hc : X.calm = true) (hi : DPI X tg iter ws) (hg : DG X tg g) (hb : DSs X body tb)
    (hs : ∀ x, foldedSetIterable iter X.env x = pure x := by intro _; rfl) : DS X (.For tg iter body [] pos) (dFor ws g tb) := (ps_for hp hc hi hg hb hs).imp fun E σ H ⟨δ, m, E', rs, rh, q, f⟩ => by
  refine ⟨δ, m, _, rs, rh, q, fun xs ok m1 ⟨P, h0, hok, hs, hd⟩ J H1 t1 rh1 wk => ?_⟩
  refine ⟨fun i n σ' H' => n = xs.length - i ∧ i ≤ xs.length ∧ ∃ δ' m', Ts X.K H1 H' ∧ RelS X.K H' δ' σ' ∧ RelH X.K H' m' ∧ P i δ' m', ⟨xs.length, by simp, Nat.zero_le _, δ, m1, Ts.refl _ _, rs.mono t1, rh1, h0⟩, ?_⟩
  rintro i n σ2 H2 ⟨rfl, hi, δ2, m2, t2, rs2, rh2, p⟩
  have o := hok _ _ _ p
  by_cases hlt : i < xs.length
  · refine .inr ⟨wk.go i H2 m2 t2 rh2 o hlt, fun σ' H' => ∃ δ' m', Ts X.K H1 H' ∧ RelS X.K H' δ' σ' ∧ RelH X.K H' m' ∧ P (i + 1) δ' m', fun σ' H' ⟨δ', m', z⟩ => ⟨xs.length - (i + 1), by omega, rfl, hlt, δ', m', z⟩, fun v H3 y => ?_⟩
    obtain ⟨t3, rh3, d, hd', rd⟩ := wk.yld i H2 m2 v H3 t2 rh2 o hlt y
    refine gV_ok rd (rs2.mono t3) (hs i d δ2 m2 hd' p) fun δ4 σ4 q4 rs4 _ => ?_
    have tt := t2.trans t3
    exact ⟨δ4, m2, _, rs4, rh3, q4, ⟨fun δ' m' p' σ' H' t' rs' rh' => ⟨δ', m', tt.trans t', rs', rh', p'⟩, (f.rt.mono t1).mono tt, (f.nx.mono t1).mono tt, fun δ' m' p' σ' H' t' rs' rh' => ⟨δ', m', tt.trans t', rs', rh', p'⟩⟩⟩
  · have e : i = xs.length := by omega
    subst e
    exact .inl ⟨wk.stop _ H2 m2 t2 rh2 o (Nat.le_refl _), f.nx δ2 m2 (hd δ2 m2 p) σ2 H2 (t1.trans t2) rs2 rh2⟩

/-! ### list comprehensions -/
def DPts (X : Cx) (ifs : List Expr) (t : DTT) : Prop := PTs X ifs (upB X.K t)
def dYes : DTT := fun _ m Q => Q true m
theorem dpts_nil : DPts X [] dYes := ⟨fun pins s σ H Q I ⟨δ, m, Q', rs, rh, q, f⟩ => pts_nil.run pins s σ H Q I (f true m q H (Ts.refl _ _) rh)⟩
theorem dpts_one {c : Expr} {tc : DTT} (h : DTst X c tc) : DPts X [c] tc := pts_one h
def wipeD (δ : Sl) : List Nat → Sl
  | [] => δ
  | v :: vs => (wipeD δ vs).set v none
theorem RelS.wipe {K : PySem.W.Frag} {H : Hp} {δ : Sl} {σ : L2.St} (rs : RelS K H δ σ) : ∀ ws : List Nat, RelS K H (wipeD δ ws) (L2.wipe σ ws)
  | [] => rs
  | w :: ws => (RelS.wipe rs ws).forget w none
def Tg.ix : Tg → List Nat
  | .name i => [i]
  | .tup is => is
def dLC (ws : DTI) (g : Tg) (tt : DTT) (te : DTr) (ow : List Nat) : DTr := fun δ m Q => ws δ m fun xs ok m1 => ∀ p, m1.mu p = none → ∃ P : Nat → M → Prop, P 0 (m1.set p (.lst [])) ∧ (∀ i m, P i m → ok m) ∧
  (∀ i d m, xs[i]? = some d → P i m → gD g d (wipeD δ ow) fun δ2 => tt δ2 m fun b m3 => if b = true then te δ2 m3 fun y m4 => ∃ acc, m4.mu p = some (.lst acc) ∧ acc.length < sizeLine ∧ P (i + 1) (m4.set p (.lst (acc ++ [y]))) else P (i + 1) m3) ∧
  (∀ m, P xs.length m → Q (.ref p) m)
theorem up_lc {K : PySem.W.Frag} {ws : DTI} {g : Tg} {tt : DTT} {te : DTr} {ow : List Nat} (hgo : ∀ i ∈ g.ix, i ∈ ow) : ∀ σ H Q, up K (dLC ws g tt te ow) σ H Q → tLc (upI K ws) (gV K g) (upB K tt) (up K te) ow σ H Q := fun σ H Q ⟨δ, m, Q', rs, rh, q, f⟩ => by
  refine ⟨δ, m, _, rs, rh, q, fun xs ok m1 hP J H1 t1 rh1 wk => fun p hp => ?_⟩
  obtain ⟨P, h0, hok, hs, hd⟩ := hP p (rh1.fresh hp)
  have tp := Ts.new (K := K) (o := .lst []) hp
  refine ⟨fun i n H' => n = xs.length - i ∧ i ≤ xs.length ∧ ∃ m', Ts K H1 H' ∧ RelH K H' m' ∧ P i m', ⟨xs.length, by simp, Nat.zero_le _, _, tp, rh1.newO (x := .lst []) hp ⟨[], upd_same, .nil⟩, h0⟩, ?_⟩
  rintro i n H2 ⟨rfl, hi, m2, t2, rh2, hp2⟩
  have o := hok _ _ hp2
  by_cases hlt : i < xs.length
  · refine .inr ⟨wk.go i H2 m2 t2 rh2 o hlt, fun H' => ∃ m', Ts K H1 H' ∧ RelH K H' m' ∧ P (i + 1) m', fun H' ⟨m', z⟩ => ⟨xs.length - (i + 1), by omega, rfl, hlt, m', z⟩, fun v H3 y => ?_⟩
    obtain ⟨t3, rh3, d, hd', rd⟩ := wk.yld i H2 m2 v H3 t2 rh2 o hlt y
    have t13 := t2.trans t3
    refine gV_ok rd (((rs.mono t1).mono t13).wipe ow) (hs i d m2 hd' hp2) fun δ4 σ4 q4 rs4 hw => ⟨?_, ?_⟩
    · have e := hw ow (fun j hj => hgo j (by cases g <;> exact hj))
      rw [e, wipe_wipe]
    · refine ⟨δ4, m2, _, rs4, rh3, q4, fun b m5 q5 H5 t5 rh5 => ?_⟩
      cases b with
      | true =>
        rw [if_pos rfl] at q5 ⊢
        refine ⟨δ4, m5, _, rs4.mono t5, rh5, q5, fun y m6 ⟨acc, ha, hl, hn⟩ u H6 t6 r6 rh6 => ?_⟩
        obtain ⟨us, e6, rr6⟩ := rh6.obj _ _ ha
        have t7 := rh6.putTS (o := .lst (us ++ [u])) ha
        exact ⟨us, e6, by rw [← rr6.length]; exact hl, _, (((t13.trans t5).trans t6).trans t7), rh6.put (x := .lst (acc ++ [y])) ha ⟨_, upd_same, Reps.mono t7 _ _ (rr6.append (.cons r6 .nil))⟩, hn⟩
      | false =>
        rw [if_neg Bool.false_ne_true] at q5 ⊢
        exact ⟨m5, t13.trans t5, rh5, q5⟩
  · have e : i = xs.length := by omega
    subst e
    exact .inl ⟨wk.stop _ H2 m2 t2 rh2 o (Nat.le_refl _), f _ m2 (hd m2 hp2) _ H2 (t1.trans t2) (.ref p) rh2⟩
where
  wipe_wipe {σ : L2.St} : ∀ {ws : List Nat}, L2.wipe (L2.wipe σ ws) ws = L2.wipe σ ws := fun {ws} => wipe_sub fun i hi => hi
  wipe_sub {σ : L2.St} {us : List Nat} : ∀ {ws : List Nat}, (∀ i ∈ ws, i ∈ us) → L2.wipe (L2.wipe σ us) ws = L2.wipe σ us
    | [], _ => rfl
    | w :: ws, h => by
      show (L2.wipe (L2.wipe σ us) ws).set w none = _
      rw [wipe_sub fun i hi => h i (List.mem_cons_of_mem _ hi)]
      exact set_id (h w List.mem_cons_self)
  set_id {σ : L2.St} {w : Nat} : ∀ {us : List Nat}, w ∈ us → (L2.wipe σ us).set w none = L2.wipe σ us
    | u :: us, h => by
      show ((L2.wipe σ us).set u none).set w none = (L2.wipe σ us).set u none
      by_cases e : w = u
      · subst e; rw [List.set_set]
      · rcases List.mem_cons.mp h with z | z
        · exact (e z).elim
        · rw [List.set_comm _ _ (fun q => e q.symm), set_id z]
theorem de_lc {elt tg iter : Expr} {ifs : List Expr} {scope : Scope} {own : List (Str × Nat)} {ws : DTI} {g : Tg} {tt : DTT} {te : DTr} (hc : X.calm = true) (hN : X.N.Nodup) (hi : DPI X tg iter ws) (ok : BlkOk X.N X.env.scope scope own)
    (hg : ∀ (s : Shared) (H : Hp) (C : Addr) (cl : List (Str × Addr)) (fp : List Addr), DG (X.blk s H scope (compEnvC scope cl C X.env) fp) tg g) (ht : ∀ (s : Shared) (H : Hp) (C : Addr) (cl : List (Str × Addr)) (fp : List Addr), DPts (X.blk s H scope (compEnvC scope cl C X.env) fp) ifs tt)
    (he : ∀ (s : Shared) (H : Hp) (C : Addr) (cl : List (Str × Addr)) (fp : List Addr), DE (X.blk s H scope (compEnvC scope cl C X.env) fp) elt te) (hgo : ∀ i ∈ g.ix, i ∈ own.map (·.2) := by decide) (hs : ∀ x, foldedSetIterable iter X.env x = pure x := by intro _; rfl) :
    DE X (.ListComp elt [⟨tg, iter, ifs, 0⟩] scope pos) (dLC ws g tt te (own.map (·.2))) := (pe_lc (g := gV X.K g) (tt := upB X.K tt) (te := up X.K te) hc hN hi ok hg ht he hs).imp (up_lc hgo)
theorem ds_setLc {i : Nat} {y : Str} {py : Pos} {elt tg iter : Expr} {ifs : List Expr} {scope : Scope} {own : List (Str × Nat)} {spos : Pos} {ws : DTI} {g : Tg} {tt : DTT} {te : DTr} (hc : X.calm = true) (hN : X.N.Nodup) (hy : X.N[i]? = some y) (hyl : X.env.scope.names.lookup y = some .local)
    (hsw : swapsWith (.ListComp elt [⟨tg, iter, ifs, 0⟩] scope pos) (some (.Name y py)) spos.line X.env = pure true) (hi : DPI X tg iter ws) (ok : BlkOk X.N X.env.scope scope own)
    (hg : ∀ (s : Shared) (H : Hp) (C : Addr) (cl : List (Str × Addr)) (fp : List Addr), DG (X.blk s H scope (compEnvC scope cl C X.env) fp) tg g) (ht : ∀ (s : Shared) (H : Hp) (C : Addr) (cl : List (Str × Addr)) (fp : List Addr), DPts (X.blk s H scope (compEnvC scope cl C X.env) fp) ifs tt)
    (he : ∀ (s : Shared) (H : Hp) (C : Addr) (cl : List (Str × Addr)) (fp : List Addr), DE (X.blk s H scope (compEnvC scope cl C X.env) fp) elt te) (hgo : ∀ i ∈ g.ix, i ∈ own.map (·.2) := by decide) (hs : ∀ x, foldedSetIterable iter X.env x = pure x := by intro _; rfl) :
    DS X (.Assign [.Name y py] (.ListComp elt [⟨tg, iter, ifs, 0⟩] scope pos) spos) (dSet (dLC ws g tt te (own.map (·.2))) i) := (ps_setLc (g := gV X.K g) (tt := upB X.K tt) (te := up X.K te) hc hN hy hyl hsw hi ok hg ht he hs).imp fun E σ H ⟨δ, m, E', rs, rh, q, f⟩ => by
  refine up_lc hgo σ H _ ⟨δ, m, _, rs, rh, q, fun d m1 q1 v H1 t1 r1 rh1 => ?_⟩
  exact f.nx _ m1 q1 _ H1 t1 (RelS.set r1 i (rs.mono t1)) rh1

/-! ### all(..) of a generator expression -/
/-- the tables of the code objects that stand in gh -/
def dAll (P : Addr) (ow : List Nat) (ws : DTI) (g : Tg) (te : DTr) : DTr := fun δ m Q => ws δ m fun xs ok m1 => m1.gh.own P ∧ (∀ H, m1.gh.inv H → TabG H P) ∧ (∀ H H2, m1.gh.inv H → Tabbed P H H2 → m1.gh.inv H2) ∧
  ∃ W : Nat → M → Prop, W 0 m1 ∧ (∀ i m, W i m → ok m) ∧ (∀ i d m, xs[i]? = some d → W i m → gD g d (wipeD δ ow) fun δ2 => te δ2 m fun r m3 => ∃ b, r = .bl b ∧ if b = true then W (i + 1) m3 else Q (.bl false) m3) ∧ (∀ m, W xs.length m → Q (.bl true) m)
theorem tabbed_rel {K : PySem.W.Frag} {H H2 : Hp} {m : M} {P : Addr} (r : RelH K H m) (ho : m.gh.own P) (hT : TabG H P) (hi : m.gh.inv H2) (h : Tabbed P H H2) : Ts K H H2 ∧ RelH K H2 m := by
  obtain ⟨ps, hP, _⟩ := hT
  have t : Ts K H H2 := by
    refine ⟨fun a xs s => ?_, fun a xs e => ?_⟩
    · rcases s with (s | ⟨ob, s⟩) | s
      · exact .inl (.inl (by rw [h.2 a (fun z => by subst z; rw [hP] at s; cases s)]; exact s))
      · exact .inl (.inr ⟨ob, by rw [h.2 a (fun z => by subst z; rw [hP] at s; cases s)]; exact s⟩)
      · exact .inr s
    · rw [h.2 a (fun z => by subst z; rw [hP] at e; cases e)]; exact e
  refine ⟨t, hi, r.sep, fun a o e => (r.obj a o e).mono t (h.2 a fun z => ?_)⟩
  subst z
  rw [r.sep _ ho] at e; cases e
theorem RelS.of {K : PySem.W.Frag} {H : Hp} : ∀ {δ : Sl} {σ : L2.St}, δ.length = σ.length → (∀ (i : Nat) (d : D), δ[i]? = some (some d) → ∃ v, σ[i]? = some (some v) ∧ Rep K H d v) → RelS K H δ σ
  | [], [], _, _ => .nil
  | [], _ :: _, h, _ => by simp at h
  | _ :: _, [], h, _ => by simp at h
  | o :: δ, p :: σ, hl, h => .cons (fun d e => by
      obtain ⟨v, e1, r⟩ := h 0 d (by simp [e])
      exact ⟨v, by simpa using e1, r⟩) (RelS.of (by simpa using hl) fun i d e => by
      obtain ⟨v, e1, r⟩ := h (i + 1) d (by simpa using e)
      exact ⟨v, by simpa using e1, r⟩)
theorem wipeD_some {δ : Sl} {i : Nat} {d : D} : ∀ {vs : List Nat}, (wipeD δ vs)[i]? = some (some d) → δ[i]? = some (some d) ∧ i ∉ vs
  | [], h => ⟨h, by simp⟩
  | v :: vs, h => by
    unfold wipeD at h
    by_cases hi : v = i
    · subst hi
      by_cases hv : v < (wipeD δ vs).length
      · rw [List.getElem?_set_self hv] at h; cases h
      · rw [List.getElem?_eq_none (by simpa using hv)] at h; cases h
    · rw [List.getElem?_set_ne hi] at h
      obtain ⟨h1, h2⟩ := wipeD_some h
      exact ⟨h1, by simp only [List.mem_cons, not_or]; exact ⟨fun e => hi e.symm, h2⟩⟩
theorem wipe_at {σ : L2.St} {i : Nat} : ∀ {vs : List Nat}, i ∉ vs → (L2.wipe σ vs)[i]? = σ[i]?
  | [], _ => rfl
  | v :: vs, h => by
    unfold L2.wipe
    rw [List.getElem?_set_ne (fun e => h (by rw [e]; exact List.mem_cons_self)), wipe_at fun e => h (List.mem_cons_of_mem _ e)]
theorem RelS.sameW {K : PySem.W.Frag} {H : Hp} {δ : Sl} {σ σ' : L2.St} {ow : List Nat} (r : RelS K H (wipeD δ ow) σ) (e : L2.wipe σ' ow = L2.wipe σ ow) : RelS K H (wipeD δ ow) σ' := by
  refine RelS.of ?_ fun i d h => ?_
  · rw [r.length, ← wipe_length σ ow, ← e, wipe_length]
  · obtain ⟨_, hi⟩ := wipeD_some h
    obtain ⟨v, e1, rv⟩ := r.get h
    exact ⟨v, by rw [← wipe_at hi, e, wipe_at hi]; exact e1, rv⟩
theorem de_all {c P : Addr} {elt tg iter : Expr} {p gpos : Pos} {scope : Scope} {own : List (Str × Nat)} {ws : DTI} {g : Tg} {te : DTr} {k : Nat}
    (hr : Room (k + 1) X.A) (hg : Gl X "all") (hm : X.mg "all" = none) (hb : bootBuiltins "all" = some (.builtin "all")) (TB : TabB X.base X.mg c P) (hcode : X.env.code = .ref c)
    (ok : GenOk X.N X.env.scope scope own) (hN : X.N.Nodup) (hi : DPI X tg iter ws)
    (hgt : ∀ A cenv s H fp, cenv.scope = scope → DG (cxG X X.N A cenv s H fp) tg g)
    (hel : ∀ A cenv s H fp, cenv.scope = scope → Room k A → DE (cxG X X.N A cenv s H fp) elt te)
    (hs : ∀ v, genFold iter X.env v = pure v) (hgo : ∀ i ∈ g.ix, i ∈ own.map (·.2) := by decide)
    (he : starEach [gexp elt tg iter scope gpos] X.env = (false, eval (gexp elt tg iter scope gpos) X.env) :: starEach [] X.env := by rfl) :
    DE X (.Call (.Name "all" p) [gexp elt tg iter scope gpos] [] pos) (dAll P (own.map (·.2)) ws g te) := (pe_allG (g := gV X.K g) (te := up X.K te) hr hg hm hb TB hcode ok hN hi hgt hel hs he).imp fun σ H Q ⟨δ, m, Q', rs, rh, q, f⟩ => by
  refine ⟨δ, m, _, rs, rh, q, fun xs ok m1 ⟨hP, hT, hI, W, h0, hok, hst, hd⟩ J H1 t1 rh1 wk => ⟨hT H1 rh1.inv, fun H2 hT2 => ?_⟩⟩
  obtain ⟨t2, rh2⟩ := tabbed_rel rh1 hP (hT H1 rh1.inv) (hI H1 H2 rh1.inv hT2) hT2
  refine ⟨fun i n σ' H' => n = xs.length - i ∧ i ≤ xs.length ∧ ∃ m' , Ts X.K H1 H' ∧ RelS X.K H' (wipeD δ (own.map (·.2))) σ' ∧ RelH X.K H' m' ∧ W i m', xs.length, ⟨by simp, Nat.zero_le _, m1, t2, ((rs.mono t1).mono t2).wipe _, rh2, h0⟩, ⟨?_⟩⟩
  · rintro i n σ3 H3 ⟨rfl, hi, m3, t3, rs3, rh3, w3⟩
    have o := hok _ _ w3
    by_cases hlt : i < xs.length
    · refine .inr ⟨wk.go i H3 m3 t3 rh3 o hlt, by omega, fun v H4 y => ?_⟩
      obtain ⟨t4, rh4, d, hd', rd⟩ := wk.yld i H3 m3 v H4 t3 rh3 o hlt y
      have rsw : RelS X.K H4 (wipeD δ (own.map (·.2))) σ3 := rs3.mono t4
      refine gV_ok rd rsw (hst i d m3 hd' w3) fun δ5 σ5 q5 rs5 hw => ?_
      refine ⟨δ5, m3, _, rs5, rh4, q5, fun r m6 ⟨b, eb, q6⟩ u H6 t6 r6 rh6 => ?_⟩
      subst eb; cases r6
      refine ⟨b, rfl, ?_⟩
      have t36 := (t3.trans t4).trans t6
      cases b with
      | true =>
        rw [if_pos rfl] at q6 ⊢
        refine ⟨xs.length - (i + 1), by omega, rfl, hlt, m6, t36, RelS.mono t6 (rsw.sameW (hw _ fun j hj => hgo j (by cases g <;> exact hj))), rh6, q6⟩
      | false =>
        rw [if_neg Bool.false_ne_true] at q6 ⊢
        exact f _ m6 q6 _ H6 (t1.trans t36) (.bl _) rh6
    · have e : i = xs.length := by omega
      subst e
      exact .inl ⟨wk.stop _ H3 m3 t3 rh3 o (Nat.le_refl _), f _ m3 (hd m3 w3) _ H3 (t1.trans t3) (.bl _) rh3⟩
end
end DL

namespace DL
open PySem PySem.Spec PyProof.Rows L2 GA GxR

/-! ### list.remove of data -/
mutual
theorem py_plain : ∀ d : D, d.py.plain = true
  | .non | .bl _ | .int _ | .str _ | .ref _ => rfl
  | .tup ds => pys_plain ds
  | .ktup ds => pys_plain ds
theorem pys_plain : ∀ ds : List D, PyData.plainAll (D.pys ds) = true
  | [] => rfl
  | d :: ds => by
    show (d.py.plain && PyData.plainAll (D.pys ds)) = true
    rw [py_plain d, pys_plain ds]; rfl
end
def rRemD (K : PySem.W.Frag) : V → List V → Hp → VK → Prop := fun x vs H Q => ∃ (l : Addr) (xs : List V) (y : V) (d : PyData) (ds : List PyData) (j : Nat), x = .ref l ∧ vs = [y] ∧ H l = some (.lst xs) ∧ DpAll K H xs ds ∧ Dp K H y d ∧
  PyData.plainAll ds = true ∧ d.plain = true ∧ d.depth ≤ 60 ∧ SeqAt.dataPlace ds d = some j ∧ Q .non (upd H l (.lst (xs.eraseIdx j)))
theorem Vals.erase : ∀ {xs : List V} {us : List Value} (n : Nat), Vals xs us → Vals (xs.eraseIdx n) (us.eraseIdx n)
  | _, _, _, .nil => .nil
  | _, _, 0, .cons r t => t
  | _, _, n + 1, .cons r t => .cons r (Vals.erase n t)
theorem mt_removeD {X : Cx} {k : Nat} (hr : Room k X.A) : MtM X "list.remove" (rRemD X.K) := by
  intro pins s σ H x vs v us Q I rx rv h
  obtain ⟨l, xs, y, d, ds, j, rfl, rfl, hH, hall, hd, p1, p2, hdep, hp, q⟩ := h
  cases rx
  obtain ⟨u, rfl, ru⟩ := rv.one
  obtain ⟨z, its, n, r, hl, e⟩ := I.lstM hH
  obtain ⟨as, ra⟩ := Dp.readsAll I ds xs its hall r
  obtain ⟨bs, rb⟩ := Dp.reads I d y u hd ru
  refine SeqAt.remove_list_data (j := j) (vs := its.toArray) ⟨_, e, rfl, _, rfl⟩ (by simpa using ra) rb p1 p2 ?_ hp (by rw [List.size_toArray, ← hl]; exact z) ?_
  · have := hr.units
    have h2 : min (PyData.depthAll ds) d.depth ≤ d.depth := Nat.min_le_right _ _
    omega
  · refine ⟨.non, _, I.lset (its' := its.eraseIdx j) (t' := s.toks) hH e ?_ (Vals.erase j r) ?_, rfl, q⟩
    · have : (its.toArray.eraseIdxIfInBounds j).toList = its.eraseIdx j := by
        by_cases hj : j < its.toArray.size
        · rw [Array.eraseIdxIfInBounds, dif_pos hj, Array.toList_eraseIdx]
        · rw [Array.eraseIdxIfInBounds, dif_neg hj]
          have h2 : its.length ≤ j := by simpa using hj
          rw [List.eraseIdx_of_length_le h2]
      exact Array.ext' (by rw [this])
    · exact Nat.le_trans (by rw [List.length_eraseIdx]; split <;> omega) z
def rdRemove : DRM := fun x ys m Q => ∃ a ds y j, x = .ref a ∧ ys = [y] ∧ m.mu a = some (.lst ds) ∧ D.pures ds = true ∧ y.pure = true ∧ y.py.depth ≤ 60 ∧ SeqAt.dataPlace (D.pys ds) y.py = some j ∧ Q .non (m.set a (.lst (ds.eraseIdx j)))
theorem mtl_remove {K : PySem.W.Frag} : MtL K (rRemD K) rdRemove := fun x ys vx vs H m Q' Q rx rs rh ⟨a, ds, y, j, ex, ey, h, p1, p2, hdep, hp, q⟩ f => by
  subst ex ey
  cases rx
  obtain ⟨v, rfl, rv⟩ := rs.one
  obtain ⟨xs, e, rr⟩ := rh.obj _ _ h
  have t := rh.putTS (o := .lst (xs.eraseIdx j)) h
  exact ⟨a, xs, v, y.py, D.pys ds, j, rfl, rfl, e, Reps.dp _ _ p1 rr, Rep.dp _ _ p2 rv, pys_plain _, py_plain _, hdep, hp, f _ _ q _ _ t .non (rh.put (x := .lst (ds.eraseIdx j)) h ⟨_, upd_same, Reps.mono t _ _ (rr.erase j)⟩)⟩
section
variable {X : Cx} {a b e o i value : Expr} {ta tb te to td ty tv : DTr} {es : List Expr} {t : DTA} {pos apos pos' : Pos}
theorem de_remove {k : Nat} (hr : Room k X.A) (ho : DE X o to) (he : DE X e te)
    (hbase : attributeBase o "remove" X.env (eval o X.env) = eval o X.env := by rfl)
    (hfew : ((backTo pos (starEach [e] X.env)).all (fun x => !x.1) && (backToKw pos (keywordEach [] X.env)).all (fun x => x.1.isSome)
      && decide ([e].length + ([] : List Keyword).length + (if ([] : List Keyword).isEmpty then 0 else 1) < 30)) = true := by rfl)
    (hline : (apos.endLine == pos.line) = true := by rfl) (hs : starEach [e] X.env = (false, eval e X.env) :: starEach [] X.env := by rfl) (hplain : (backTo pos (starEach [] X.env)).any (·.1) = false := by rfl) :
    DE X (.Call (.Attribute o "remove" apos) [e] [] pos) (dMeth rdRemove to (dCons te dNil)) := de_meth PySem.F.slot_list_remove PySem.F.type_list_remove (mt_removeD hr) mtl_remove ho (da_cons he da_nil hs) hbase hfew hline hs hplain

/-! ### dicts -/
def kD : Key → D
  | .inl k => .int k
  | .inr s => .str s
theorem kD_rep {K : PySem.W.Frag} {H : Hp} {k : Key} {v : V} (r : Rep K H (kD k) v) : v = kV k := by
  cases k <;> (cases r; rfl)
theorem kDs_rep {K : PySem.W.Frag} {H : Hp} : ∀ {ks : List Key} {vs : List V}, Reps K H (ks.map kD) vs → vs = ks.map kV
  | [], _, r => by cases r; rfl
  | k :: ks, _, r => by
    cases r with
    | cons r1 r2 => rw [kD_rep r1, kDs_rep r2]; rfl
theorem rep_kD {K : PySem.W.Frag} {H : Hp} : ∀ k : Key, Rep K H (kD k) (kV k)
  | .inl k => .int k
  | .inr s => .str s
theorem reps_kD {K : PySem.W.Frag} {H : Hp} : ∀ ks : List Key, Reps K H (ks.map kD) (ks.map kV)
  | [] => .nil
  | k :: ks => .cons (rep_kD k) (reps_kD ks)
def valD {κ : Type} [DecidableEq κ] (kvs : List (κ × D)) (k : κ) : Option D := (kvs.find? fun kv => decide (kv.1 = k)).map (·.2)
def putD {κ : Type} [DecidableEq κ] (kvs : List (κ × D)) (k : κ) (v : D) : List (κ × D) :=
  if (kvs.any fun kv => decide (kv.1 = k)) = true then kvs.map (fun kv => if kv.1 = k then (kv.1, v) else kv) else kvs ++ [(k, v)]
theorem KVd.val {K : PySem.W.Frag} {H : Hp} {κ : Type} [DecidableEq κ] {k : κ} : ∀ {kvs : List (κ × D)} {ys : List (κ × V)}, KVd K H kvs ys → (∀ d, valD kvs k = some d → ∃ v, valV ys k = some v ∧ Rep K H d v) ∧ (valD kvs k = none → valV ys k = none)
  | _, _, .nil => ⟨fun d h => (by cases h), fun _ => rfl⟩
  | _, _, .cons (a := p) (b := q) (l₁ := l1) (l₂ := l2) r t => by
    obtain ⟨ih1, ih2⟩ := KVd.val (k := k) t
    unfold valD valV at *
    rw [List.find?_cons, List.find?_cons]
    by_cases e : p.1 = k
    · have e' : q.1 = k := by rw [← r.1]; exact e
      simp only [e, e', decide_true]
      exact ⟨fun d h => ⟨q.2, rfl, by simp at h; rw [← h]; exact r.2⟩, fun h => by simp at h⟩
    · have e' : ¬ q.1 = k := by rw [← r.1]; exact e
      simp only [decide_eq_false e, decide_eq_false e']
      exact ⟨ih1, ih2⟩
theorem KVd.length {K : PySem.W.Frag} {H : Hp} {κ : Type} {kvs : List (κ × D)} {ys : List (κ × V)} (h : KVd K H kvs ys) : kvs.length = ys.length := Paired.length h
theorem KVd.any {K : PySem.W.Frag} {H : Hp} {κ : Type} [DecidableEq κ] {k : κ} : ∀ {kvs : List (κ × D)} {ys : List (κ × V)}, KVd K H kvs ys → (kvs.any fun kv => decide (kv.1 = k)) = (ys.any fun kv => decide (kv.1 = k))
  | _, _, .nil => rfl
  | _, _, .cons r t => by rw [List.any_cons, List.any_cons, KVd.any t, r.1]
theorem KVd.map {K : PySem.W.Frag} {H : Hp} {κ : Type} [DecidableEq κ] {k : κ} {d : D} {v : V} (rv : Rep K H d v) : ∀ {kvs : List (κ × D)} {ys : List (κ × V)}, KVd K H kvs ys → KVd K H (kvs.map fun kv => if kv.1 = k then (kv.1, d) else kv) (ys.map fun kv => if kv.1 = k then (kv.1, v) else kv)
  | _, _, .nil => .nil
  | _, _, .cons (a := p) (b := q) r t => by
    refine .cons ?_ (KVd.map rv t)
    by_cases e : p.1 = k
    · have e' : q.1 = k := by rw [← r.1]; exact e
      simp only [if_pos e, if_pos e']
      exact ⟨r.1, rv⟩
    · have e' : ¬ q.1 = k := by rw [← r.1]; exact e
      simp only [if_neg e, if_neg e']
      exact r
theorem KVd.append {K : PySem.W.Frag} {H : Hp} {κ : Type} : ∀ {kvs ks : List (κ × D)} {ys zs : List (κ × V)}, KVd K H kvs ys → KVd K H ks zs → KVd K H (kvs ++ ks) (ys ++ zs)
  | _, _, _, _, .nil, h => h
  | _, _, _, _, .cons r t, h => .cons r (KVd.append t h)
theorem KVd.put {K : PySem.W.Frag} {H : Hp} {κ : Type} [DecidableEq κ] {k : κ} {d : D} {v : V} {kvs : List (κ × D)} {ys : List (κ × V)} (h : KVd K H kvs ys) (rv : Rep K H d v) : KVd K H (putD kvs k d) (putK ys k v) := by
  unfold putD putK
  rw [h.any (k := k)]
  split
  · exact h.map rv
  · exact h.append (.cons ⟨rfl, rv⟩ .nil)
/-- what stands at the key y of the dict at a -/
def GetD (m : M) (a : Addr) (y : D) (r : Option D) : Prop := (∃ kvs k, m.mu a = some (.dic kvs) ∧ y = kD k ∧ r = valD kvs k) ∨ ∃ kvs ks, m.mu a = some (.dit kvs) ∧ y = .tup (ks.map kD) ∧ r = valD kvs ks
theorem GetD.v {K : PySem.W.Frag} {H : Hp} {m : M} {a : Addr} {y : D} {v : V} {r : Option D} (h : GetD m a y r) (ry : Rep K H y v) (rh : RelH K H m) : ∃ o, DGet H a v o ∧ (∀ d, r = some d → ∃ u, o = some u ∧ Rep K H d u) ∧ (r = none → o = none) := by
  rcases h with ⟨kvs, k, e, rfl, er⟩ | ⟨kvs, ks, e, rfl, er⟩
  · obtain ⟨ys, e2, kv⟩ := rh.obj _ _ e
    have := kD_rep ry
    subst this er
    obtain ⟨h1, h2⟩ := kv.val (k := k)
    exact ⟨valV ys k, DGet.k e2, fun d hd => by obtain ⟨u, hu, ru⟩ := h1 d hd; exact ⟨u, hu, ru⟩, h2⟩
  · obtain ⟨ys, e2, kv⟩ := rh.obj _ _ e
    cases ry with
    | tup eb rr =>
      have := kDs_rep rr
      subst this er
      obtain ⟨h1, h2⟩ := kv.val (k := ks)
      exact ⟨valV ys ks, DGet.t e2 eb, fun d hd => by obtain ⟨u, hu, ru⟩ := h1 d hd; exact ⟨u, hu, ru⟩, h2⟩
def dDGet (td ty : DTr) : DTr := fun δ m Q => td δ m fun x m1 => ty δ m1 fun y m2 => ∃ a d, x = .ref a ∧ GetD m2 a y (some d) ∧ Q d m2
theorem de_dget {k : Nat} (hr : Room k X.A) (ho : DE X o td) (hi : DE X i ty) (hs : NoSl i := by exact fun _ _ => rfl) : DE X (.Subscript o i pos) (dDGet td ty) := (pe_dget (hu_of hr) ho hi hs).imp fun σ H Q ⟨δ, m, Q', rs, rh, q, f⟩ =>
  ⟨δ, m, _, rs, rh, q, fun x m1 q1 v H1 t1 r1 rh1 => ⟨δ, m1, _, rs.mono t1, rh1, q1, fun y m2 ⟨a, d, ex, hg, q2⟩ u H2 t2 r2 rh2 => by
    subst ex; cases r1
    obtain ⟨o, h1, h2, _⟩ := hg.v r2 rh2
    obtain ⟨w, rfl, rw'⟩ := h2 d rfl
    exact ⟨a, w, rfl, h1, f d m2 q2 w H2 (t1.trans t2) rw' rh2⟩⟩⟩
def dDIn (neg : Bool) (ty td : DTr) : DTr := fun δ m Q => ty δ m fun y m1 => td δ m1 fun x m2 => ∃ a r, x = .ref a ∧ GetD m2 a y r ∧ Q (.bl (if neg then !r.isSome else r.isSome)) m2
theorem isSome_eq {K : PySem.W.Frag} {H : Hp} {r : Option D} {o : Option V} (h1 : ∀ d, r = some d → ∃ u, o = some u ∧ Rep K H d u) (h2 : r = none → o = none) : o.isSome = r.isSome := by
  cases r with
  | none => rw [h2 rfl]; rfl
  | some d => obtain ⟨u, rfl, _⟩ := h1 d rfl; rfl
theorem up_din {K : PySem.W.Frag} {ty td : DTr} : ∀ σ H Q, up K (dDIn false ty td) σ H Q → tDIn (up K ty) (up K td) σ H Q := fun σ H Q ⟨δ, m, Q', rs, rh, q, f⟩ =>
  ⟨δ, m, _, rs, rh, q, fun y m1 q1 v H1 t1 r1 rh1 => ⟨δ, m1, _, rs.mono t1, rh1, q1, fun x m2 ⟨a, r, ex, hg, q2⟩ u H2 t2 r2 rh2 => by
    subst ex; cases r2
    obtain ⟨o, h1, h2, h3⟩ := hg.v (Rep.mono t2 _ _ r1) rh2
    refine ⟨a, o, rfl, h1, ?_⟩
    rw [isSome_eq h2 h3]
    exact f _ m2 q2 _ H2 (t1.trans t2) (.bl _) rh2⟩⟩
theorem up_dnotin {K : PySem.W.Frag} {ty td : DTr} : ∀ σ H Q, up K (dDIn true ty td) σ H Q → tDNotIn (up K ty) (up K td) σ H Q := fun σ H Q ⟨δ, m, Q', rs, rh, q, f⟩ =>
  ⟨δ, m, _, rs, rh, q, fun y m1 q1 v H1 t1 r1 rh1 => ⟨δ, m1, _, rs.mono t1, rh1, q1, fun x m2 ⟨a, r, ex, hg, q2⟩ u H2 t2 r2 rh2 => by
    subst ex; cases r2
    obtain ⟨o, h1, h2, h3⟩ := hg.v (Rep.mono t2 _ _ r1) rh2
    refine ⟨a, o, rfl, h1, ?_⟩
    rw [isSome_eq h2 h3]
    exact f _ m2 q2 _ H2 (t1.trans t2) (.bl _) rh2⟩⟩
theorem de_din {k : Nat} (hr : Room k X.A) (hi : DE X i ty) (ho : DE X o td) (hb : behindInMarks .In o = false := by rfl) : DE X (.Compare i [.In] [o] pos) (dDIn false ty td) := (pe_cmp (pc_din (hu_of hr) hi ho) hb).imp up_din
theorem dt_din {k : Nat} (hr : Room k X.A) (hi : DE X i ty) (ho : DE X o td) (hb : behindInMarks .In o = false := by rfl) : DTst X (.Compare i [.In] [o] pos) (dB (dDIn false ty td)) := (pt_cmp (pc_din (hu_of hr) hi ho) hb).imp fun σ H Q q => up_din σ H _ (up_B σ H Q q)
theorem dt_dnotin {k : Nat} (hr : Room k X.A) (hi : DE X i ty) (ho : DE X o td) (hb : behindInMarks .NotIn o = false := by rfl) : DTst X (.Compare i [.NotIn] [o] pos) (dB (dDIn true ty td)) := (pt_cmp (pc_dnotin (hu_of hr) hi ho) hb).imp fun σ H Q q => up_dnotin σ H _ (up_B σ H Q q)
def dDPut (td ty tv : DTr) : DTS := fun E δ m => tv δ m fun v m1 => td δ m1 fun x m2 => ty δ m2 fun y m3 => ∃ a, x = .ref a ∧
  ((∃ kvs k, m3.mu a = some (.dic kvs) ∧ y = kD k ∧ kvs.length < sizeLine ∧ E.nx δ (m3.set a (.dic (putD kvs k v)))) ∨ ∃ kvs ks, m3.mu a = some (.dit kvs) ∧ y = .tup (ks.map kD) ∧ kvs.length < sizeLine ∧ E.nx δ (m3.set a (.dit (putD kvs ks v))))
theorem ds_dput {k : Nat} (hr : Room k X.A) (ho : DE X o td) (hi : DE X i ty) (hv : DE X value tv) (hs : swapsWith value (some (.Subscript o i pos')) pos.line X.env = pure false := by rfl) : DS X (.Assign [.Subscript o i pos'] value pos) (dDPut td ty tv) :=
  (ps_dput (hu_of hr) ho hi hv hs).imp fun E σ H ⟨δ, m, E', rs, rh, q, f⟩ =>
  ⟨δ, m, _, rs, rh, q, fun v m1 q1 vv H1 t1 r1 rh1 => ⟨δ, m1, _, rs.mono t1, rh1, q1, fun x m2 q2 vx H2 t2 r2 rh2 => ⟨δ, m2, _, (rs.mono t1).mono t2, rh2, q2, fun y m3 ⟨a, ex, q3⟩ vy H3 t3 r3 rh3 => by
    subst ex; cases r2
    have rv := Rep.mono (t2.trans t3) _ _ r1
    have t13 := (t1.trans t2).trans t3
    rcases q3 with ⟨kvs, k, e, rfl, hl, qn⟩ | ⟨kvs, ks, e, rfl, hl, qn⟩
    · obtain ⟨ys, e2, kv⟩ := rh3.obj _ _ e
      have := kD_rep r3
      subst this
      have t4 := rh3.putTS (o := .dK (putK ys k vv)) e
      exact ⟨a, _, rfl, DPut.k e2 (by rw [← kv.length]; exact hl), f.nx _ _ qn _ _ (t13.trans t4) (rs.mono (t13.trans t4)) (rh3.put (x := .dic (putD kvs k v)) e ⟨_, upd_same, (kv.put rv).mono t4⟩)⟩
    · obtain ⟨ys, e2, kv⟩ := rh3.obj _ _ e
      cases r3 with
      | tup eb rr =>
        have := kDs_rep rr
        subst this
        have t4 := rh3.putTS (o := .dT (putK ys ks vv)) e
        exact ⟨a, _, rfl, DPut.t e2 eb (by rw [← kv.length]; exact hl), f.nx _ _ qn _ _ (t13.trans t4) (rs.mono (t13.trans t4)) (rh3.put (x := .dit (putD kvs ks v)) e ⟨_, upd_same, (kv.put rv).mono t4⟩)⟩⟩⟩⟩
def dNewK : DTr := fun _ m Q => ∀ p, m.mu p = none → Q (.ref p) (m.set p (.dic []))
def dNewT : DTr := fun _ m Q => ∀ p, m.mu p = none → Q (.ref p) (m.set p (.dit []))
theorem de_newK : DE X (.Dict [] [] pos) dNewK := pe_dnewK.imp fun σ H Q ⟨δ, m, Q', rs, rh, q, f⟩ => fun p hp => f _ _ (q p (rh.fresh hp)) _ _ (Ts.new hp) (.ref p) (rh.newO (x := .dic []) hp ⟨[], upd_same, .nil⟩)
theorem de_newT : DE X (.Dict [] [] pos) dNewT := pe_dnewT.imp fun σ H Q ⟨δ, m, Q', rs, rh, q, f⟩ => fun p hp => f _ _ (q p (rh.fresh hp)) _ _ (Ts.new hp) (.ref p) (rh.newO (x := .dit []) hp ⟨[], upd_same, .nil⟩)
/-- a display of constants, by its own reading -/
def dNewC (kvs : List (Key × D)) : DTr := fun _ m Q => ∀ p, m.mu p = none → Q (.ref p) (m.set p (.dic kvs))

/-! ### a dict with tuple keys, walked -/
def dLock (n : Nat) (t : DTr) : DTr := fun δ m Q => ∃ a kvs, δ[n]? = some (some (.ref a)) ∧ m.mu a = some (.dit kvs) ∧ ∀ u, t δ (m.set a (.lck kvs u)) (fun d m' => m'.mu a = some (.lck kvs u) ∧ Q d (m'.set a (.dit kvs)))
theorem de_lock {n : Nat} {t : DTr} (h : DE X e t) : DE X e (dLock n t) := (pe_lock h).imp fun σ H Q ⟨δ, m, Q', rs, rh, ⟨a, kvs, ha, he, q⟩, f⟩ => by
  obtain ⟨ys, e2, kv⟩ := rh.obj _ _ he
  refine ⟨a, _, e2, trivial, fun od => ?_⟩
  have t1 : Ts X.K H (upd H a (.frz od (.dT ys))) := rh.putTS he
  refine ⟨δ, _, _, rs.mono t1, rh.put (x := .lck kvs (.frz od (.dT ys))) he ⟨upd_same, od, ys, rfl, kv.mono t1⟩, q _, fun d m' ⟨hl, q1⟩ v H' t2 r2 rh2 => ?_⟩
  obtain ⟨e3, od', ys', e4, kv'⟩ := rh2.obj _ _ hl
  cases e4
  have t3 := rh2.putTS (o := .dT ys) hl
  exact ⟨e3, f d _ q1 v _ ((t1.trans t2).trans t3) (Rep.mono t3 _ _ r2) (rh2.put (x := .dit kvs) hl ⟨ys, upd_same, kv'.mono t3⟩)⟩
def iK (n : Nat) : DTI := fun δ m R => ∃ a kvs u, δ[n]? = some (some (.ref a)) ∧ m.mu a = some (.lck kvs u) ∧ R (kvs.map fun p => D.tup (p.1.map kD)) (fun m => m.mu a = some (.lck kvs u)) m
theorem dpi_keys {n : Nat} {tg : Expr} (he : PE X e (tVar n)) : DPI X tg e (iK n) := (pi_keys he).imp fun σ H R ⟨δ, m, Q', rs, rh, ⟨a, kvs, u, ha, hm, q⟩, f⟩ => by
  obtain ⟨v, e1, r1⟩ := rs.get ha
  cases r1
  obtain ⟨e2, od, ys, eu, kv⟩ := rh.obj _ _ hm
  subst eu
  refine ⟨_, e1, a, od, rfl, .inr ⟨ys, e2, f _ _ m q _ H (Ts.refl _ _) rh ⟨fun i H2 m2 t r o hi => ?_, fun i H2 m2 v H' t r o hi y => ?_, fun i H2 m2 t r o hi => ?_⟩⟩⟩
  · obtain ⟨e3, _⟩ := r.obj _ _ o
    exact ⟨e3, by rw [← kv.length]; simpa using hi⟩
  · obtain ⟨rfl, k, w, b, h1, rfl, h3⟩ := y
    obtain ⟨e3, od', ys', e4, kv'⟩ := r.obj _ _ o
    cases e4
    refine ⟨Ts.refl _ _, r, .tup (k.map kD), ?_, .tup h3 (reps_kD k)⟩
    have hi' : i < kvs.length := by simpa using hi
    rw [List.getElem?_map, List.getElem?_eq_getElem hi']
    have : (kvs[i]).1 = k := pair_key kv' (List.getElem?_eq_getElem hi') h1
    simp [this]
  · obtain ⟨e3, _⟩ := r.obj _ _ o
    exact ⟨e3, by rw [← kv.length]; simpa using hi⟩
where
  pair_key {K : PySem.W.Frag} {H : Hp} {κ : Type} : ∀ {kvs : List (κ × D)} {ys : List (κ × V)} {i : Nat} {p : κ × D} {k : κ} {w : V}, KVd K H kvs ys → kvs[i]? = some p → ys[i]? = some (k, w) → p.1 = k
    | _, _, _, _, _, _, .nil, h, _ => by simp at h
    | _, _, 0, _, _, _, .cons r _, h, h' => by simp at h h'; rw [← h, r.1, h']
    | _, _, i + 1, _, _, _, .cons _ t, h, h' => pair_key (i := i) t (by simpa using h) (by simpa using h')
end
end DL

namespace DL
open PySem PySem.Spec PyProof.Rows L2 GA GxR
def startD (N : List Str) (ds : List D) : Sl := ds.map some ++ List.replicate (N.length - ds.length) none
theorem start_rel {K : PySem.W.Frag} {H : Hp} {N : List Str} {ds : List D} {vs : List V} (r : Reps K H ds vs) : RelS K H (startD N ds) (L2.start N vs) := by
  unfold startD L2.start
  rw [← r.length]
  refine RelS.of (by simp [r.length]) fun i d h => ?_
  by_cases hi : i < ds.length
  · rw [List.getElem?_append_left (by simpa using hi), List.getElem?_map] at h
    cases e : ds[i]? with
    | none => rw [e] at h; cases h
    | some d' =>
      rw [e] at h; cases h
      obtain ⟨v, hv, rv⟩ := r.get e
      exact ⟨v, by rw [List.getElem?_append_left (by simpa [← r.length] using hi), List.getElem?_map, hv]; rfl, rv⟩
  · rw [List.getElem?_append_right (by simpa using hi), List.getElem?_replicate] at h
    split at h <;> cases h
section
variable {P : Program} {w : World} {K : PySem.W.Frag} {mg : Str → Option Value} {base : Heap}
/-- a def by its body, over trees -/
theorem dcal {x : Str} {st : Stmt} {f : Addr} {fd : FuncData} {N ps : List Str} {k : Nat} {sp : DSp} (F : Fun K x x st f fd) (hm : mg x = some (.ref f)) (b : Binds K fd ps []) (S : FnScope N ps (defScope st)) (hl : ∀ ds m Q, sp ds m Q → ds.length = ps.length)
    (hbody : ∀ (cdv : Value) (A : Around) (outer : List Env) (s : Shared) (H : Hp) (E : XK), Room k (A.deeper (envOfC x (defScope st) s.heap.objs.size f cdv)) →
      ∃ t, DSs (cxOf CX0 P w K mg base N x (defScope st) f cdv A outer s H E).nox (defBody st) t ∧ ∀ ds m Q, sp ds m Q → t { nx := fun _ m' => Q .non m', rt := Q } (startD N ds) m) : DCal P w K mg base (k + 1) x sp := by
  refine ⟨f, fd, ps, F.ok S (fun vs H Q E ⟨ds, m, Q', r, rh, q, f⟩ => by rw [← r.length]; exact hl ds m Q' q) fun cdv A outer s H vs Q E hr hsp => ?_, hm, F.kp, b⟩
  obtain ⟨ds, m, Q', r, rh, q, f⟩ := hsp
  obtain ⟨t, ht, h⟩ := hbody cdv A outer s H E hr
  refine ⟨_, ht, startD N ds, m, _, start_rel r, rh, h ds m Q' q, ⟨fun δ' m' q' σ' H' t' rs' rh' => f .non m' q' .non H' t' .non rh', f, fun _ _ z => z.elim, fun _ _ z => z.elim⟩⟩
/-- .. whose code object is known -/
structure FunC (K : PySem.W.Frag) (x : Str) (st : Stmt) (f : Addr) (fd : FuncData) (c : Addr) : Prop where
  ex : ∃ (oc : Value) (od : Option Addr) (kV doc pm : Value) (an : Option Addr) (ct : Value) (osl : Array (Option Value)),
    fd = PySem.W.fnOf x x (defArgs st) (defBody st) (defScope st) .none kV doc pm an (.ref c) ct ∧ K.lookup f = some ⟨oc, od, .func fd, osl⟩ ∧ PySem.W.codeIn K (.ref c) x = true
  kp : PySem.W.keepIn K (.ref f) = true
theorem FunC.fun {x : Str} {st : Stmt} {f c : Addr} {fd : FuncData} (F : FunC K x st f fd c) : Fun K x x st f fd := by
  obtain ⟨oc, od, kV, doc, pm, an, ct, osl, e, l, cd⟩ := F.ex
  exact ⟨⟨oc, od, kV, doc, pm, an, .ref c, ct, osl, e, l, cd⟩, F.kp⟩
theorem dcalC {x : Str} {st : Stmt} {f c : Addr} {fd : FuncData} {N ps : List Str} {k : Nat} {sp : DSp} (F : FunC K x st f fd c) (hm : mg x = some (.ref f)) (b : Binds K fd ps []) (S : FnScope N ps (defScope st)) (hl : ∀ ds m Q, sp ds m Q → ds.length = ps.length)
    (hbody : ∀ (A : Around) (outer : List Env) (s : Shared) (H : Hp) (E : XK), Room k (A.deeper (envOfC x (defScope st) s.heap.objs.size f (.ref c))) →
      ∃ t, DSs (cxOf CX0 P w K mg base N x (defScope st) f (.ref c) A outer s H E).nox (defBody st) t ∧ ∀ ds m Q, sp ds m Q → t { nx := fun _ m' => Q .non m', rt := Q } (startD N ds) m) : DCal P w K mg base (k + 1) x sp := by
  have F' := F.fun
  obtain ⟨oc, od, kV, doc, pm, an, ct, osl, rfl, lk, hcd⟩ := F.ex
  refine ⟨f, _, ps, fn_of lk hcd S (fun vs H Q E ⟨ds, m, Q', r, rh, q, f⟩ => by rw [← r.length]; exact hl ds m Q' q) fun A outer s H vs Q E hr hsp => ?_, hm, F.kp, b⟩
  obtain ⟨ds, m, Q', r, rh, q, f⟩ := hsp
  obtain ⟨t, ht, h⟩ := hbody A outer s H E hr
  refine ⟨_, ht.nox, startD N ds, m, _, start_rel r, rh, h ds m Q' q, ⟨fun δ' m' q' σ' H' t' rs' rh' => f .non m' q' .non H' t' .non rh', f, fun _ _ z => z.elim, fun _ _ z => z.elim⟩⟩
end
end DL

namespace DL
open PySem PySem.Spec PyProof.Rows L2 GA GxR
section
variable {X : Cx} {e : Expr} {te : DTr} {es : List Expr} {t : DTA} {pos : Pos}
/-- a text, sign by sign -/
def iS (te : DTr) : DTI := fun δ m R => te δ m fun x m1 => ∃ z : Str, x = .str z ∧ R (z.cps.toList.map fun c => D.str ⟨#[c]⟩) (fun _ => True) m1
theorem dpi_str {tg : Expr} (he : DE X e te) : DPI X tg e (iS te) := (pi_str he).imp fun σ H R ⟨δ, m, Q', rs, rh, q, f⟩ =>
  ⟨δ, m, _, rs, rh, q, fun x m1 ⟨z, ex, q1⟩ v H1 t1 r1 rh1 => by
    subst ex; cases r1
    have hl : (z.cps.toList.map fun c => D.str ⟨#[c]⟩).length = z.cps.size := by simp
    refine ⟨z, rfl, f _ _ m1 q1 _ H1 t1 rh1 ⟨fun i H m t r o hi => ?_, fun i H m v H' t r o hi y => ?_, fun i H m t r o hi => ?_⟩⟩
    · show i < z.cps.size
      rw [← hl]; exact hi
    · obtain ⟨rfl, c, hc, rfl⟩ := y
      refine ⟨Ts.refl _ _, r, .str ⟨#[c]⟩, ?_, .str _⟩
      rw [List.getElem?_map, Array.getElem?_toList, hc]; rfl
    · show z.cps.size ≤ i
      rw [← hl]; exact hi⟩
/-- a local name that holds a def -/
structure DCalAt (P : Program) (w : World) (K : PySem.W.Frag) (mg : Str → Option Value) (base : Heap) (k : Nat) (f : Addr) (sp : DSp) : Prop where
  ex : ∃ (fd : FuncData) (ps : List Str), FnOk P w K mg base CX0 k f fd ps (spUp K sp) ∧ PySem.W.keepIn K (.ref f) = true ∧ Binds K fd ps []
def dCallL (i : Nat) (f : Addr) (sp : DSp) (t : DTA) : DTr := fun δ m Q => δ[i]? = some (some (.ref f)) ∧ t δ m fun ds m1 => sp ds m1 Q
theorem de_callL {k j i : Nat} {f : Addr} {x : Str} {p : Pos} {sp : DSp} (c : DCalAt X.prog X.w X.K X.mg X.base k f sp) (hr : Room j X.A) (hk : k ≤ j) (hN : X.N[i]? = some x := by rfl)
    (hv : Vis X.env.scope x := by first | exact Or.inl rfl | exact Or.inr (Or.inl rfl) | exact Or.inr (Or.inr rfl)) (ha : DA X (e :: es) t)
    (hdb : (x == ("__debug__" : Str)) = false := by decide) (hcd : (x == ("__classdict__" : Str)) = false := by decide)
    (he : starEach (e :: es) X.env = (false, eval e X.env) :: starEach es X.env := by rfl) (hpl : (backTo pos (starEach es X.env)).any (·.1) = false := by rfl) : DE X (.Call (.Name x p) (e :: es) [] pos) (dCallL i f sp t) := by
  obtain ⟨fd, ps, F, kp, b⟩ := c.ex
  refine (pe_callL F (hr.mono hk) hN hv kp b .nil pass0 ha hdb hcd he hpl).imp fun σ H Q ⟨δ, m, Q', rs, rh, ⟨h1, q⟩, f⟩ => ?_
  obtain ⟨v, e1, r1⟩ := rs.get h1
  cases r1
  exact ⟨e1, δ, m, _, rs, rh, q, fun ds m1 q1 vs H1 t1 r1 rh1 => by
    show spUp X.K sp (vs ++ []) H1 Q _
    rw [List.append_nil]
    exact ⟨ds, m1, Q', r1, rh1, q1, f.mono t1⟩⟩
theorem DCal.at {P : Program} {w : World} {K : PySem.W.Frag} {mg : Str → Option Value} {base : Heap} {k : Nat} {x : Str} {sp : DSp} {f : Addr} (c : DCal P w K mg base k x sp) (hm : mg x = some (.ref f)) : DCalAt P w K mg base k f sp := by
  obtain ⟨f', fd, ps, F, hm', kp, b⟩ := c.ex
  rw [hm] at hm'; cases hm'
  exact ⟨fd, ps, F, kp, b⟩
theorem DCal.imp {P : Program} {w : World} {K : PySem.W.Frag} {mg : Str → Option Value} {base : Heap} {k : Nat} {x : Str} {sp sp' : DSp} (c : DCal P w K mg base k x sp) (h : ∀ ds m Q, sp' ds m Q → sp ds m Q) : DCal P w K mg base k x sp' := by
  obtain ⟨f', fd, ps, F, hm', kp, b⟩ := c.ex
  exact ⟨f', fd, ps, F.imp fun vs H Q E ⟨ds, m, Q', r, rh, q, f⟩ => ⟨ds, m, Q', r, rh, h ds m Q' q, f⟩, hm', kp, b⟩
theorem genOk {N : List Str} {scX scope : Scope} {ow : List (Str × Nat)} (h1 : scope.kind = .function) (h2 : scope.isCoroutine = false) (h3 : scope.names.lookup (".0" : Str) = some NameKind.local)
    (h4 : (scope.names.all fun y => !decide (y.2 = .cell) && (!decide (y.2 = .free) || ((decide (scX.names.lookup y.1 = some .cell) || decide (scX.names.lookup y.1 = some .free)) && decide (scope.names.lookup y.1 = some .free))) && (!decide (y.2 = .local) || decide (y.1 ∈ ow.map (·.1)) || !decide (y.1 ∈ N))) = true)
    (h5 : (ow.all fun p => decide (N[p.2]? = some p.1)) = true) : GenOk N scX scope ow := by
  have q : ∀ y ∈ scope.names, _ := List.all_eq_true.mp h4
  simp only [Bool.and_eq_true, Bool.or_eq_true, Bool.not_eq_true', decide_eq_true_eq, decide_eq_false_iff_not] at q
  refine ⟨h1, h2, fun y hy => (q y hy).1.1, h3, fun y hy e => ?_, fun y hy => ?_, fun y hy e => ?_, fun p hp => ?_⟩
  · rcases (q y hy).1.2 with z | z
    · exact (z e).elim
    · exact z.1
  · rcases (q _ hy).1.2 with z | z
    · exact (z rfl).elim
    · exact z.2
  · rcases (q y hy).2 with (z | z) | z
    · exact (z e).elim
    · exact .inl z
    · exact .inr z
  · simpa using List.all_eq_true.mp h5 p hp
end
theorem de_globS {X : Cx} {x : Str} {s : Str} {t : Tok} {pos : Pos} (hg : Gl X x) (hm : X.mg x = some (.str s t)) (hd : (x == ("__debug__" : Str)) = false := by decide) : DE X (.Name x pos) (dC (.str s)) := de_glob hg hm (v := .str s) ⟨_, rfl⟩ (fun _ => .str s) hd
theorem de_globI {X : Cx} {x : Str} {i : Int} {t : Tok} {pos : Pos} (hg : Gl X x) (hm : X.mg x = some (.int i t)) (hd : (x == ("__debug__" : Str)) = false := by decide) : DE X (.Name x pos) (dC (.int i)) := de_glob hg hm (v := .int i) ⟨_, rfl⟩ (fun _ => .int i) hd
theorem de_globR {X : Cx} {x : Str} {a : Addr} {d : D} {pos : Pos} (hg : Gl X x) (hm : X.mg x = some (.ref a)) (r : ∀ H, Rep X.K H d (.ref a)) (hd : (x == ("__debug__" : Str)) = false := by decide) : DE X (.Name x pos) (dC d) := de_glob hg hm (v := .ref a) rfl r hd
/-- the table at P stands beside the store -/
structure Tab (m : M) (P : Addr) : Prop where
  own : m.gh.own P
  is : ∀ H, m.gh.inv H → TabG H P
  grow : ∀ H H2, m.gh.inv H → Tabbed P H H2 → m.gh.inv H2
theorem Tab.set {m : M} {P a : Addr} {o : DO} (h : Tab m P) : Tab (m.set a o) P := ⟨h.own, h.is, h.grow⟩
/-- facts of a walk that leaves the store as it is: each turn's test of the item -/
theorem dAll_pure {P : Addr} {ow : List Nat} {ws : DTI} {i : Nat} {te : DTr} {δ : Sl} {m : M} {Q : DK} {xs : List D} {p : D → Bool} (hT : Tab m P) (hw : ∀ R : List D → (M → Prop) → M → Prop, R xs (fun _ => True) m → ws δ m R)
    (he : ∀ d ∈ xs, ∀ R : DK, R (.bl (p d)) m → te ((wipeD δ ow).set i (some d)) m R) (hq : Q (.bl (xs.all p)) m) : dAll P ow ws (.name i) te δ m Q := by
  refine hw _ ⟨hT.own, hT.is, hT.grow, fun j m' => m' = m ∧ (∀ d ∈ xs.take j, p d = true), ⟨rfl, by simp⟩, fun _ _ _ => trivial, ?_, ?_⟩
  · rintro j d m' hd ⟨rfl, ht⟩
    have hmem : d ∈ xs := List.mem_of_getElem? hd
    refine he d hmem _ ⟨p d, rfl, ?_⟩
    cases e : p d with
    | true =>
      rw [if_pos rfl]
      refine ⟨rfl, fun x hx => ?_⟩
      have : xs.take (j + 1) = xs.take j ++ [d] := by
        rw [List.take_succ, hd]; rfl
      rw [this] at hx
      rcases List.mem_append.mp hx with z | z
      · exact ht x z
      · rw [List.mem_singleton.mp z]; exact e
    | false =>
      rw [if_neg Bool.false_ne_true]
      have : xs.all p = false := by
        rw [Bool.eq_false_iff]; intro z
        rw [List.all_eq_true.mp z d hmem] at e; cases e
      rw [this] at hq; exact hq
  · rintro m' ⟨rfl, ht⟩
    have : xs.all p = true := List.all_eq_true.mpr fun d hd => ht d (by rw [List.take_length]; exact hd)
    rw [this] at hq; exact hq
end DL

namespace DL
open PySem PySem.Spec PyProof.Rows L2 GA GxR
section
variable {X : Cx} {a b e o : Expr} {ta tb te to : DTr} {es : List Expr} {t : DTA} {pos apos : Pos}
theorem de_fdiv (ha : DE X a ta) (hb : DE X b tb) : DE X (.BinOp a .FloorDiv b pos) (dOp (rdI CDiv (· / ·)) ta tb) := (pe_op op_fdiv ha hb).imp (up_op opl_I)
def rdMax : DRA := fun xs m Q => ∃ i j : Int, xs = [.int i, .int j] ∧ Q (.int (if j > i then j else i)) m
theorem argl_max {K : PySem.W.Frag} : ArgL K (fun xs H Q => ∃ i j, xs = [.int i, .int j] ∧ Q (.int (if j > i then j else i)) H) rdMax := fun xs vs H m Q' Q r rh ⟨i, j, e, q⟩ f => by
  subst e
  obtain ⟨v, u, rfl, rv, ru⟩ := r.two
  cases rv; cases ru
  exact ⟨i, j, rfl, f _ m q _ H (Ts.refl _ _) (.int _) rh⟩
def rdInt : DRA := fun xs m Q => ∃ i : Int, xs = [.int i] ∧ Q (.int i) m
theorem argl_int {K : PySem.W.Frag} : ArgL K (fun xs H Q => (∃ i, xs = [.int i] ∧ Q (.int i) H) ∨ ∃ k, xs = [.bl k] ∧ Q (.int (if k then 1 else 0)) H) rdInt := fun xs vs H m Q' Q r rh ⟨i, e, q⟩ f => by
  subst e
  obtain ⟨v, rfl, rv⟩ := r.one
  cases rv
  exact .inl ⟨i, rfl, f _ m q _ H (Ts.refl _ _) (.int _) rh⟩
def rdPop : DRM := fun x ys m Q => ∃ a ds y, x = .ref a ∧ ys = [] ∧ m.mu a = some (.lst ds) ∧ ds[ds.length - 1]? = some y ∧ Q y (m.set a (.lst ds.dropLast))
theorem Reps.dropLast {K : PySem.W.Frag} {H : Hp} {ds : List D} {vs : List V} (r : Reps K H ds vs) : Reps K H ds.dropLast vs.dropLast := by
  rw [List.dropLast_eq_take, List.dropLast_eq_take, ← r.length]; exact r.take _
theorem mtl_pop {K : PySem.W.Frag} : MtL K rPop rdPop := fun x ys vx vs H m Q' Q rx rs rh ⟨a, ds, y, ex, ey, h, hy, q⟩ f => by
  subst ex ey
  cases rx; cases rs
  obtain ⟨xs, e, rr⟩ := rh.obj _ _ h
  obtain ⟨u, hu, ru⟩ := rr.get hy
  have t := rh.putTS (o := .lst xs.dropLast) h
  exact ⟨a, xs, u, rfl, rfl, e, by rw [← rr.length]; exact hu, f _ _ q _ _ t (Rep.mono t _ _ ru) (rh.put (x := .lst ds.dropLast) h ⟨_, upd_same, Reps.mono t _ _ rr.dropLast⟩)⟩
theorem de_pop (ho : DE X o to) (hbase : attributeBase o "pop" X.env (eval o X.env) = eval o X.env := by rfl) (hline : (apos.endLine == pos.line) = true := by rfl) :
    DE X (.Call (.Attribute o "pop" apos) [] [] pos) (dMeth0 rdPop to) := (pe_bm0 PySem.F.plainAttrs_list PySem.F.slot_list_pop PySem.F.type_list_pop mt_pop ho hbase hline).imp (up_bm0 mtl_pop)
def dRevL (te : DTr) : DTr := fun δ m Q => te δ m fun x m1 => ∃ a ds, x = .ref a ∧ m1.mu a = some (.lst ds) ∧ ∀ p, m1.mu p = none → Q (.ref p) (m1.set p (.lst ds.reverse))
theorem Reps.reverse {K : PySem.W.Frag} {H : Hp} : ∀ {ds : List D} {vs : List V}, Reps K H ds vs → Reps K H ds.reverse vs.reverse
  | [], _, r => by cases r; exact .nil
  | d :: ds, _, r => by
    cases r with
    | cons r1 r2 => rw [List.reverse_cons, List.reverse_cons]; exact (Reps.reverse r2).append (.cons r1 .nil)
theorem de_revL {k : Nat} {p1 p2 p3 : Pos} (he : DE X e te) : DE X (.Subscript e (.Slice none none (some (.UnaryOp .USub (.Constant (.int 1) k p1) p2)) p3) pos) (dRevL te) := (pe_revL he).imp fun σ H Q ⟨δ, m, Q', rs, rh, q, f⟩ =>
  ⟨δ, m, _, rs, rh, q, fun x m1 ⟨a, ds, ex, h, q1⟩ v H1 t1 r1 rh1 => by
    subst ex; cases r1
    obtain ⟨xs, e1, rr⟩ := rh1.obj _ _ h
    exact ⟨a, xs, rfl, SqL.of e1, fun p hp => f _ _ (q1 p (rh1.fresh hp)) _ _ (t1.trans (Ts.new hp)) (.ref p) (rh1.newO hp ⟨_, upd_same, Reps.mono (Ts.new hp) _ _ rr.reverse⟩)⟩⟩
/-- a, b, c = x, y, z -/
def dPar3 (i j l : Nat) (ta : DTA) : DTS := fun E δ m => ta δ m fun ds m1 => ∃ x y z, ds = [x, y, z] ∧ E.nx (((δ.set i (some x)).set j (some y)).set l (some z)) m1
theorem Reps.three {K : PySem.W.Frag} {H : Hp} {d e g : D} {vs : List V} (r : Reps K H [d, e, g] vs) : ∃ v u w, vs = [v, u, w] ∧ Rep K H d v ∧ Rep K H e u ∧ Rep K H g w := by
  cases r with
  | cons r1 r2 => obtain ⟨u, w, rfl, r3, r4⟩ := r2.two; exact ⟨_, _, _, rfl, r1, r3, r4⟩
theorem ds_par3 {i j l : Nat} {x y z : Str} {a b c : Expr} {ta : DTA} {px py pz pt : Pos} {kt k2 pt2} (hc : X.calm = true) (hN : X.N.Nodup) (hi : X.N[i]? = some x) (hj : X.N[j]? = some y) (hl : X.N[l]? = some z) (hij : i ≠ j) (hil : i ≠ l) (hjl : j ≠ l)
    (hx : X.env.scope.names.lookup x = some .local) (hy : X.env.scope.names.lookup y = some .local) (hz : X.env.scope.names.lookup z = some .local) (ha : DA X [a, b, c] ta)
    (hw : swappedStores [.Tuple [.Name x px, .Name y py, .Name z pz] kt pt] (.Tuple [a, b, c] k2 pt2) X.env = pure (some [x, y, z]))
    (hs : swapsWithSole [.Tuple [.Name x px, .Name y py, .Name z pz] kt pt] (.Tuple [a, b, c] k2 pt2) pos.line X.env = pure false := by rfl) :
    DS X (.Assign [.Tuple [.Name x px, .Name y py, .Name z pz] kt pt] (.Tuple [a, b, c] k2 pt2) pos) (dPar3 i j l ta) := (ps_par3 hc hN hi hj hl hij hil hjl hx hy hz ha hw hs).imp fun E σ H ⟨δ, m, E', rs, rh, q, f⟩ =>
  ⟨δ, m, _, rs, rh, q, fun ds m1 ⟨x, y, z, e, q1⟩ vs H1 t1 r1 rh1 => by
    subst e
    obtain ⟨v, u, w, rfl, r2, r3, r4⟩ := r1.three
    exact ⟨v, u, w, rfl, f.nx _ m1 q1 _ H1 t1 (RelS.set r4 l (RelS.set r3 j (RelS.set r2 i (rs.mono t1)))) rh1⟩⟩
/-! ### shapes of data -/
theorem lay_pys : ∀ {ds : List D}, (∀ d ∈ ds, d.py.canLay0 = true) → PyData.canLayAll0 (D.pys ds) = true
  | [], _ => rfl
  | d :: ds, h => by
    show (d.py.canLay0 && PyData.canLayAll0 (D.pys ds)) = true
    rw [h d List.mem_cons_self, lay_pys fun x hx => h x (List.mem_cons_of_mem _ hx)]; rfl
mutual
def D.dep : D → Nat
  | .tup ds => D.deps ds + 1
  | .ktup ds => D.deps ds + 1
  | _ => 0
def D.deps : List D → Nat
  | [] => 0
  | d :: ds => max d.dep (D.deps ds)
end
mutual
theorem dep_py : ∀ d : D, d.py.depth = d.dep
  | .non | .bl _ | .int _ | .str _ | .ref _ => rfl
  | .tup ds => by show PyData.depthAll (D.pys ds) + 1 = D.deps ds + 1; rw [dep_pys ds]
  | .ktup ds => by show PyData.depthAll (D.pys ds) + 1 = D.deps ds + 1; rw [dep_pys ds]
theorem dep_pys : ∀ ds : List D, PyData.depthAll (D.pys ds) = D.deps ds
  | [] => rfl
  | d :: ds => by show max d.py.depth (PyData.depthAll (D.pys ds)) = max d.dep (D.deps ds); rw [dep_py d, dep_pys ds]
end
theorem deps_le {n : Nat} : ∀ {ds : List D}, (∀ d ∈ ds, d.dep ≤ n) → D.deps ds ≤ n
  | [], _ => Nat.zero_le _
  | d :: ds, h => by
    show max d.dep (D.deps ds) ≤ n
    have h1 := h d List.mem_cons_self
    have h2 := deps_le fun x hx => h x (List.mem_cons_of_mem _ hx)
    omega
theorem pures_of : ∀ {ds : List D}, (∀ d ∈ ds, d.pure = true) → D.pures ds = true
  | [], _ => rfl
  | d :: ds, h => by
    show (d.pure && D.pures ds) = true
    rw [h d List.mem_cons_self, pures_of fun x hx => h x (List.mem_cons_of_mem _ hx)]; rfl
/-- data that can be compared -/
structure Fine (d : D) : Prop where
  pure : d.pure = true
  dep : d.dep ≤ 60
  lay : d.py.canLay0 = true
theorem Fine.int (i : Int) : Fine (.int i) := ⟨rfl, Nat.zero_le _, rfl⟩
theorem Fine.str {s : Str} (h : PyData.strOk s = true) : Fine (.str s) := ⟨rfl, Nat.zero_le _, h⟩
theorem shaped_d {d : D} (h : Fine d) : SeqAt.shaped d.py = true := by
  unfold SeqAt.shaped
  have := h.dep
  rw [h.lay, dep_py d, decide_eq_true (by omega)]; rfl
theorem shaped_l {ds : List D} (h : ∀ d ∈ ds, Fine d) : SeqAt.shaped (.list (D.pys ds)) = true := by
  unfold SeqAt.shaped
  have h1 : (PyData.list (D.pys ds)).canLay0 = true := lay_pys fun d hd => (h d hd).lay
  have h2 : (PyData.list (D.pys ds)).depth = D.deps ds + 1 := by show PyData.depthAll (D.pys ds) + 1 = _; rw [dep_pys]
  have h3 := deps_le fun d hd => (h d hd).dep
  rw [h1, h2, decide_eq_true (by omega)]; rfl
theorem eqv_nil (ds : List D) : PyData.eqv (.list (D.pys ds)) (.list []) = ds.isEmpty := by
  cases ds <;> rfl
/-- xs != [], with a new empty list -/
theorem ne_nil {m : M} {Q : DK} {a p : Addr} {ds : List D} (ha : m.mu a = some (.lst ds)) (hp : m.mu p = some (.lst [])) (h1 : ∀ d ∈ ds, Fine d) (q : Q (.bl (!ds.isEmpty)) m) : rdEq true (.ref a) (.ref p) m Q := by
  refine ⟨_, _, .l ha (pures_of fun d hd => (h1 d hd).pure), .l hp (pures_of fun d h => (by cases h)), shaped_l h1, shaped_l (ds := []) (fun d h => (by cases h)), ?_⟩
  show Q (.bl (if true = true then !PyData.eqv (.list (D.pys ds)) (.list []) else _)) m
  rw [if_pos rfl, eqv_nil]; exact q
/-! ### displays of dicts, with keys that are written texts -/
inductive DD (X : Cx) (pos : Pos) : List (Option Expr) → List Expr → List (Str × DTr) → Prop where
  | nil : DD X pos [] [] []
  | cons {s : Str} {j : Nat} {p : Pos} {v : Expr} {tv : DTr} {ks : List (Option Expr)} {vs : List Expr} {ts : List (Str × DTr)} (h : DE X v tv) (r : DD X pos ks vs ts) : DD X pos (some (.Constant (.str s) j p) :: ks) (v :: vs) ((s, tv) :: ts)
theorem DD.len {ks : List (Option Expr)} {vs : List Expr} {ts : List (Str × DTr)} (h : DD X pos ks vs ts) : ts.length = ks.length := by
  induction h with
  | nil => rfl
  | cons h _ ih => simp [ih]
theorem DD.pps {ks : List (Option Expr)} {vs : List Expr} {ts : List (Str × DTr)} (h : DD X pos ks vs ts) : PPs X pos ks vs (ts.map fun p => (tC (.str p.1), up X.K p.2)) := by
  induction h with
  | nil => exact pps_nil
  | cons h _ ih => exact pps_cons pe_str h ih
def dPairs : List (Str × DTr) → Sl → M → (List D → M → Prop) → Prop
  | [], _, m, Q => Q [] m
  | (_, t) :: r, δ, m, Q => t δ m fun y m1 => dPairs r δ m1 fun ps m2 => Q (y :: ps) m2
def dDisp (ts : List (Str × DTr)) : DTr := fun δ m Q => ∀ p, m.mu p = none → dPairs ts δ (m.set p (.dic [])) fun ys m2 => m2.mu p = some (.dic []) ∧ Q (.ref p) (m2.set p (.dic (((ts.map fun x => (Sum.inr x.1 : Key)).zip ys).foldl (fun acc kv => putD acc kv.1 kv.2) [])))
theorem up_pairs {K : PySem.W.Frag} : ∀ (ts : List (Str × DTr)) (δ : Sl) (σ : L2.St) (H : Hp) (m : M) (Q' : List D → M → Prop) (Q : List (V × V) → Hp → Prop), RelS K H δ σ → RelH K H m → dPairs ts δ m Q' →
    (∀ ys m', ys.length = ts.length → Q' ys m' → ∀ us H', Ts K H H' → Reps K H' ys us → RelH K H' m' → Q ((ts.map fun p => V.str p.1).zip us) H') → tPairs (ts.map fun p => (tC (.str p.1), up K p.2)) σ H Q
  | [], δ, σ, H, m, Q', Q, rs, rh, q, f => f [] m rfl q [] H (Ts.refl _ _) .nil rh
  | (s, t) :: ts, δ, σ, H, m, Q', Q, rs, rh, q, f => by
    refine ⟨δ, m, _, rs, rh, q, fun y m1 q1 v H1 t1 r1 rh1 => ?_⟩
    refine up_pairs ts δ σ H1 m1 _ _ (rs.mono t1) rh1 q1 fun ys m' hl q2 us H' t2 r2 rh2 => ?_
    exact f (y :: ys) m' (by rw [List.length_cons, hl]; rfl) q2 (v :: us) H' (t1.trans t2) (.cons (Rep.mono t2 _ _ r1) r2) rh2
theorem KVd.fold {K : PySem.W.Frag} {H : Hp} : ∀ {ks : List Str} {ys : List D} {us : List V} {acc : List (Key × D)} {acv : List (Key × V)}, Reps K H ys us → KVd K H acc acv →
    KVd K H (((ks.map fun x => (Sum.inr x : Key)).zip ys).foldl (fun acc kv => putD acc kv.1 kv.2) acc) (((ks.map fun x => (Sum.inr x : Key)).zip us).foldl (fun acc kv => putK acc kv.1 kv.2) acv)
  | [], _, _, _, _, _, h => h
  | _ :: _, [], _, _, _, r, h => by cases r; exact h
  | k :: ks, y :: ys, _, _, _, r, h => by
    cases r with
    | cons r1 r2 => exact KVd.fold (ks := ks) r2 (h.put r1)
theorem de_disp {ks : List (Option Expr)} {vs : List Expr} {ts : List (Str × DTr)} (h : DD X pos ks vs ts) (hall : ks.all (·.isSome) = true := by rfl) (hl : ks.length = vs.length := by rfl) (h0 : ks ≠ [] := by exact fun z => nomatch z) (h15 : ks.length ≤ 15 := by decide) :
    DE X (.Dict ks vs pos) (dDisp ts) := (pe_disp h.pps hall hl h0 h15).imp fun σ H Q ⟨δ, m, Q', rs, rh, q, f⟩ => fun p hp => by
  have ht : ts.length ≤ 15 := by rw [h.len]; exact h15
  have t0 := Ts.new (K := X.K) (o := .dK []) hp
  refine up_pairs ts δ σ _ _ _ _ (rs.mono t0) (rh.newO (x := .dic []) hp ⟨[], upd_same, .nil⟩) (q p (rh.fresh hp)) fun ys m' hy ⟨e, q1⟩ us H' t1 r1 rh1 => ?_
  obtain ⟨zs, e1, kv0⟩ := rh1.obj _ _ e
  cases kv0
  have t2 := rh1.putTS (o := .dK (mergeK [] ((ts.map fun x => (Sum.inr x.1 : Key)).zip us))) e
  refine ⟨e1, (ts.map fun x => (Sum.inr x.1 : Key)).zip us, ?_, ?_, f _ _ q1 _ _ ((t0.trans t1).trans t2) (.ref p) (rh1.put e ⟨_, upd_same, ?_⟩)⟩
  · exact zipEq ts us
  · rw [List.length_zip, List.length_map]; omega
  · have := KVd.fold (ks := ts.map (·.1)) r1 (KVd_nil (K := X.K) (H := H'))
    rw [List.map_map] at this
    exact this.mono t2
where
  KVd_nil {K : PySem.W.Frag} {H : Hp} : KVd K H ([] : List (Key × D)) ([] : List (Key × V)) := .nil
  zipEq : ∀ (ts : List (Str × DTr)) (us : List V), (ts.map fun p => V.str p.1).zip us = ((ts.map fun x => (Sum.inr x.1 : Key)).zip us).map fun kv => (kV kv.1, kv.2)
    | [], _ => rfl
    | _ :: _, [] => rfl
    | t :: ts, u :: us => by
      rw [List.map_cons, List.map_cons, List.zip_cons_cons, List.zip_cons_cons, List.map_cons, zipEq ts us]; rfl
end
end DL

namespace PySem
open Sem (wp)
open AutoSeq1 (wpAny_loadPart')
/-! ### enumerate of a tuple -/
theorem DrawsTuple {prog : Program} {w : World} {A : Around} (hh : A.handled = none) (it t : Addr) (hne : t ≠ it) (items : Array Value) :
    Draws prog w A it [it, t] items.size (fun i v => items[i]? = some v) (fun i h => h.IsTupleIter it t i ∧ h.IsTuple t items) where
  live := fun _ _ st => let ⟨o, ho, _⟩ := st.1; ⟨o, ho⟩
  frame := fun _ _ _ st hk => ⟨st.1.at fun o e => hk it (by simp) o e, by
    obtain ⟨o, ho, r⟩ := st.2; exact ⟨o, hk t (by simp) o ho, r⟩⟩
  item := fun i s Q E hi st hQ => by
    refine wpAny_nextOf_tuple_item st.1 st.2 (x := items[i]) (by simp [hi]) fun h' hit' hs' => ?_
    refine hQ _ h' s.toks (by simp [hi]) ⟨hit', ?_⟩ hs'
    obtain ⟨o, ho, r⟩ := st.2; exact ⟨o, hs'.extBut t o hne ho, r⟩
  done := fun s Q E st hE => wpAny_nextOf_tuple_end hh st.1 st.2 (by simp) hE
theorem meets_enumerate_newT (l : Addr) (items : Array Value) (n : Nat) (dct : Option Addr) (sl : Array (Option Value)) :
    Meets (Builtin.«enumerate.__new__» ⟨[.type "enumerate", .ref l], []⟩) (fun _ R s => s.heap.get? l = some { cls := .type "tuple", dict := dct, data := .seq items n, slots := sl } ∧
      R (.ok (.ret (.ref (s.heap.push { cls := .type "tuple_iterator", data := .fields #[.ref l, .int 0 0] }).objs.size)))
        { s with heap := (s.heap.push { cls := .type "tuple_iterator", data := .fields #[.ref l, .int 0 0] }).push { cls := .type "enumerate", data := .fields #[.none, .bool false, .ref s.heap.objs.size, rawInt 0, .none, .none] } }) :=
  .of_wp fun prog w A R s h => by
    obtain ⟨hp, g, d, tk, os⟩ := s; obtain ⟨hl, h⟩ := h
    have hsub := sub_enumerate
    have hL : Heap.IsTuple (Shared.heap ⟨hp, g, d, tk, os⟩) l items := ⟨_, hl, rfl, n, rfl⟩
    wp_walk using wpAny_loadPart' hl
    refine wpAny_stack_any fun st => wpAny_pure ?_
    split
    · rename_i c _ _ _ _ _
      cases (c == Value.type "enumerate")
      · wp_walk using wpAny_loadPart' hl, wpAny_pyIter_tuple hL
        exact ⟨_, rfl, h⟩
      · wp_walk using wpAny_loadPart' hl, wpAny_pyIter_tuple hL
        exact ⟨_, rfl, h⟩
    · wp_walk using wpAny_loadPart' hl, wpAny_pyIter_tuple hL
      exact ⟨_, rfl, h⟩
theorem call_enumerate_tuple {prog : Program} {w : World} {A : Around} {E : Value → Shared → Prop} {s : Shared} {l : Addr} {items : Array Value} {Q : Value → Shared → Prop} (hL : s.heap.IsTuple l items)
    (h : ∀ h', IsEnum h' (s.heap.objs.size + 1) s.heap.objs.size 0 .none → h'.IsTupleIter s.heap.objs.size l 0 → h'.objs.size = s.heap.objs.size + 2 →
      (∀ b o, s.heap.get? b = some o → h'.get? b = some o) → Q (.ref (s.heap.objs.size + 1)) { s with heap := h' }) :
    wpAny (model prog w) A (call (.type "enumerate") [.ref l]) Q E s := by
  obtain ⟨⟨c, dct, dt, sl⟩, hl, hc, n, hd⟩ := hL
  replace hc : c = .type "tuple" := hc
  replace hd : dt = .seq items n := hd
  subst hc hd
  refine callType_new F.called_enumerate (by decide) (F.typeCall_enumerate_1 _) (F.newCall_enumerate_1 _) (fun obj => F.args_object_init_2 obj _) F.entry_enumerate_new
    (meets_enumerate_newT l items n dct sl) ⟨hl, ?_⟩
  have hz : (s.heap.push { cls := .type "tuple_iterator", data := .fields #[.ref l, .int 0 0] }).objs.size = s.heap.objs.size + 1 := Heap.size_push ..
  show _ ∧ _
  rw [hz]
  have he : IsEnum ((s.heap.push { cls := .type "tuple_iterator", data := .fields #[.ref l, .int 0 0] }).push
      { cls := .type "enumerate", data := .fields #[.none, .bool false, .ref s.heap.objs.size, rawInt 0, .none, .none] }) (s.heap.objs.size + 1) s.heap.objs.size 0 .none := by
    have := Heap.get?_push_size (s.heap.push { cls := .type "tuple_iterator", data := .fields #[.ref l, .int 0 0] })
      (o := { cls := .type "enumerate", data := .fields #[.none, .bool false, .ref s.heap.objs.size, rawInt 0, .none, .none] }) rfl
    rw [hz] at this; exact this
  refine ⟨⟨_, he, rfl⟩, h _ he ⟨_, Heap.get?_push_of_some _ (Heap.get?_push_size _ rfl), rfl, rfl⟩ (by rw [Heap.size_push, hz]) fun b o x => Heap.get?_push_of_some _ (Heap.get?_push_of_some _ x)⟩
theorem wpAny_pyNext_enum_endT {prog : Program} {w : World} {A : Around} {E : Value → Shared → Prop} {s : Shared} {e it l : Addr} {i : Nat} {items : Array Value} {old : Value} {Q : Option Value → Shared → Prop} (hh : A.handled = none)
    (he : IsEnum s.heap e it i old) (hit : s.heap.IsTupleIter it l i) (hl : s.heap.IsTuple l items) (hx : items[i]? = none)
    (hQ : ∀ h', Heap.ExtBut it s.heap h' → Q none { s with heap := h' }) : wpAny (model prog w) A (pyNext (.ref e)) Q E s := by
  have hT : s.TypeIs (.ref e) "enumerate" := ⟨_, he, rfl⟩
  unfold pyNext
  refine wpAny_bind (wpAny_attempt (wpAny_callSpecial?_slot (name := Str.ofString "__next__") hT F.slot_enumerate_next
    (wpAny_call_entry F.slot_enumerate_next hT F.entry_enumerate_next ?_ (F.args_enumerate_next_1 _))))
  show wpAny _ _ (field (.ref e) 2 >>= _) _ _ _
  refine wpAny_bind (wpAny_field he rfl (x := .ref it) rfl ?_)
  refine wpAny_bind (wpAny_nextOf_tuple_end hh hit hl hx fun h' x he' hx' => ?_)
  obtain ⟨o, ho, hc⟩ := hx'
  refine wpAny_bind (wpAny_isInstance (T := "StopIteration") (b := true) ⟨o, ho, hc⟩ isSubtype_stop ?_)
  exact wpAny_pure (hQ _ he')
end PySem
namespace DL
open PySem PySem.Spec PyProof.Rows L2 GA GxR
/-- the tuple at a, each item in a new pair -/
def IteT (K : PySem.W.Frag) (a : Addr) : It :=
  ⟨fun i H => ∃ (xs : List V) (x : V), SqT K H a xs ∧ xs[i]? = some x, fun i H v H' => ∃ T x, v = .ref T ∧ H T = none ∧ H' = upd H T (.tup [.int (i : Nat), x]) ∧ ∀ xs, SqT K H a xs → xs[i]? = some x, fun i H => ∃ xs : List V, SqT K H a xs ∧ xs.length ≤ i⟩
theorem turn_enumT {P : Program} {w : World} {K : PySem.W.Frag} {elts : List Expr} {kk : Nat} {tpos : Pos} (a e it : Addr) (hai : a ≠ it) (hae : a ≠ e) :
    Turn P w K (.Tuple elts kk tpos) (IteT K a) [e, it] e (fun i h => (∃ old, IsEnum h e it ((i : Nat) : Int) old) ∧ h.IsTupleIter it a i ∧ e ≠ it) where
  mem := by simp
  obj := fun i h st b hb => by
    obtain ⟨⟨old, he⟩, ⟨o, ho, hc, hd⟩, _⟩ := st
    have e' : b = e ∨ b = it := by simpa using hb
    rcases e' with z | z
    · rw [z]; exact ⟨_, he, fun v q => nomatch q⟩
    · rw [z]; exact ⟨o, ho, fun v q => by rw [hd] at q; cases q⟩
  keep := fun i h h' st k => let ⟨⟨old, he⟩, hi, hne⟩ := st; ⟨⟨old, k e (by simp) _ he⟩, hi.at fun o q => k it (by simp) o q, hne⟩
  item := by
    intro X hP hw hK hc i pins s σ H E I hf st hg
    subst hP hw hK
    obtain ⟨⟨old, he⟩, hit, hne⟩ := st
    obtain ⟨xs, x, hq, hx⟩ := hg
    obtain ⟨its, rv, p, hz⟩ := I.tuple hq
    obtain ⟨u, hu, ru⟩ := rv.get hx
    have hel : e < s.heap.objs.size := Heap.lt_size he
    have hil : it < s.heap.objs.size := by obtain ⟨_, q, _⟩ := hit; exact Heap.lt_size q
    have hlt : i < its.toArray.size := by
      by_cases z : i < its.length
      · simpa using z
      · rw [List.getElem?_eq_none (by omega)] at hu; cases hu
    refine wpAny_pyNext_enum_itemD (DrawsTuple (A := X.A.in1) (show X.A.in1.handled = none from I.ok.hd hc) it a hai its.toArray) he ⟨hit, p⟩ hlt hne (by simp; exact ⟨hne, fun z => hae z.symm⟩) fun x' h' tk hx' ho hst hT hsz hk => ?_
    have ex : x' = u := by
      have : its[i]? = some x' := by simpa using hx'
      rw [hu] at this; cases this; rfl
    subst ex
    refine ⟨_, rfl, wpAny_letOwnedTupleGo_enum (s := { s with heap := h', toks := tk + 1 }) ho fun h'' he' sb => ?_⟩
    have hT2 : h''.get? s.heap.objs.size = some { cls := .type "tuple", data := .seq #[.int i tk, x'] } := (sb.2 _ (Nat.ne_of_gt hel)).trans hT
    have new : ObjOk X.prog X.w (upd H s.heap.objs.size (.tup [.int (i : Nat), x])) h'' s.heap.objs.size (.tup [.int (i : Nat), x]) :=
      ⟨by show 2 ≤ sizeLine; decide, [.int i tk, x'], .cons ⟨_, rfl⟩ (.cons ru .nil), ⟨_, hT2, rfl, _, rfl⟩⟩
    have I1 : Inv X pins σ (upd H s.heap.objs.size (.tup [.int (i : Nat), x])) { s with heap := h'', toks := tk + 1 } :=
      I.turnedNew (ch := [e, it]) (fun b ob hb q => (sb.2 b (fun z => hb (by simp [z]))).trans (hk b ob (fun z => hb (by simp [z])) (fun z => hb (by simp [z])) q)) hf (Nat.le_refl _) new
    refine ⟨.ref s.heap.objs.size, _, I1, rfl, ⟨_, x, rfl, I.hok.fresh (Nat.le_refl _), rfl, fun ys hy => by rw [I.tuple_inj hy hq]; exact hx⟩, ⟨⟨x', ?_⟩, hst.1.at fun o q => (sb.2 it (Ne.symm hne)).trans q, hne⟩, fun b hb => ?_⟩
    · have e1 : ((i + 1 : Nat) : Int) = (i : Int) + 1 := by omega
      rw [e1]; exact he'
    · have hb' : b < s.heap.objs.size := by
        have e' : b = e ∨ b = it := by simpa using hb
        rcases e' with z | z
        · rw [z]; exact hel
        · rw [z]; exact hil
      rw [upd_ne (Nat.ne_of_lt hb')]
      exact (hf b hb).1
  done := by
    intro X hP hw hK hc i pins s σ H E I hf st hg
    subst hP hw hK
    obtain ⟨⟨old, he⟩, hit, hne⟩ := st
    obtain ⟨xs, hq, hx⟩ := hg
    obtain ⟨its, rv, p, hz⟩ := I.tuple hq
    obtain ⟨f0, f1, f2, f3, f4, f5⟩ := hf it (by simp)
    have hl := rv.length
    exact wpAny_pyNext_enum_endT (I.ok.hd hc) he hit p (by simp; omega) fun h' eb => ⟨rfl, I.turned (t' := s.toks) (fun b o hb q => eb b o hb q) f0 f1 f3 f4 f5⟩
  self := fun A i s Q E st h => let ⟨⟨_, he⟩, _⟩ := st; wpAny_pyIter_enum he h
def iEnumT (K : PySem.W.Frag) (ta : TA) : TI := fun σ H R => ta σ H fun vs H1 => ∃ a xs, vs = [.ref a] ∧ SqT K H1 a xs ∧ R (IteT K a) H1
theorem pi_enumT {X : Cx} {e : Expr} {ta : TA} {p pos tpos : Pos} {elts : List Expr} {kk : Nat} (hg : Gl X "enumerate") (hm : X.mg "enumerate" = none) (ha : PA X [e] ta) (hs : starEach [e] X.env = [(false, eval e X.env)] := by rfl) :
    PI X (.Tuple elts kk tpos) (.Call (.Name "enumerate" p) [e] [] pos) (iEnumT X.K ta) := by
  refine ⟨fun pins s σ H R I h => ?_⟩
  refine Call_ (ld_blt I hg hm boot_enumerate (PyProof.Rows.callWith_type1 (thn (ha.run pos pins s σ H _ I h) fun us s1 ⟨vs, H1, I1, r1, q1⟩ => ?_) hs rfl))
  obtain ⟨a, xs, ex, hq, q⟩ := q1
  subst ex
  cases r1 with
  | cons r rr =>
    cases rr
    cases r
    obtain ⟨its, rv, p', hz⟩ := I1.tuple hq
    have hal : a < s1.heap.objs.size := by obtain ⟨o, ho, _⟩ := p'; exact Heap.lt_size ho
    refine call_enumerate_tuple p' fun h' he hit hsz hk => wpAny_pyIter_enum he ?_
    have I2 : Inv X pins σ H1 { s1 with heap := h' } := I1.kept (t' := s1.toks) hk
    refine ⟨s1.heap.objs.size + 1, [s1.heap.objs.size + 1, s1.heap.objs.size], _, _, H1, rfl, I2, turn_enumT a (s1.heap.objs.size + 1) s1.heap.objs.size (Nat.ne_of_lt hal) (Nat.ne_of_lt (Nat.lt_succ_of_lt hal)), ⟨⟨.none, he⟩, hit, Nat.succ_ne_self _⟩, fun b hb => ?_, q⟩
    have e' : b = s1.heap.objs.size + 1 ∨ b = s1.heap.objs.size := by simpa using hb
    have hle : s1.heap.objs.size ≤ b := by
      rcases e' with z | z
      · rw [z]; exact Nat.le_add_right _ _
      · rw [z]; exact Nat.le_refl _
    exact I1.fpOk hle (I1.hok.fresh hle)
/-- enumerate(t), t a tuple: pairs -/
def enumD : Nat → List D → List D
  | _, [] => []
  | n, d :: ds => .tup [.int (n : Int), d] :: enumD (n + 1) ds
theorem enumD_len : ∀ (n : Nat) (ds : List D), (enumD n ds).length = ds.length
  | _, [] => rfl
  | n, d :: ds => by simp [enumD, enumD_len]
theorem enumD_get : ∀ {n i : Nat} {ds : List D} {d : D}, ds[i]? = some d → (enumD n ds)[i]? = some (.tup [.int ((n + i : Nat) : Int), d])
  | _, _, [], _, h => by simp at h
  | n, 0, d :: ds, _, h => by simp at h; subst h; rfl
  | n, i + 1, d :: ds, e, h => by
    have h' : ds[i]? = some e := by simpa using h
    have := enumD_get (n := n + 1) h'
    have e1 : n + 1 + i = n + (i + 1) := by omega
    rw [e1] at this
    simpa [enumD] using this
def iEn (te : DTr) : DTI := fun δ m R => te δ m fun x m1 => ∃ ds, (x = .tup ds ∨ x = .ktup ds) ∧ R (enumD 0 ds) (fun _ => True) m1
theorem dpi_enum {X : Cx} {e : Expr} {te : DTr} {p pos tpos : Pos} {elts : List Expr} {kk : Nat} (hg : Gl X "enumerate") (hm : X.mg "enumerate" = none) (he : DE X e te) (hs : starEach [e] X.env = [(false, eval e X.env)] := by rfl) :
    DPI X (.Tuple elts kk tpos) (.Call (.Name "enumerate" p) [e] [] pos) (iEn te) := (pi_enumT hg hm (pa_cons he pa_nil (by rw [hs]; rfl)) hs).imp fun σ H R ⟨δ, m, Q', rs, rh, q, f⟩ =>
  ⟨δ, m, _, rs, rh, q, fun x m1 ⟨ds, ex, q1⟩ v H1 t1 r1 rh1 => by
    obtain ⟨a, vs, rfl, hsq, rr⟩ := sq_of ex r1
    refine ⟨a, vs, rfl, hsq, f _ _ m1 q1 _ H1 t1 rh1 ⟨fun i H m t r o hi => ?_, fun i H m v H' t r o hi y => ?_, fun i H m t r o hi => ?_⟩⟩
    · rw [enumD_len] at hi
      exact ⟨vs, vs[i]'(by rw [← rr.length]; exact hi), t.1 _ _ hsq, by simp⟩
    · obtain ⟨T, x, rfl, hT, rfl, hy⟩ := y
      have hx := hy vs (t.1 _ _ hsq)
      obtain ⟨d, hd, rd⟩ := (Reps.mono t _ _ rr).getV hx
      refine ⟨Ts.new hT, r.new hT, .tup [.int (i : Int), d], by have := enumD_get (n := 0) hd; rw [Nat.zero_add] at this; exact this, .tup upd_same (.cons (.int _) (.cons (Rep.mono (Ts.new hT) _ _ rd) .nil))⟩
    · rw [enumD_len] at hi
      exact ⟨vs, t.1 _ _ hsq, by rw [← rr.length]; exact hi⟩⟩
end DL

namespace DL
open PySem PySem.Spec PyProof.Rows L2 GA GxR
/-! ### calls by keywords, in the parameters' order -/
structure DCalK (P : Program) (w : World) (K : PySem.W.Frag) (mg : Str → Option Value) (base : Heap) (k : Nat) (x : Str) (ps : List Str) (sp : DSp) : Prop where
  ex : ∃ (f : Addr) (fd : FuncData), FnOk P w K mg base CX0 k f fd ps (spUp K sp) ∧ mg x = some (.ref f) ∧ PySem.W.keepIn K (.ref f) = true ∧ ∀ ws : List Value, ws.length = ps.length → bindArgs fd ⟨[], ps.zip ws⟩ = pure (ps.zip ws)
section
variable {P : Program} {w : World} {K : PySem.W.Frag} {mg : Str → Option Value} {base : Heap}
theorem dcalB {x : Str} {st : Stmt} {f : Addr} {fd : FuncData} {N ps : List Str} {k : Nat} {sp : DSp} (F : Fun K x x st f fd) (hm : mg x = some (.ref f)) (b : Binds K fd ps [])
    (hk : ∀ (kV doc pm : Value) (an : Option Addr) (cdv ct : Value) (ws : List Value), ws.length = ps.length → bindArgs (PySem.W.fnOf x x (defArgs st) (defBody st) (defScope st) .none kV doc pm an cdv ct) ⟨[], ps.zip ws⟩ = pure (ps.zip ws))
    (S : FnScope N ps (defScope st)) (hl : ∀ ds m Q, sp ds m Q → ds.length = ps.length)
    (hbody : ∀ (cdv : Value) (A : Around) (outer : List Env) (s : Shared) (H : Hp) (E : XK), Room k (A.deeper (envOfC x (defScope st) s.heap.objs.size f cdv)) →
      ∃ t, DSs (cxOf CX0 P w K mg base N x (defScope st) f cdv A outer s H E).nox (defBody st) t ∧ ∀ ds m Q, sp ds m Q → t { nx := fun _ m' => Q .non m', rt := Q } (startD N ds) m) : DCal P w K mg base (k + 1) x sp ∧ DCalK P w K mg base (k + 1) x ps sp := by
  have hF : FnOk P w K mg base CX0 (k + 1) f fd ps (spUp K sp) := F.ok S (fun vs H Q E ⟨ds, m, Q', r, rh, q, f⟩ => by rw [← r.length]; exact hl ds m Q' q) fun cdv A outer s H vs Q E hr hsp => by
    obtain ⟨ds, m, Q', r, rh, q, f⟩ := hsp
    obtain ⟨t, ht, h⟩ := hbody cdv A outer s H E hr
    exact ⟨_, ht, startD N ds, m, _, start_rel r, rh, h ds m Q' q, ⟨fun δ' m' q' σ' H' t' rs' rh' => f .non m' q' .non H' t' .non rh', f, fun _ _ z => z.elim, fun _ _ z => z.elim⟩⟩
  refine ⟨⟨f, fd, ps, hF, hm, F.kp, b⟩, f, fd, hF, hm, F.kp, ?_⟩
  obtain ⟨oc, od, kV, doc, pm, an, cdv, ct, osl, e, _⟩ := F.ex
  intro ws hw
  rw [e]
  exact hk kV doc pm an cdv ct ws hw
end
section
variable {X : Cx} {e : Expr} {te : DTr} {t : DTA} {pos kpos : Pos} {nm : Str} {kws : List Keyword}
def DK' (X : Cx) (kws : List Keyword) (t : DTA) : Prop := PK X kws (upA X.K t)
theorem dk_nil : DK' X [] dNil := ⟨fun pos pins s σ H Q I ⟨δ, m, Q', rs, rh, q, f⟩ => pk_nil.run pos pins s σ H Q I (f [] m q [] H (Ts.refl _ _) .nil rh)⟩
theorem dk_cons (he : DE X e te) (hr : DK' X kws t) : DK' X (⟨nm, e, kpos⟩ :: kws) (dCons te t) := ⟨fun pos pins s σ H Q I ⟨δ, m, Q', rs, rh, q, f⟩ => (pk_cons he hr).run pos pins s σ H Q I
    ⟨δ, m, _, rs, rh, q, fun x m1 q1 v H1 t1 r1 rh1 => ⟨δ, m1, _, rs.mono t1, rh1, q1, fun xs m2 q2 vs H2 t2 r2 rh2 =>
      f (x :: xs) m2 q2 (v :: vs) H2 (t1.trans t2) (.cons (Rep.mono t2 _ _ r1) r2) rh2⟩⟩⟩
theorem de_callK {k j : Nat} {x : Str} {p : Pos} {ps : List Str} {sp : DSp} (c : DCalK X.prog X.w X.K X.mg X.base k x ps sp) (hr : Room j X.A) (hk : k ≤ j) (hg : Gl X x) (hkw : DK' X kws t)
    (hall : (backToKw pos (keywordEach kws X.env)).all (·.1.isSome) = true := by rfl) (hks : (backToKw pos (keywordEach kws X.env)).filterMap (·.1) = ps := by rfl) (hdb : (x == ("__debug__" : Str)) = false := by decide)
    (hpl : ((backTo pos (starEach [] X.env)).any (·.1) || (backToKw pos (keywordEach kws X.env)).any (·.1.isNone)) = false := by rfl) : DE X (.Call (.Name x p) [] kws pos) (dCall sp t) := by
  obtain ⟨f, fd, F, hm, kp, b⟩ := c.ex
  refine ⟨fun pins s σ H Q I ⟨δ, m, Q', rs, rh, q, fq⟩ => ?_⟩
  refine wpAny_Call_Name_kw (ld_glob I hg hm ?_ hdb)
  refine PySem.W.callWith_KW0 (h₀ := X.base) I.ok.mod.kin kp hall ?_ hpl
  refine thn (hkw.run pos pins s σ H (fun zs H2 => spUp X.K sp zs H2 Q (fun _ _ _ => False)) I ⟨δ, m, _, rs, rh, q, fun ds m1 q1 vs H1 t1 r1 rh1 => ⟨ds, m1, Q', r1, rh1, q1, fq.mono t1⟩⟩) fun ws s2 ⟨zs, H2, I2, rz, q2⟩ => ⟨I2.kIn, ?_⟩
  rw [hks]
  have hl : ws.length = ps.length := by rw [← rz.length]; exact F.len _ _ _ _ q2
  refine wpAny_call (codeAny_mono (F.run X.A X.stack s2 H2 ⟨[], ps.zip ws⟩ ws zs Q _ (hr.mono hk) I2.env0 (BindsTo.of_eq (b ws hl)) rz q2) fun r s' hq => ?_)
  cases r with
  | error e => exact pass0 pins σ H2 s2 e s' I2 hq
  | ok fl =>
    cases fl with
    | ret u => exact I2.after hq
    | next => exact False.elim hq
    | brk => exact False.elim hq
    | cont => exact False.elim hq
end
end DL

namespace DL
open PySem PySem.Spec PyProof.Rows L2 GA GxR
def dLockS (n : Nat) (t : DTS) : DTS := fun E δ m => ∃ a kvs, δ[n]? = some (some (.ref a)) ∧ m.mu a = some (.dit kvs) ∧ ∀ u, t { E with nx := fun δ' m' => m'.mu a = some (.lck kvs u) ∧ E.nx δ' (m'.set a (.dit kvs)), rt := fun d m' => m'.mu a = some (.lck kvs u) ∧ E.rt d (m'.set a (.dit kvs)), bk := fun _ _ => False, ct := fun _ _ => False } δ (m.set a (.lck kvs u))
theorem ds_lock {X : Cx} {st : Stmt} {n : Nat} {t : DTS} (h : DS X st t) : DS X st (dLockS n t) := (ps_lock h).imp fun E σ H ⟨δ, m, E', rs, rh, ⟨a, kvs, ha, he, q⟩, f⟩ => by
  obtain ⟨ys, e2, kv⟩ := rh.obj _ _ he
  refine ⟨a, _, e2, trivial, fun od => ?_⟩
  have t1 : Ts X.K H (upd H a (.frz od (.dT ys))) := rh.putTS he
  refine ⟨δ, _, _, rs.mono t1, rh.put (x := .lck kvs (.frz od (.dT ys))) he ⟨upd_same, od, ys, rfl, kv.mono t1⟩, q _, ⟨?_, ?_, fun _ _ z => z.elim, fun _ _ z => z.elim⟩⟩
  · rintro δ' m' ⟨hl, q1⟩ σ' H' t2 rs2 rh2
    obtain ⟨e3, od', ys', e4, kv'⟩ := rh2.obj _ _ hl
    cases e4
    have t3 := rh2.putTS (o := .dT ys) hl
    exact ⟨e3, f.nx δ' _ q1 σ' _ ((t1.trans t2).trans t3) (rs2.mono t3) (rh2.put (x := .dit kvs) hl ⟨ys, upd_same, kv'.mono t3⟩)⟩
  · rintro d m' ⟨hl, q1⟩ v H' t2 r2 rh2
    obtain ⟨e3, od', ys', e4, kv'⟩ := rh2.obj _ _ hl
    cases e4
    have t3 := rh2.putTS (o := .dT ys) hl
    exact ⟨e3, f.rt d _ q1 v _ ((t1.trans t2).trans t3) (Rep.mono t3 _ _ r2) (rh2.put (x := .dit kvs) hl ⟨ys, upd_same, kv'.mono t3⟩)⟩
end DL

namespace DL
open PySem PySem.Spec PyProof.Rows L2 GA GxR
section
variable {X : Cx} {o e f : Expr} {td ty tx : DTr} {apos pos : Pos}
/-- d.get(k) -/
def dictD (m : M) (a : Addr) : Prop := (∃ kvs, m.mu a = some (.dic kvs)) ∨ ∃ kvs, m.mu a = some (.dit kvs)
theorem dictD.is {K : PySem.W.Frag} {H : Hp} {m : M} {a : Addr} (h : dictD m a) (r : RelH K H m) : IsD H a := by
  rcases h with ⟨kvs, h⟩ | ⟨kvs, h⟩
  · obtain ⟨ys, e, _⟩ := r.obj _ _ h
    exact .inl ⟨_, .inl e⟩
  · obtain ⟨ys, e, _⟩ := r.obj _ _ h
    exact .inr ⟨_, .inl e⟩
def dGet1 (td ty : DTr) : DTr := fun δ m Q => td δ m fun x m1 => ∃ a, x = .ref a ∧ dictD m1 a ∧ ty δ m1 fun y m2 => ∃ r, GetD m2 a y r ∧ Q (r.getD .non) m2
theorem de_get1 {k : Nat} (hr : Room k X.A) (ho : DE X o td) (he : DE X e ty) (hm : M1 X o "get" apos e pos := by exact ⟨rfl, rfl, rfl, rfl⟩) : DE X (.Call (.Attribute o "get" apos) [e] [] pos) (dGet1 td ty) := by
  refine (pe_dget1 (hu_of hr) ho he hm).imp fun σ H Q ⟨δ, m, Q', rs, rh, q, f⟩ => ?_
  refine ⟨δ, m, _, rs, rh, q, fun x m1 ⟨a, ex, hd, q1⟩ v H1 t1 r1 rh1 => ?_⟩
  subst ex; cases r1
  refine ⟨a, rfl, hd.is rh1, δ, m1, _, rs.mono t1, rh1, q1, fun y m2 ⟨r, hg, q2⟩ u H2 t2 r2 rh2 => ?_⟩
  obtain ⟨o, h1, h2, h3⟩ := hg.v r2 rh2
  refine ⟨o, h1, ?_⟩
  cases r with
  | none =>
    rw [h3 rfl]
    exact f _ m2 q2 _ H2 (t1.trans t2) .non rh2
  | some d =>
    obtain ⟨w, rfl, rw'⟩ := h2 d rfl
    exact f _ m2 q2 _ H2 (t1.trans t2) rw' rh2
end
end DL

namespace DL
open PySem PySem.Spec PyProof.Rows L2 GA GxR
/-! ### dicts that the program's top has written, with keys that are texts -/
/-- the written dict at d, with these among its items -/
structure WDict (K : PySem.W.Frag) (w : World) (d : Addr) (kvs : List (Str × D)) : Prop where
  is : ∃ es n, KDict K w d es n
  at_ : ∀ z v, (z, v) ∈ kvs → ∃ (u0 : Value) (v0 : V), PySem.W.nsIn K d z = some (some u0) ∧ RelV v0 u0 ∧ ∀ H, Rep K H v v0
def rWix (X : Cx) (d : Addr) : R2 := fun x y H Q => ∃ (z : Str) (u0 : Value) (v0 : V), x = .ref d ∧ y = .str z ∧ PySem.W.nsIn X.K d z = some (some u0) ∧ RelV v0 u0 ∧ Q v0 H
theorem pe_wix {X : Cx} {o i : Expr} {td ty : TE} {pos : Pos} {d : Addr} {es : Array DictEntry} {n : Nat} (W : KDict X.K X.w d es n) (ho : PE X o td) (hi : PE X i ty) (hs : NoSl i) : PE X (.Subscript o i pos) (tOp (rWix X d) td ty) := by
  refine ⟨fun pins s σ H Q I h => ?_⟩
  refine subD_of PySem.F.slot_dict_getitem.lookup hs (thn (ho.run pins s σ H _ I h) fun u s1 ⟨x, H1, I1, rx, q1⟩ => thn (hi.run pins s1 σ H1 _ I1 q1) fun iv s2 ⟨y, H2, I2, ry, q2⟩ => ?_)
  have q3 := q2
  obtain ⟨z, u0, v0, rfl, rfl, _⟩ := q3
  cases rx
  exact ⟨kd_type W I2, op_item_kd W pins s2 σ H2 (V.ref d) (V.str z) _ _ Q I2 (show RelV (V.ref d) (Value.ref d) from rfl) ry q2⟩
def rdWix (d : Addr) (kvs : List (Str × D)) : DR2 := fun x y m Q => ∃ (z : Str) (v : D), x = .ref d ∧ y = .str z ∧ (z, v) ∈ kvs ∧ Q v m
theorem de_wix {X : Cx} {o i : Expr} {td ty : DTr} {pos : Pos} {d : Addr} {kvs : List (Str × D)} (W : WDict X.K X.w d kvs) (ho : DE X o td) (hi : DE X i ty) (hs : NoSl i := by exact fun _ _ => rfl) : DE X (.Subscript o i pos) (dOp (rdWix d kvs) td ty) := by
  obtain ⟨es, n, D⟩ := W.is
  refine (pe_wix D ho hi hs).imp (up_op ?_)
  intro x y vx vy H m Q' Q rx ry rh ⟨z, v, ex, ey, hm, q⟩ f
  subst ex ey
  cases rx; cases ry
  obtain ⟨u0, v0, e, r, rep⟩ := W.at_ z v hm
  exact ⟨z, u0, v0, rfl, rfl, e, r, f v m q v0 H (Ts.refl _ _) (rep H) rh⟩
end DL

namespace DL
open PySem PySem.Spec PyProof.Rows L2 GA GxR
/-! ### dict comprehensions -/
def dDC (ws : DTI) (g : Tg) (tt : DTT) (tk te : DTr) (ow : List Nat) : DTr := fun δ m Q => ws δ m fun xs ok m1 => ∀ p, m1.mu p = none → ∃ P : Nat → M → Prop, P 0 (m1.set p (.dic [])) ∧ (∀ i m, P i m → ok m) ∧
  (∀ i d m, xs[i]? = some d → P i m → gD g d (wipeD δ ow) fun δ2 => tt δ2 m fun b m3 => if b = true then tk δ2 m3 fun y m4 => te δ2 m4 fun z m5 => ∃ kvs k, y = kD k ∧ m5.mu p = some (.dic kvs) ∧ kvs.length < sizeLine ∧ P (i + 1) (m5.set p (.dic (putD kvs k z))) else P (i + 1) m3) ∧
  (∀ m, P xs.length m → Q (.ref p) m)
theorem up_dc {K : PySem.W.Frag} {ws : DTI} {g : Tg} {tt : DTT} {tk te : DTr} {ow : List Nat} (hgo : ∀ i ∈ g.ix, i ∈ ow) : ∀ σ H Q, up K (dDC ws g tt tk te ow) σ H Q → tDc (upI K ws) (gV K g) (upB K tt) (up K tk) (up K te) ow σ H Q := fun σ H Q ⟨δ, m, Q', rs, rh, q, f⟩ => by
  refine ⟨δ, m, _, rs, rh, q, fun xs ok m1 hP J H1 t1 rh1 wk => fun p hp => ?_⟩
  obtain ⟨P, h0, hok, hs, hd⟩ := hP p (rh1.fresh hp)
  have tp := Ts.new (K := K) (o := .dK []) hp
  refine ⟨fun i n H' => n = xs.length - i ∧ i ≤ xs.length ∧ ∃ m', Ts K H1 H' ∧ RelH K H' m' ∧ P i m', ⟨xs.length, by simp, Nat.zero_le _, _, tp, rh1.newO (x := .dic []) hp ⟨[], upd_same, .nil⟩, h0⟩, ?_⟩
  rintro i n H2 ⟨rfl, hi, m2, t2, rh2, hp2⟩
  have o := hok _ _ hp2
  by_cases hlt : i < xs.length
  · refine .inr ⟨wk.go i H2 m2 t2 rh2 o hlt, fun H' => ∃ m', Ts K H1 H' ∧ RelH K H' m' ∧ P (i + 1) m', fun H' ⟨m', z⟩ => ⟨xs.length - (i + 1), by omega, rfl, hlt, m', z⟩, fun v H3 y => ?_⟩
    obtain ⟨t3, rh3, d, hd', rd⟩ := wk.yld i H2 m2 v H3 t2 rh2 o hlt y
    have t13 := t2.trans t3
    refine gV_ok rd (((rs.mono t1).mono t13).wipe ow) (hs i d m2 hd' hp2) fun δ4 σ4 q4 rs4 hw => ⟨?_, ?_⟩
    · have e := hw ow (fun j hj => hgo j (by cases g <;> exact hj))
      rw [e, up_lc.wipe_wipe]
    · refine ⟨δ4, m2, _, rs4, rh3, q4, fun b m5 q5 H5 t5 rh5 => ?_⟩
      cases b with
      | true =>
        rw [if_pos rfl] at q5 ⊢
        refine ⟨δ4, m5, _, rs4.mono t5, rh5, q5, fun y m6 q6 u H6 t6 r6 rh6 => ?_⟩
        refine ⟨δ4, m6, _, (rs4.mono t5).mono t6, rh6, q6, fun z m7 ⟨kvs, k, ek, ha, hl, hn⟩ w H7 t7 r7 rh7 => ?_⟩
        subst ek
        have ku := kD_rep (Rep.mono t7 _ _ r6)
        subst ku
        obtain ⟨ys, e7, kv⟩ := rh7.obj _ _ ha
        have t8 := rh7.putTS (o := .dK (putK ys k w)) ha
        exact ⟨ys, k, rfl, e7, by rw [← kv.length]; exact hl, _, ((((t13.trans t5).trans t6).trans t7).trans t8), rh7.put (x := .dic (putD kvs k z)) ha ⟨_, upd_same, (kv.put r7).mono t8⟩, hn⟩
      | false =>
        rw [if_neg Bool.false_ne_true] at q5 ⊢
        exact ⟨m5, t13.trans t5, rh5, q5⟩
  · have e : i = xs.length := Nat.le_antisymm hi (Nat.le_of_not_lt hlt)
    subst e
    exact .inl ⟨wk.stop _ H2 m2 t2 rh2 o (Nat.le_refl _), f _ m2 (hd m2 hp2) _ H2 (t1.trans t2) (.ref p) rh2⟩
theorem de_dc {X : Cx} {kx vx tg iter : Expr} {ifs : List Expr} {scope : Scope} {own : List (Str × Nat)} {pos : Pos} {ws : DTI} {g : Tg} {tt : DTT} {tk te : DTr} (hc : X.calm = true) (hN : X.N.Nodup) (hi : DPI X tg iter ws) (ok : BlkOk X.N X.env.scope scope own)
    (hg : ∀ (s : Shared) (H : Hp) (C : Addr) (cl : List (Str × Addr)) (fp : List Addr), DG (X.blk s H scope (compEnvC scope cl C X.env) fp) tg g) (ht : ∀ (s : Shared) (H : Hp) (C : Addr) (cl : List (Str × Addr)) (fp : List Addr), DPts (X.blk s H scope (compEnvC scope cl C X.env) fp) ifs tt)
    (hk : ∀ (s : Shared) (H : Hp) (C : Addr) (cl : List (Str × Addr)) (fp : List Addr), DE (X.blk s H scope (compEnvC scope cl C X.env) fp) kx tk) (he : ∀ (s : Shared) (H : Hp) (C : Addr) (cl : List (Str × Addr)) (fp : List Addr), DE (X.blk s H scope (compEnvC scope cl C X.env) fp) vx te)
    (hgo : ∀ i ∈ g.ix, i ∈ own.map (·.2) := by decide) (hs : ∀ x, foldedSetIterable iter X.env x = pure x := by intro _; rfl) :
    DE X (.DictComp kx vx [⟨tg, iter, ifs, 0⟩] scope pos) (dDC ws g tt tk te (own.map (·.2))) := (pe_dc (g := gV X.K g) (tt := upB X.K tt) (tk := up X.K tk) (tv := up X.K te) hc hN hi ok hg ht hk he hs).imp (up_dc hgo)
end DL

/-! sets whose members are tuples of keys of one kind: membership and adding, no order -/
namespace TM
open PySem PySem.Spec PyProof.Rows L2
section
variable {P : Program} {w : World} {κ : Type} [DecidableEq κ]
/-- values that are of no class statement and whose hash is asked without more -/
structure Tame (kd : KeyKind P w κ) : Prop where
  cls : ∀ k v, kd.is k v = true → ∀ n, ofAClassStatement n v = pure false
  hby : ∀ k v, kd.is k v = true → ∀ n, ∃ b, hashByValue n v = pure b
theorem tame_mix : Tame (mixKind P w) := ⟨fun k v hk n => by
    rcases keyIs_shape hk with ⟨i, tk, _, rfl⟩ | ⟨x, tk, _, rfl⟩ <;> cases n <;> rfl, fun k v hk n => by
    rcases keyIs_shape hk with ⟨i, tk, _, rfl⟩ | ⟨x, tk, _, rfl⟩
    · exact ⟨true, by cases n <;> rfl⟩
    · exact ⟨false, by cases n <;> rfl⟩⟩
variable {kd : KeyKind P w κ} {A : Around} {E : Value → Shared → Prop} {s : Shared}
theorem items_is {ks : List κ} {vs : List Value} (hi : ItemsAre kd ks vs) : ∀ v ∈ vs, ∃ k, kd.is k v = true := by
  induction hi with
  | nil => exact fun _ z => nomatch z
  | @cons k1 v1 _ _ e _ ih =>
    intro v hv
    cases hv with
    | head => exact ⟨k1, e⟩
    | tail _ z => exact ih v z
theorem cls_tup (tm : Tame kd) {ks : List κ} {b : Addr} {Q : Bool → Shared → Prop} (key : IsTupleKey kd s.heap ks b) (q : Q false s) : wpAny (model P w) A (ofAClassStatement 8 (.ref b)) Q E s := by
  have ty := key.typeIs
  obtain ⟨ob, its, sz, hob, _, hdat, hits⟩ := key
  unfold ofAClassStatement
  refine wpAny_bind (wpAny_typeOf ty ?_)
  dsimp only
  have eT : (("tuple" : String) == "tuple") = true := rfl
  simp only [eT, if_true, Bool.not_true, Bool.false_eq_true, if_false]
  try refine wpAny_bind (wpAny_pure ?_)
  try simp only [Bool.not_true, Bool.false_eq_true, if_false]
  show wpAny _ _ (seqItems? (Value.ref b) >>= _) _ _ s
  refine wpAny_bind (wpAny_seqItems hob hdat ?_)
  dsimp only
  refine wpAny_bind ?_
  show wpAny _ _ (forIn its _ _) _ _ s
  rw [← Array.forIn_toList]
  refine wpAny_forIn_list _ (fun l r s1 => r.1 = none ∧ s1 = s ∧ ∀ v ∈ l, ∃ k, kd.is k v = true) _ ?turn ?fin _ _ ⟨rfl, rfl, items_is hits⟩
  case turn =>
    rintro v l r s1 ⟨er, rfl, hl⟩
    obtain ⟨k, hk⟩ := hl v List.mem_cons_self
    rw [tm.cls k v hk]
    refine wpAny_bind (wpAny_pure ?_)
    simp only [Bool.false_eq_true, if_false]
    exact wpAny_pure ⟨rfl, rfl, fun u z => hl u (List.mem_cons_of_mem _ z)⟩
  case fin =>
    rintro ⟨r1, r2⟩ s1 ⟨er, rfl, _⟩
    dsimp only at er
    cases er
    exact wpAny_pure q
theorem hby_tup (tm : Tame kd) {ks : List κ} {b : Addr} {Q : Bool → Shared → Prop} (key : IsTupleKey kd s.heap ks b) (q : ∀ c, Q c s) : wpAny (model P w) A (hashByValue 8 (.ref b)) Q E s := by
  have ty := key.typeIs
  obtain ⟨ob, its, sz, hob, _, hdat, hits⟩ := key
  unfold hashByValue
  refine wpAny_bind (wpAny_specialOf ty F.slot_tuple_hash.lookup ?_)
  show wpAny _ _ (seqItems? (Value.ref b) >>= _) _ _ s
  refine wpAny_bind (wpAny_seqItems hob hdat ?_)
  refine wpAny_bind ?_
  show wpAny _ _ (forIn its _ _) _ _ s
  rw [← Array.forIn_toList]
  refine wpAny_forIn_list _ (fun l r s1 => r.1 = none ∧ s1 = s ∧ ∀ v ∈ l, ∃ k, kd.is k v = true) _ ?turn ?fin _ _ ⟨rfl, rfl, items_is hits⟩
  case turn =>
    rintro v l r s1 ⟨er, rfl, hl⟩
    obtain ⟨k, hk⟩ := hl v List.mem_cons_self
    obtain ⟨c, hc⟩ := tm.hby k v hk 7
    rw [hc]
    refine wpAny_bind (wpAny_pure ?_)
    cases c with
    | true =>
      simp only [Bool.not_true, Bool.false_eq_true, if_false]
      exact wpAny_pure ⟨rfl, rfl, fun u z => hl u (List.mem_cons_of_mem _ z)⟩
    | false =>
      simp only [Bool.not_false, if_true]
      exact wpAny_pure (wpAny_pure (q false))
  case fin =>
    rintro ⟨r1, r2⟩ s1 ⟨er, rfl, _⟩
    dsimp only at er
    cases er
    exact wpAny_pure (q true)
theorem unseen (tm : Tame kd) {ks : List κ} {b : Addr} {Q : Bool → Shared → Prop} (key : IsTupleKey kd s.heap ks b) {ys : List Value} (hy : ∀ y ∈ ys, ∃ ls c, y = Value.ref c ∧ IsTupleKey kd s.heap ls c) (q : Q false s) :
    wpAny (model P w) A (searchCouldBeSeen (.ref b) ys) Q E s := by
  unfold searchCouldBeSeen
  refine wpAny_bind ?_
  refine wpAny_forIn_list _ (fun l r s1 => r.1 = none ∧ s1 = s ∧ ∀ y ∈ l, ∃ ls c, y = Value.ref c ∧ IsTupleKey kd s.heap ls c) _ ?turn ?fin _ _ ⟨rfl, rfl, hy⟩
  case turn =>
    rintro v l r s1 ⟨er, rfl, hl⟩
    obtain ⟨ls, c, rfl, hc⟩ := hl v List.mem_cons_self
    have hl' : ∀ y ∈ l, ∃ ls c, y = Value.ref c ∧ IsTupleKey kd s1.heap ls c := fun u z => hl u (List.mem_cons_of_mem _ z)
    dsimp only
    by_cases same : (b == c || (carriedByValue (.ref b) && carriedByValue (.ref c))) = true
    · exact wp_if_pos same (wpAny_pure ⟨rfl, rfl, hl'⟩)
    · refine wp_if_neg same (wpAny_bind (wpAny_eqIsQuiet_tuple key ?_))
      simp only [Bool.not_true, Bool.false_eq_true, if_false]
      refine wpAny_bind (wpAny_eqIsQuiet_tuple hc ?_)
      simp only [Bool.not_true, Bool.false_eq_true, if_false]
      refine wpAny_bind (cls_tup tm key ?_)
      simp only [Bool.false_eq_true, if_false]
      refine wpAny_bind (cls_tup tm hc ?_)
      simp only [Bool.false_eq_true, if_false]
      exact wpAny_pure ⟨rfl, rfl, hl'⟩
  case fin =>
    rintro ⟨r1, r2⟩ s1 ⟨er, rfl, _⟩
    dsimp only at er
    cases er
    exact wpAny_pure q
end
end TM

namespace TM
open PySem PySem.Spec PyProof.Rows L2
section
variable {P : Program} {w : World} {κ : Type} [DecidableEq κ]
/-- the rows of a table, by its members -/
def rowsM (kd : KeyKind P w κ) (M : List (Addr × List κ)) : List (Int × Value) := M.map fun z => (tupleKeyHash kd z.2, Value.ref z.1)
/-- at a stands a set with these members -/
structure TSet (kd : KeyKind P w κ) (g : Heap) (a : Addr) (M : List (Addr × List κ)) (rs : Array (Int × Value)) (ep : Nat) (tb : SetTable) : Prop where
  at_ : ∃ ob, g.get? a = some ob ∧ ob.ExactSet ∧ ob.data = .set rs ep tb
  eq : rs.toList = rowsM kd M
  ok : TabOk tb (M.map fun z => tupleKeyHash kd z.2)
  nd : (M.map (·.2)).Nodup
  key : ∀ z ∈ M, IsTupleKey kd g z.2 z.1
  free : M.length * 5 < tb.mask * 3
  few : M.length < 64
variable {kd : KeyKind P w κ} {A : Around} {E : Value → Shared → Prop} {s : Shared} {a : Addr} {M : List (Addr × List κ)} {rs : Array (Int × Value)} {ep : Nat} {tb : SetTable}
theorem rowsM_len (h : rs.toList = rowsM kd M) : rs.size = M.length := by
  have := congrArg List.length h
  simpa [rowsM] using this
theorem fits_of (h1 : rs.size = M.length) (h2 : tb.place.size = M.length) (h3 : tb.dummies = #[]) (h4 : M.length ≤ tb.mask) : tb.fits rs.size = true := by
  unfold SetTable.fits SetTable.fill
  rw [h3, h1, h2]
  simpa using h4
theorem TSet.fit (T : TSet kd s.heap a M rs ep tb) : tb.fits rs.size = true :=
  fits_of (rowsM_len T.eq) (by have := T.ok.sz; simpa using this) T.ok.dm (by have := T.free; omega)
theorem row_at (h : rs.toList = rowsM kd M) {i : Nat} {z : Addr × List κ} (hz : M[i]? = some z) : rs[i]? = some (tupleKeyHash kd z.2, Value.ref z.1) := by
  have e : rs[i]? = (rowsM kd M)[i]? := by rw [← h, Array.getElem?_toList]
  rw [e, rowsM, List.getElem?_map, hz]; rfl
theorem still_there (T : TSet kd s.heap a M rs ep tb) : ¬ tb.gaveWay = true := by
  simp [SetTable.gaveWay, mask_odd T.ok.mok]
theorem nth_dm {m : Nat} : ∀ (n : Nat) (p : SetTable.Probe), p.dummy = none → (nth m p n).dummy = none
  | 0, _, e => e
  | n + 1, p, e => nth_dm n (adv m p) (by unfold adv; split <;> exact e)
/-- the search, from a step of the way on; what is looked for stands before the first empty slot -/
theorem look_from (tm : Tame kd) (T : TSet kd s.heap a M rs ep tb) {x : Addr} {ks : List κ} {add : Bool} (key : IsTupleKey kd s.heap ks x) (hu : A.units < cLine) {N : Nat} (hN : N < 10 * SetTable.turns tb.mask)
    (e0 : way tb.mask (tupleKeyHash kd ks) N ∉ tb.place.toList) (eb : ∀ c, c < N → way tb.mask (tupleKeyHash kd ks) c ∈ tb.place.toList) {Q : SetFound → Shared → Prop}
    (yes : ks ∈ M.map (·.2) → ∀ r : Option Nat, (add = false → r.isSome = true) → Q (.there r) s) (no : ks ∉ M.map (·.2) → Q (.free (way tb.mask (tupleKeyHash kd ks) N) false) s) (hs : Int) (ehs : hs = tupleKeyHash kd ks) (p0 : SetTable.Probe) (ep0 : p0 = runAt tb.mask (SetTable.bits hs % (tb.mask + 1)) (SetTable.bits hs)) :
    ∀ (f c : Nat) (st : Option SetTable.Probe), st.getD (tb.probeStart hs) = nth tb.mask p0 c → c ≤ N → N - c < f →
      (∀ (i : Nat) z, M[i]? = some z → z.2 = ks → ∃ c', c ≤ c' ∧ c' < N ∧ tb.place.toList[i]? = some (way tb.mask hs c')) → wpAny (model P w) A (setSearchFrom a (.ref x) hs add f st) Q E s := by
  intro f
  induction f with
  | zero => exact fun c st _ _ z => absurd z (Nat.not_lt_zero _)
  | succ f ih =>
    intro c st est hc hf back
    obtain ⟨ob, hob, hex, hdat⟩ := T.at_
    rw [setSearchFrom_succ]
    refine wpAny_bind (wpAny_setState_of hob hdat T.fit ?_)
    dsimp only
    refine wp_if_neg (still_there T) ?_
    try refine wpAny_bind (wpAny_pure ?_)
    have wj : ∀ q, (nth tb.mask (nth tb.mask p0 c) q).j = way tb.mask hs (c + q) := fun q => by rw [← nth_add, ep0]
    have hashes : ∀ (i : Nat) z, M[i]? = some z → ((rs[i]?.map (·.1)).getD 0) = tupleKeyHash kd z.2 := fun i z hz => by rw [row_at T.eq hz]; rfl
    have dm : (nth tb.mask p0 c).dummy = none := nth_dm c p0 (by rw [ep0]; rfl)
    rcases go_spec tb T.ok.ris T.ok.dm (fun i => (rs[i]?.map (·.1)).getD 0) hs (10 * SetTable.turns tb.mask) (N - c) (nth tb.mask p0 c) dm (by omega) (fun q hq => by rw [wj, ehs]; exact eb _ (by omega)) (by rw [wj, ehs, show c + (N - c) = N by omega]; exact e0) with ⟨q, i, hq, hi, hh, before, hpr⟩ | ⟨none_, hpr⟩
    · rw [wj] at hi
      have hpr1 : tb.probe (fun i => (rs[i]?.map (·.1)).getD 0) hs (st.getD (tb.probeStart hs)) = some (.candidate (way tb.mask hs (c + q)) i (nth tb.mask (nth tb.mask p0 c) (q + 1))) := by
        rw [est, ← wj q]
        exact hpr
      rw [hpr1]
      dsimp only
      have hil : i < M.length := by
        have z1 := (List.getElem?_eq_some_iff.mp hi).1
        have z2 := T.ok.sz
        simp only [List.length_map, Array.length_toList] at z1 z2
        omega
      obtain ⟨z, hz⟩ : ∃ z, M[i]? = some z := ⟨_, List.getElem?_eq_getElem hil⟩
      have zm : z ∈ M := List.mem_of_getElem? hz
      have live := slot_live T.ok.ris hi
      have go : wpAny (model P w) A (searchRest a (.ref x) hs add f rs tb (way tb.mask hs (c + q)) i (nth tb.mask (nth tb.mask p0 c) (q + 1))) Q E s := by
        unfold searchRest
        rw [row_at T.eq hz]
        dsimp only
        refine wpAny_bind (wpAny_holding (wpAny_eqBool_tuple hu (T.key z zm) key ?_))
        refine wpAny_bind (wpAny_setState_of hob hdat T.fit ?_)
        dsimp only
        by_cases same : z.2 = ks
        · have hin : ks ∈ M.map (·.2) := List.mem_map.mpr ⟨z, zm, same⟩
          cases add with
          | true => exact wp_if_pos (by simp [same]) (wpAny_pure (yes hin none fun e => nomatch e))
          | false =>
            refine wp_if_neg (by simp) ?_
            try refine wpAny_bind (wpAny_pure ?_)
            rw [sameMem]
            dsimp only
            simp only [if_true, live, row_at T.eq hz]
            refine wpAny_bind (wpAny_isSame_ref_self (wpAny_bind (wpAny_pure ?_)))
            simp only [if_true]
            exact wp_if_pos (by simp [same]) (wpAny_pure (yes hin (some i) fun _ => rfl))
        · refine wp_if_neg (by simp [same]) ?_
          try refine wpAny_bind (wpAny_pure ?_)
          rw [sameMem]
          dsimp only
          simp only [if_true, live, row_at T.eq hz]
          refine wpAny_bind (wpAny_isSame_ref_self (wpAny_bind (wpAny_pure ?_)))
          simp only [if_true]
          refine wp_if_neg (by simp [same]) ?_
          refine ih (c + (q + 1)) _ (by show nth _ _ _ = _; rw [← nth_add]) (by omega) (by omega) fun i1 z1 h1 k1 => ?_
          obtain ⟨c', b1, b2, b3⟩ := back i1 z1 h1 k1
          refine ⟨c', ?_, b2, b3⟩
          by_cases lo : c' < c + q
          · refine absurd ((hashes i1 z1 h1).trans (by rw [k1, ehs])) (before (c' - c) i1 (by omega) ?_)
            rw [wj, show c + (c' - c) = c' by omega]; exact b3
          · by_cases eq : c' = c + q
            · rw [eq] at b3
              have l2 := slot_live T.ok.ris b3
              rw [live] at l2
              injection l2 with l2
              rw [← l2, hz] at h1
              exact absurd ((congrArg Prod.snd (Option.some.inj h1)).trans k1) same
            · omega
      by_cases led : tb.led = true
      · refine wp_if_neg (by simp [led]) ?_
        try refine wpAny_bind (wpAny_pure ?_)
        exact go
      · refine wp_if_pos (by simp [led]) ?_
        refine wpAny_bind (unseen tm key (fun y hy => ?_) ?_)
        · obtain ⟨e, he, rfl⟩ := List.mem_map.mp hy
          have he2 : e ∈ rs.toList := by
            have : e ∈ rs ∧ e.1 = hs := by simpa using he
            simpa using this.1
          rw [T.eq] at he2
          obtain ⟨z2, hz2, rfl⟩ := List.mem_map.mp he2
          exact ⟨z2.2, z2.1, rfl, T.key z2 hz2⟩
        · refine wp_if_neg Bool.false_ne_true ?_
          try refine wpAny_bind (wpAny_pure ?_)
          exact go
    · have hpr1 : tb.probe (fun i => (rs[i]?.map (·.1)).getD 0) hs (st.getD (tb.probeStart hs)) = some (.empty (way tb.mask hs N) none) := by
        have en : way tb.mask hs N = (nth tb.mask (nth tb.mask p0 c) (N - c)).j := by rw [wj, show c + (N - c) = N by omega]
        rw [est, en]
        exact hpr
      rw [hpr1]
      dsimp only
      rw [ehs]
      refine wpAny_pure (no fun hin => ?_)
      obtain ⟨z, zm, ez⟩ := List.mem_map.mp hin
      obtain ⟨i, hi⟩ := List.getElem?_of_mem zm
      obtain ⟨c', b1, b2, b3⟩ := back i z hi ez
      refine none_ (c' - c) i (by omega) ?_ ((hashes i z hi).trans (by rw [ez, ehs]))
      rw [wj, show c + (c' - c) = c' by omega]; exact b3
/-- the search -/
theorem look (tm : Tame kd) (T : TSet kd s.heap a M rs ep tb) {x : Addr} {ks : List κ} {add : Bool} (key : IsTupleKey kd s.heap ks x) (hu : A.units < cLine) {Q : SetFound → Shared → Prop}
    (yes : ks ∈ M.map (·.2) → ∀ r : Option Nat, (add = false → r.isSome = true) → Q (.there r) s)
    (no : ∀ N, ks ∉ M.map (·.2) → way tb.mask (tupleKeyHash kd ks) N ∉ tb.place.toList → (∀ c, c < N → way tb.mask (tupleKeyHash kd ks) c ∈ tb.place.toList) → Q (.free (way tb.mask (tupleKeyHash kd ks) N) false) s) :
    wpAny (model P w) A (setSearch a (.ref x) (tupleKeyHash kd ks) add) Q E s := by
  obtain ⟨N, hN, e0, eb⟩ := T.ok.first (by have := T.free; simp only [List.length_map]; omega) (tupleKeyHash kd ks)
  have small : N < 100000 := by
    have : 10 * SetTable.turns tb.mask ≤ 1420 := by
      unfold SetTable.turns
      rcases T.ok.mok with z | z | z <;> omega
    omega
  unfold setSearch
  refine look_from tm T key hu hN e0 eb yes (fun h => no N h e0 eb) _ rfl _ rfl 100000 0 none rfl (Nat.zero_le _) (by omega) fun i z hz ez => ?_
  have hi : (M.map fun z => tupleKeyHash kd z.2)[i]? = some (tupleKeyHash kd ks) := by rw [List.getElem?_map, hz, ← ez]; rfl
  have hil : i < tb.place.toList.length := by
    have z1 := (List.getElem?_eq_some_iff.mp hz).1
    have z2 := T.ok.sz
    simp only [List.length_map, Array.length_toList] at z2 ⊢
    omega
  obtain ⟨c, hc, e⟩ := T.ok.before e0 hi (List.getElem?_eq_getElem hil)
  exact ⟨c, Nat.zero_le _, hc, by rw [e]; exact List.getElem?_eq_getElem hil⟩
/-- a tuple is no set: it stands when a set is changed -/
theorem key_stays {g g' : Heap} {ks : List κ} {b : Addr} {ob : Obj} (key : IsTupleKey kd g ks b) (hob : g.get? a = some ob) (hdat : ob.data = .set rs ep tb) (sb : Heap.SameBut a g g') : IsTupleKey kd g' ks b := by
  obtain ⟨o, its, sz, ho, hc, hd, hi⟩ := key
  by_cases e : b = a
  · subst e
    have := hob.symm.trans ho
    cases this
    rw [hdat] at hd; cases hd
  · exact ⟨o, its, sz, (sb.2 b e).trans ho, hc, hd, hi⟩
end
end TM

namespace TM
open PySem PySem.Spec PyProof.Rows L2
section
variable {P : Program} {w : World} {κ : Type} [DecidableEq κ] {kd : KeyKind P w κ} {A : Around} {E : Value → Shared → Prop} {s : Shared} {a : Addr} {M : List (Addr × List κ)} {rs : Array (Int × Value)} {ep : Nat} {tb : SetTable}
/-- rows in another order are the rows of the members in that order -/
theorem other_order (hr : rs.toList = rowsM kd M) (ord : Array Nat) (hp : ord.toList.Perm (List.range M.length)) :
    ∃ M2, (ord.filterMap (rs[·]?)).toList = rowsM kd M2 ∧ M2.Perm M ∧ (M2.map fun z => tupleKeyHash kd z.2) = ord.toList.map fun i => (rs.map (·.1)).getD i 0 := by
  have some_at : ∀ i (h : i < M.length), rs[i]? = some (tupleKeyHash kd (M[i]).2, Value.ref (M[i]).1) := fun i h => row_at hr (List.getElem?_eq_getElem h)
  have step : ∀ l : List Nat, (∀ i ∈ l, i < M.length) → l.filterMap (fun i => rs[i]?) = rowsM kd (l.filterMap fun i => M[i]?) ∧ ((l.filterMap fun i => M[i]?).map fun z => tupleKeyHash kd z.2) = l.map fun i => (rs.map (·.1)).getD i 0 := by
    intro l
    induction l with
    | nil => exact fun _ => ⟨rfl, rfl⟩
    | cons i l ih =>
      intro hl
      have hi := hl i List.mem_cons_self
      obtain ⟨e1, e2⟩ := ih fun j hj => hl j (List.mem_cons_of_mem _ hj)
      rw [List.filterMap_cons_some (some_at i hi), List.filterMap_cons_some (List.getElem?_eq_getElem hi), e1]
      refine ⟨rfl, ?_⟩
      rw [List.map_cons, List.map_cons, e2]
      congr 1
      simp [Array.getD_eq_getD_getElem?, Array.getElem?_map, some_at i hi]
  obtain ⟨e1, e2⟩ := step ord.toList fun i hi => List.mem_range.mp (hp.mem_iff.mp hi)
  refine ⟨ord.toList.filterMap fun i => M[i]?, by simpa using e1, ?_, e2⟩
  refine (hp.filterMap fun i => M[i]?).trans ?_
  have all : ∀ n, n ≤ M.length → (List.range n).filterMap (fun i => M[i]?) = M.take n := by
    intro n
    induction n with
    | zero => exact fun _ => rfl
    | succ n ih =>
      intro hn
      rw [List.range_succ, List.filterMap_append, ih (by omega), List.take_succ, List.filterMap_cons_some (List.getElem?_eq_getElem (show n < M.length from hn)), List.getElem?_eq_getElem (show n < M.length from hn)]; rfl
  rw [all _ (Nat.le_refl _), List.take_length]
/-- the table in a larger one -/
theorem laid_anew {ob : Obj} (hob : s.heap.get? a = some ob) (hex : ob.ExactSet) (hdat : ob.data = .set rs ep tb) (hr : rs.toList = rowsM kd M) (hz : tb.place.size = M.length) (hdm : tb.dummies = #[]) (hle : M.length ≤ tb.mask)
    (nd : (M.map (·.2)).Nodup) (keys : ∀ z ∈ M, IsTupleKey kd s.heap z.2 z.1) (few : M.length < 64) {want B : Nat} (hB : SetTable.sizeAbove want - 1 = B) (okB : MaskOk B) (h128 : SetTable.sizeAbove want ≤ 128) (hfree : M.length * 5 < B * 3) {Q : Unit → Shared → Prop}
    (q : ∀ g' M' rs' ep' tb', Heap.SameBut a s.heap g' → TSet kd g' a M' rs' ep' tb' → M'.Perm M → Q () { s with heap := g' }) : wpAny (model P w) A (setRelay a want) Q E s := by
  have hn := rowsM_len hr
  obtain ⟨t2, ord, e, hp, T2, em, _, _, _⟩ := relaid_ok tb (hs := rs.map (·.1)) (wanted := want) hB okB (by rw [Array.size_map, hn]; omega)
  rw [Array.size_map, hn] at hp
  obtain ⟨M2, r1, r2, r3⟩ := other_order hr ord hp
  rw [← r3] at T2
  have hn2 : (ord.filterMap (rs[·]?)).size = rs.size := by rw [rowsM_len r1, r2.length_eq, hn]
  rw [setRelay_eq]
  refine wpAny_bind (wpAny_setState_of hob hdat (fits_of hn hz hdm hle) ?_)
  dsimp only
  refine wp_if_neg (by rw [sizeLine_eq]; omega) ?_
  try refine wpAny_bind (wpAny_pure ?_)
  rw [e]
  dsimp only
  refine wpAny_bind (wp_if_neg (by rw [hn2]; simp) ?_)
  try refine wpAny_bind (wpAny_pure ?_)
  refine wpAny_pure ?_
  dsimp only
  refine wpAny_storeSet_of hob hdat ?_ (by rw [hn2, hn, sizeLine_eq]; omega)
  have sb : Heap.SameBut a s.heap (s.heap.update a (Obj.putSet (ord.filterMap (rs[·]?)) t2)) := Heap.SameBut.update ..
  refine q _ M2 (ord.filterMap (rs[·]?)) (ep + 1) t2 sb ⟨⟨_, store_at hob hdat, ⟨hex.1, hex.2.1, hex.2.2⟩, rfl⟩, r1, T2, (r2.map (·.2)).nodup_iff.mpr nd, fun z hz => key_stays (keys z (r2.mem_iff.mp hz)) hob hdat sb, ?_, by rw [r2.length_eq]; exact few⟩ r2
  rw [r2.length_eq, em]; exact hfree
/-- one more, or the same -/
theorem put_in (tm : Tame kd) (T : TSet kd s.heap a M rs ep tb) {x : Addr} {ks : List κ} (key : IsTupleKey kd s.heap ks x) (hu : A.units < cLine) (few : M.length + 1 < 64) {Q : Bool → Shared → Prop}
    (q : ∀ b g' M' rs' ep' tb', Heap.SameBut a s.heap g' → TSet kd g' a M' rs' ep' tb' → (ks ∈ M.map (·.2) → M' = M) → (ks ∉ M.map (·.2) → M'.Perm ((x, ks) :: M)) → Q b { s with heap := g' }) :
    wpAny (model P w) A (setAddHashed a (.ref x) (tupleKeyHash kd ks)) Q E s := by
  obtain ⟨ob, hob, hex, hdat⟩ := T.at_
  have hn := rowsM_len T.eq
  have hfree := T.free
  unfold setAddHashed
  refine wpAny_holding ?_
  rw [show (100000 : Nat) = 99999 + 1 from rfl, setAddHashedIn_succ]
  refine wpAny_bind (wpAny_setState_of hob hdat T.fit ?_)
  dsimp only
  refine wp_if_neg (by simp [byScan, Value.scannable]) ?_
  try refine wpAny_bind (wpAny_pure ?_)
  refine wpAny_bind (look tm T key hu (fun hin _ _ => ?_) fun N hin e0 eb => ?_)
  · dsimp only
    exact wpAny_pure (q false s.heap M rs ep tb (Heap.SameBut.refl a s.heap) T (fun _ => rfl) fun z => absurd hin z)
  · dsimp only
    refine wpAny_bind (wpAny_setState_of hob hdat T.fit ?_)
    dsimp only
    obtain ⟨u1, u2, u3, u4, _, _, _, _, u9⟩ := T.ok.put e0 eb
    generalize hpt : tb.put (way tb.mask (tupleKeyHash kd ks) N) = pt at u1 u3 u4 u9 ⊢
    obtain ⟨t1, pl⟩ := pt
    dsimp only at u1 u3 u4 u9 ⊢
    subst u1
    have rows2 : (SetTable.insertAt rs (SetTable.below tb.place (way tb.mask (tupleKeyHash kd ks) N)) (tupleKeyHash kd ks, Value.ref x)).toList = rowsM kd (M.take (SetTable.below tb.place (way tb.mask (tupleKeyHash kd ks) N)) ++ (x, ks) :: M.drop (SetTable.below tb.place (way tb.mask (tupleKeyHash kd ks) N))) := by
      rw [SetTable.toList_insertAt, T.eq]
      simp [rowsM, List.map_take, List.map_drop]
    generalize SetTable.below tb.place (way tb.mask (tupleKeyHash kd ks) N) = pl at u2 u3 rows2 ⊢
    have pm := put_perm M pl (x, ks)
    have hl2 : (M.take pl ++ (x, ks) :: M.drop pl).length = M.length + 1 := pm.length_eq
    have hh2 : (M.map fun z => tupleKeyHash kd z.2).take pl ++ tupleKeyHash kd ks :: (M.map fun z => tupleKeyHash kd z.2).drop pl = (M.take pl ++ (x, ks) :: M.drop pl).map fun z => tupleKeyHash kd z.2 := by
      simp [List.map_take, List.map_drop]
    rw [hh2] at u3
    have nd2 : ((M.take pl ++ (x, ks) :: M.drop pl).map (·.2)).Nodup := (pm.map (·.2)).nodup_iff.mpr (List.nodup_cons.mpr ⟨hin, T.nd⟩)
    generalize M.take pl ++ (x, ks) :: M.drop pl = M1 at pm hl2 u3 nd2 rows2
    have hn1 := rowsM_len rows2
    generalize SetTable.insertAt rs pl (tupleKeyHash kd ks, Value.ref x) = rs1 at rows2 hn1 ⊢
    have fin : ∀ t' : SetTable, t'.place = t1.place → t'.mask = t1.mask → t'.dummies = t1.dummies → TabOk t' (M1.map fun z => tupleKeyHash kd z.2) → t'.tooFull = t1.tooFull → 
        wpAny (model P w) A (do
          storeSet a rs1 t'
          if !false && t'.tooFull then setRelay a (SetTable.grown (rs.size + 1))
          return true) Q E s := by
      intro t' ep1 ep2 ep3 ok' ef
      refine wpAny_bind (wpAny_storeSet_of hob hdat ?_ (by rw [hn1, hl2, sizeLine_eq]; omega))
      have sb : Heap.SameBut a s.heap (s.heap.update a (Obj.putSet rs1 t')) := Heap.SameBut.update ..
      have hob1 := store_at (es' := rs1) (t' := t') hob hdat
      generalize s.heap.update a (Obj.putSet rs1 t') = g1 at sb hob1 ⊢
      have keys1 : ∀ z ∈ M1, IsTupleKey kd g1 z.2 z.1 := fun z hz => by
        rcases List.mem_cons.mp (pm.mem_iff.mp hz) with rfl | hz
        · exact key_stays key hob hdat sb
        · exact key_stays (T.key z hz) hob hdat sb
      have fl : t1.fill = M.length + 1 := by rw [u9, List.length_map]
      by_cases full : t1.tooFull = true
      · have cnd : (!false && t'.tooFull) = true := by rw [ef, full]; rfl
        have h5 : (M.length + 1) * 5 ≥ t1.mask * 3 := by
          have := full
          unfold SetTable.tooFull at this
          rw [decide_eq_true_eq, fl] at this
          exact this
        have two : (tb.mask = 7 ∧ M.length = 4) ∨ (tb.mask = 31 ∧ M.length = 18) := by
          rcases T.ok.mok with z | z | z
          · exact .inl ⟨z, by rw [u4, z] at h5; rw [z] at hfree; omega⟩
          · exact .inr ⟨z, by rw [u4, z] at h5; rw [z] at hfree; omega⟩
          · rw [u4, z] at h5; omega
        have grow : ∀ B, SetTable.sizeAbove (SetTable.grown (M.length + 1)) - 1 = B → MaskOk B → SetTable.sizeAbove (SetTable.grown (M.length + 1)) ≤ 128 → (M.length + 1) * 5 < B * 3 →
            wpAny (model P w) A (setRelay a (SetTable.grown (rs.size + 1))) (fun _ s' => wpAny (model P w) A (pure true) Q E s') E { s with heap := g1 } := fun B b1 b2 b3 b4 => by
          rw [hn]
          refine laid_anew (s := { s with heap := g1 }) hob1 ⟨hex.1, hex.2.1, hex.2.2⟩ rfl rows2 (by have := ok'.sz; simpa using this) ok'.dm ?_ nd2 keys1 (by rw [hl2]; exact few) b1 b2 b3 (by rw [hl2]; exact b4) ?_
          · rw [hl2, ep2, u4]; rcases two with ⟨z, z2⟩ | ⟨z, z2⟩ <;> omega
          · exact fun g2 M2 rs2 ep2 t2 sb2 T2 pm2 => wpAny_pure (q true g2 M2 rs2 ep2 t2 (sb.trans sb2) T2 (fun z => absurd z hin) fun _ => pm2.trans pm)
        first
          | refine wpAny_bind (wp_if_pos cnd ?_)
          | refine wp_if_pos cnd (wpAny_bind ?_)
        rcases two with ⟨_, e2⟩ | ⟨_, e2⟩
        · exact grow 31 (by rw [e2, size_20]) (.inr (.inl rfl)) (by rw [e2, size_20]; decide) (by omega)
        · exact grow 127 (by rw [e2, size_76]) (.inr (.inr rfl)) (by rw [e2, size_76]; decide) (by omega)
      · have cnd : ¬ (!false && t'.tooFull) = true := by rw [ef]; simpa using full
        have last : wpAny (model P w) A (pure true) Q E { s with heap := g1 } := by
          refine wpAny_pure (q true g1 M1 rs1 (ep + 1) t' sb ⟨⟨_, hob1, ⟨hex.1, hex.2.1, hex.2.2⟩, rfl⟩, rows2, ok', nd2, keys1, ?_, by rw [hl2]; exact few⟩ (fun z => absurd z hin) fun _ => pm)
          unfold SetTable.tooFull at full
          rw [decide_eq_true_eq, fl] at full
          rw [hl2, ep2]; omega
        first
          | exact wp_if_neg cnd last
          | exact wp_if_neg cnd (wpAny_bind (wpAny_pure last))
          | exact wpAny_bind (wp_if_neg cnd (wpAny_pure last))
    have okp : TabOk { t1 with plain := false } (M1.map fun z => tupleKeyHash kd z.2) := ⟨u3.ris, u3.dm, u3.sz, u3.mok, u3.bd, u3.reach⟩
    have both : ∀ c : Bool, wpAny (model P w) A (do
          let t' := if c then t1 else { t1 with plain := false }
          storeSet a rs1 t'
          if !false && t'.tooFull then setRelay a (SetTable.grown (rs.size + 1))
          return true) Q E s := fun c => by
      cases c with
      | true => exact fin t1 rfl rfl rfl u3 rfl
      | false => exact fin { t1 with plain := false } rfl rfl rfl okp rfl
    by_cases plain : t1.plain = true
    · first
        | exact wpAny_bind (wp_if_pos plain (hby_tup tm key fun c => both c))
        | exact wp_if_pos plain (wpAny_bind (hby_tup tm key fun c => both c))
    · first
        | exact wpAny_bind (wp_if_neg plain (wpAny_pure (both true)))
        | exact wp_if_neg plain (wpAny_bind (wpAny_pure (both true)))
        | exact wp_if_neg plain (both true)
end
end TM

namespace TM
open PySem PySem.Spec PyProof.Rows L2
section
variable {P : Program} {w : World} {A : Around} {E : Value → Shared → Prop} {s : Shared} {a : Addr}
abbrev MK (P : Program) (w : World) := mixKind P w
def hasK (ks : List Key) (M : List (Addr × List Key)) : Bool := M.any fun z => decide (z.2 = ks)
theorem hasK_iff {ks : List Key} {M : List (Addr × List Key)} : hasK ks M = true ↔ ks ∈ M.map (·.2) := by
  simp [hasK, List.mem_map]
theorem hasK_f {ks : List Key} {M : List (Addr × List Key)} (h : ks ∉ M.map (·.2)) : hasK ks M = false := by
  cases e : hasK ks M with
  | false => rfl
  | true => exact absurd (hasK_iff.mp e) h
/-- the set at a, its members' own standing apart -/
def TS0 (P : Program) (w : World) (a : Addr) (M : List (Addr × List Key)) (g : Heap) : Prop := ∃ (rs : Array (Int × Value)) (ep : Nat) (tb : SetTable), (∃ ob, g.get? a = some ob ∧ ob.ExactSet ∧ ob.data = .set rs ep tb) ∧ rs.toList = rowsM (MK P w) M ∧
  TabOk tb (M.map fun z => tupleKeyHash (MK P w) z.2) ∧ (M.map (·.2)).Nodup ∧ M.length * 5 < tb.mask * 3 ∧ M.length < 64
theorem TS0.full {g : Heap} {M : List (Addr × List Key)} (T : TS0 P w a M g) (k : ∀ z ∈ M, IsTupleKey (MK P w) g z.2 z.1) : ∃ rs ep tb, TSet (MK P w) g a M rs ep tb := by
  obtain ⟨rs, ep, tb, h1, h2, h3, h4, h5, h6⟩ := T
  exact ⟨rs, ep, tb, h1, h2, h3, h4, k, h5, h6⟩
theorem TSet.ts0 {g : Heap} {M : List (Addr × List Key)} {rs ep tb} (T : TSet (MK P w) g a M rs ep tb) : TS0 P w a M g := ⟨rs, ep, tb, T.at_, T.eq, T.ok, T.nd, T.free, T.few⟩
theorem TS0.ty {M : List (Addr × List Key)} (T : TS0 P w a M s.heap) : s.TypeIs (.ref a) "set" := by
  obtain ⟨_, _, _, ⟨ob, h1, h2, _⟩, _⟩ := T
  exact ⟨ob, h1, h2.1⟩
theorem TS0.nod {M : List (Addr × List Key)} (T : TS0 P w a M s.heap) : ∀ b, Value.ref a = .ref b → ∃ ob, s.heap.get? b = some ob ∧ ob.dict = none := by
  intro b e
  injection e with e
  subst e
  obtain ⟨_, _, _, ⟨ob, h1, h2, _⟩, _⟩ := T
  exact ⟨ob, h1, h2.2.1⟩
theorem ts0_ok {H : Hp} {g : Heap} {M : List (Addr × List Key)} (T : TS0 P w a M g) : ObjOk P w H g a (.ext (TS0 P w a M)) := by
  have ⟨_, _, _, ⟨ob, h1, _⟩, _⟩ := T
  refine ⟨T, ⟨ob, h1⟩, fun g1 g2 p k => ?_⟩
  obtain ⟨rs, ep, tb, ⟨ob, z1, z2⟩, z3⟩ := p
  exact ⟨rs, ep, tb, ⟨ob, k ob z1, z2⟩, z3⟩
theorem ts0_new {g : Heap} (h : g.get? a = some { cls := .type "set", dict := none, data := .set #[] 0 (.fresh 0 0 (!w.params.followText "set-order")) }) : TS0 P w a [] g :=
  ⟨#[], 0, _, ⟨_, h, ⟨rfl, rfl, rfl⟩, rfl⟩, rfl, ⟨List.Pairwise.nil, rfl, rfl, .inl rfl, fun x z => (by cases z), fun i j k z => (by simp at z)⟩, List.nodup_nil, by show 0 * 5 < 7 * 3; decide, by show 0 < 64; decide⟩
/-- setFind, for a tuple -/
theorem find_tup {M : List (Addr × List Key)} {rs ep tb} (T : TSet (MK P w) s.heap a M rs ep tb) {x : Addr} {ks : List Key} (key : IsTupleKey (MK P w) s.heap ks x) (hu : A.units < cLine) {Q : Option Nat → Shared → Prop}
    (q : ∀ r : Option Nat, r.isSome = hasK ks M → Q r s) : wpAny (model P w) A (setFind a (.ref x) (tupleKeyHash (MK P w) ks)) Q E s := by
  obtain ⟨ob, hob, hex, hdat⟩ := T.at_
  unfold setFind setFindIn
  refine wpAny_bind (wpAny_setState_of hob hdat T.fit ?_)
  dsimp only
  refine wp_if_neg (by simp [byScan, Value.scannable]) ?_
  try refine wpAny_bind (wpAny_pure ?_)
  refine wpAny_bind (look tame_mix T key hu (fun hin r hr => ?_) fun N hin _ _ => ?_)
  · exact wpAny_pure (q r (by rw [hr rfl, hasK_iff.mpr hin]))
  · exact wpAny_pure (q none (by rw [hasK_f hin]; rfl))
/-- k in s, k not in s -/
theorem in_tup {M : List (Addr × List Key)} (T : TS0 P w a M s.heap) (km : ∀ z ∈ M, IsTupleKey (MK P w) s.heap z.2 z.1) {x : Addr} {ks : List Key} (key : IsTupleKey (MK P w) s.heap ks x) (hu : A.units + 3 < cLine) {Q : Value → Shared → Prop} (neg : Bool)
    (q : ∀ tk, Q (.bool (if neg then !hasK ks M else hasK ks M)) { s with toks := tk }) : wpAny (model P w) A (compareOp (if neg then .NotIn else .In) (.ref x) (.ref a)) Q E s := by
  have core : ∀ Q' : Bool → Shared → Prop, (∀ tk, Q' (hasK ks M) { s with toks := tk }) → wpAny (model P w) A (contains (.ref a) (.ref x)) Q' E s := by
    intro Q' q'
    unfold contains
    try with_reducible refine wpAny_holding ?_
    refine wpAny_bind (wpAny_specialOf T.ty F.slot_set_contains.lookup ?_)
    show wpAny _ _ (if (some (Value.builtin "set.__contains__") == some Value.none) = true then _ else _) _ E s
    rw [if_neg (by rw [beq_builtin_none]; exact Bool.false_ne_true)]
    refine wpAny_bind (wpAny_callSpecialUnlessNone?_slot (name := Str.ofString "__contains__") T.ty F.slot_set_contains (wpAny_call_entry F.slot_set_contains T.ty entry_set_contains ?_ (F.args_set_contains_2 _ _)))
    unfold Builtin.«frozenset.__contains__» Builtin.Frozenset.oneOther
    simp only [List.isEmpty_nil, bind_assoc]
    unfold Builtin.Frozenset.addrOf Builtin.Frozenset.withSetAsKey setContains
    refine wpAny_bind (wpAny_pure ?_)
    try dsimp only
    refine wpAny_bind (wpAny_pure ?_)
    try dsimp only
    refine wpAny_bind (wpAny_tryCatch (wpAny_holding ?_))
    refine wpAny_bind (wpAny_pyHash_tuple (by show _ < cLine; first | omega | (simp; omega)) key ?_)
    obtain ⟨rs, ep, tb, TT⟩ := T.full km
    refine wpAny_bind (find_tup (s := { s with toks := s.toks + (ks.length + 1) }) TT key (by show _ < cLine; first | omega | (simp; omega)) fun r hr => ?_)
    refine wpAny_pure ?_
    show wpAny _ _ (ret (Value.bool r.isSome)) _ _ _
    rw [hr]
    exact wpAny_pure ⟨_, rfl, wpAny_truthy_bool (q' _)⟩
  cases neg with
  | false =>
    show wpAny _ _ (do return .bool (← contains (.ref a) (.ref x))) Q E s
    exact wpAny_bind (core _ fun tk => wpAny_pure (q tk))
  | true =>
    show wpAny _ _ (do return .bool (!(← contains (.ref a) (.ref x)))) Q E s
    exact wpAny_bind (core _ fun tk => wpAny_pure (q tk))
theorem add_tup {M : List (Addr × List Key)} (T : TS0 P w a M s.heap) (km : ∀ z ∈ M, IsTupleKey (MK P w) s.heap z.2 z.1) {x : Addr} {ks : List Key} (key : IsTupleKey (MK P w) s.heap ks x) (hu : A.units + 3 < cLine) (few : M.length + 1 < 64) {Q : Value → Shared → Prop}
    (q : ∀ g' tk M', Heap.SameBut a s.heap g' → TS0 P w a M' g' → (ks ∈ M.map (·.2) → M' = M) → (ks ∉ M.map (·.2) → M'.Perm ((x, ks) :: M)) → Q .none { s with heap := g', toks := tk }) : wpAny (model P w) A (call (.builtin "set.add") [.ref a, .ref x]) Q E s := by
  refine wpAny_call_entry F.slot_set_add T.ty F.entry_set_add ?_ (F.args_set_add_2 _ _)
  unfold Builtin.«set.add» Builtin.Frozenset.oneOther
  simp only [List.isEmpty_nil, bind_assoc]
  unfold Builtin.Frozenset.addrOf setAdd
  refine wpAny_bind (wpAny_pure ?_)
  try dsimp only
  refine wpAny_bind (wpAny_pure ?_)
  try dsimp only
  refine wpAny_bind (wpAny_holding ?_)
  refine wpAny_bind (wpAny_pyHash_tuple (by show _ < cLine; first | omega | (simp; omega)) key ?_)
  obtain ⟨rs, ep, tb, TT⟩ := T.full km
  refine put_in (s := { s with toks := s.toks + (ks.length + 1) }) tame_mix TT key (by show _ < cLine; first | omega | (simp; omega)) few fun b g' M' rs' ep' tb' sb T' h1 h2 => ?_
  show wpAny _ _ (ret Value.none) _ _ _
  exact wpAny_pure ⟨_, rfl, q g' _ M' sb T'.ts0 h1 h2⟩
end
section
variable {X : Cx}
theorem items_mix {P : Program} {w : World} : ∀ {ks : List Key} {us : List Value}, Vals (ks.map kV) us → ItemsAre (MK P w) ks us
  | [], _, .nil => .nil
  | _ :: _, _, .cons r t => .cons (kV_is r) (items_mix t)
theorem key_at {pins : List (Addr × Obj)} {σ : L2.St} {H : Hp} {s : Shared} {b : Addr} {ks : List Key} (I : Inv X pins σ H s) (h : SqT X.K H b (ks.map kV)) : IsTupleKey (MK X.prog X.w) s.heap ks b := by
  obtain ⟨its, r, ⟨o, ho, hc, n, hd⟩, _⟩ := I.tuple h
  exact ⟨o, its.toArray, n, ho, hc, hd, by simpa using items_mix r⟩
/-- set(), for tuples -/
def rSet0T (P : Program) (w : World) : List V → Hp → VK → Prop := fun xs H Q => xs = [] ∧ ∀ p, H p = none → Q (.ref p) (upd H p (.ext (TS0 P w p [])))
theorem cr_set0T : CallR X (.type "set") (rSet0T X.prog X.w) := by
  intro pins s σ H xs us Q I r ⟨ex, q⟩
  subst ex
  cases r
  refine setR_new fun _ => ?_
  exact ⟨.ref _, upd H s.heap.objs.size (.ext (TS0 X.prog X.w s.heap.objs.size [])), I.laid (t' := s.toks) (fun b u e => Heap.get?_push_of_some _ e) (Nat.le_refl _) (ts0_ok (ts0_new (Heap.get?_push_size _ rfl))), rfl, q _ (I.hok.fresh (Nat.le_refl _))⟩
def rAddT (K : PySem.W.Frag) (P : Program) (w : World) : V → List V → Hp → VK → Prop := fun x xs H Q => ∃ (a b : Addr) (ks : List Key) (M : List (Addr × List Key)), x = .ref a ∧ xs = [.ref b] ∧ H a = some (.ext (TS0 P w a M)) ∧ SqT K H b (ks.map kV) ∧ (∀ z ∈ M, SqT K H z.1 (z.2.map kV)) ∧ M.length + 1 < 64 ∧
  ∀ M', (ks ∈ M.map (·.2) → M' = M) → (ks ∉ M.map (·.2) → M'.Perm ((b, ks) :: M)) → Q .non (upd H a (.ext (TS0 P w a M')))
theorem mt_addT {k : Nat} (hr : Room k X.A) : MtR X "set.add" (rAddT X.K X.prog X.w) := by
  intro pins s σ H x xs v us Q I rx rxs ⟨a, b, ks, M, ex, ey, ha, hb, hM, few, q⟩
  subst ex ey
  cases rx
  obtain ⟨u, rfl, ru⟩ := rxs.one
  cases ru
  have T : TS0 X.prog X.w a M s.heap := (I.hok a _ ha).1
  refine add_tup T (fun z hz => key_at I (hM z hz)) (key_at I hb) (by have := hr.units; omega) few fun g' tk M' sb T' h1 h2 => ?_
  have he : ∃ u, g'.get? a = some u := by
    obtain ⟨_, _, _, ⟨ob, z1, _⟩, _⟩ := T'
    exact ⟨ob, z1⟩
  exact ⟨.non, _, I.write (e := a) (t' := tk) (by rw [ha]; trivial) (.inl rfl) (fun b u hb hu => (sb.2 b hb).trans hu) he (ts0_ok T'), rfl, q M' h1 h2⟩
def rInT (K : PySem.W.Frag) (P : Program) (w : World) (neg : Bool) : R2 := fun x y H Q => ∃ (a b : Addr) (ks : List Key) (M : List (Addr × List Key)), y = .ref a ∧ x = .ref b ∧ H a = some (.ext (TS0 P w a M)) ∧ SqT K H b (ks.map kV) ∧ (∀ z ∈ M, SqT K H z.1 (z.2.map kV)) ∧
  Q (.bl (if neg then !hasK ks M else hasK ks M)) H
theorem op_inT {k : Nat} (hr : Room k X.A) : OpR X (compareOp .In) (rInT X.K X.prog X.w false) := by
  intro pins s σ H x y v u Q I rx ry ⟨a, b, ks, M, ex, ey, ha, hb, hM, q⟩
  subst ex ey
  cases rx; cases ry
  have T : TS0 X.prog X.w a M s.heap := (I.hok a _ ha).1
  exact in_tup T (fun z hz => key_at I (hM z hz)) (key_at I hb) (by have := hr.units; omega) false fun tk => ⟨.bl _, H, I.tok tk, rfl, q⟩
theorem op_notInT {k : Nat} (hr : Room k X.A) : OpR X (compareOp .NotIn) (rInT X.K X.prog X.w true) := by
  intro pins s σ H x y v u Q I rx ry ⟨a, b, ks, M, ex, ey, ha, hb, hM, q⟩
  subst ex ey
  cases rx; cases ry
  have T : TS0 X.prog X.w a M s.heap := (I.hok a _ ha).1
  exact in_tup T (fun z hz => key_at I (hM z hz)) (key_at I hb) (by have := hr.units; omega) true fun tk => ⟨.bl _, H, I.tok tk, rfl, q⟩
end
end TM

namespace DL
open PySem PySem.Spec PyProof.Rows L2 GA GxR TM
section
variable {X : Cx} {a b e o : Expr} {ta tb te to : DTr} {es : List Expr} {t : DTA} {pos apos : Pos}
/-! ### tuples: parts, sums -/
def rdSlA (x : D) (lo hi : Option Int) (m : M) (Q : DK) : Prop := match x with
  | .tup ds => Q (.tup (cutL ds lo hi)) m
  | _ => False
def dSlA (te : DTr) (tl th : DTO) : DTr := fun δ m Q => te δ m fun x m1 => tl δ m1 fun l m2 => th δ m2 fun h m3 => rdSlA x l h m3 Q
theorem cut_whole {α : Type} {xs : List α} {lo hi : Option Int} (h : HT.sIx xs.length 0 lo = 0 ∧ HT.sIx xs.length xs.length hi = xs.length) : cutL xs lo hi = xs := by
  unfold cutL
  rw [h.1, h.2]; simp
theorem de_sliceA {lo hi : Option Expr} {tl th : DTO} {p2 : Pos} (he : DE X e te) (hl : DPo X lo tl) (hu : DPo X hi th) : DE X (.Subscript e (.Slice lo hi none p2) pos) (dSlA te tl th) := by
  refine (pe_slice sl_tupA he hl hu).imp fun σ H Q ⟨δ, m, Q', rs, rh, q, f⟩ => ?_
  refine ⟨δ, m, _, rs, rh, q, fun x m1 q1 v H1 t1 r1 rh1 => ⟨δ, m1, _, rs.mono t1, rh1, q1, fun l m2 q2 H2 t2 rh2 => ⟨δ, m2, _, rs.mono (t1.trans t2), rh2, q2, fun h m3 q3 H3 t3 rh3 => ?_⟩⟩⟩
  have r3 := Rep.mono (t2.trans t3) _ _ r1
  have f3 := f.mono ((t1.trans t2).trans t3)
  cases x <;> first | exact q3.elim | skip
  cases r3 with
  | tup e rr =>
    refine ⟨_, _, rfl, .inl (.inl e), fun hw => ?_, fun hw p hp => f3 _ m3 q3 _ _ (Ts.new hp) (.tup upd_same (Reps.mono (Ts.new hp) _ _ (cut_rep l h rr))) (rh3.new hp)⟩
    rw [← rr.length] at hw
    refine f3 _ m3 q3 _ H3 (Ts.refl _ _) (.tup e ?_) rh3
    rw [cut_whole hw]; exact rr
def rdAddA : DR2 := fun x y m Q => match x, y with
  | .tup xs, .tup ys => xs.length + ys.length ≤ sizeLine ∧ Q (.tup (xs ++ ys)) m
  | _, _ => False
theorem de_addA (ha : DE X a ta) (hb : DE X b tb) : DE X (.BinOp a .Add b pos) (dOp rdAddA ta tb) := by
  refine (pe_op op_catA ha hb).imp (up_op ?_)
  intro x y vx vy H m Q' Q rx ry rh h f
  cases x <;> cases y <;> first | exact h.elim | skip
  rename_i xs ys
  cases rx with
  | tup h1 r1 =>
    cases ry with
    | tup h2 r2 =>
      refine ⟨_, _, _, _, rfl, rfl, .inl (.inl h1), .inl (.inl h2), by rw [← r1.length, ← r2.length]; exact h.1, fun z => ?_, fun _ z => ?_, fun _ _ p hp => f _ m h.2 _ _ (Ts.new hp) (.tup upd_same (Reps.mono (Ts.new hp) _ _ (r1.append r2))) (rh.new hp)⟩
      · subst z
        cases r1
        exact f _ m h.2 _ H (Ts.refl _ _) (.tup h2 r2) rh
      · subst z
        cases r2
        have q := h.2
        rw [List.append_nil] at q
        exact f _ m q _ H (Ts.refl _ _) (.tup h1 r1) rh
/-! ### x in xs, of data -/
def rdInD (neg : Bool) : DR2 := fun x y m Q => ∃ a ds, y = .ref a ∧ m.mu a = some (.lst ds) ∧ D.pures ds = true ∧ x.pure = true ∧ SeqAt.shaped x.py = true ∧ SeqAt.shaped (.list (D.pys ds)) = true ∧ Q (.bl (if neg then !(D.pys ds).any fun z => PyData.eqv z x.py else (D.pys ds).any fun z => PyData.eqv z x.py)) m
theorem dc_inD {k : Nat} (hr : Room k X.A) : DC X .In (rdInD false) := ⟨_, op_inD (by have := hr.un; omega), fun x y vx vy H m Q' Q rx ry rh ⟨a, ds, ey, h, p1, p2, s1, s2, q⟩ f => by
  subst ey; cases ry
  obtain ⟨xs, e, rr⟩ := rh.obj _ _ h
  exact ⟨_, _, Rep.dp _ _ p2 rx, .lst (SqL.of e) (Reps.dp _ _ p1 rr), s1, s2, f _ m q _ H (Ts.refl _ _) (.bl _) rh⟩⟩
theorem dc_notInD {k : Nat} (hr : Room k X.A) : DC X .NotIn (rdInD true) := ⟨_, op_notInD (by have := hr.un; omega), fun x y vx vy H m Q' Q rx ry rh ⟨a, ds, ey, h, p1, p2, s1, s2, q⟩ f => by
  subst ey; cases ry
  obtain ⟨xs, e, rr⟩ := rh.obj _ _ h
  exact ⟨_, _, Rep.dp _ _ p2 rx, .lst (SqL.of e) (Reps.dp _ _ p1 rr), s1, s2, f _ m q _ H (Ts.refl _ _) (.bl _) rh⟩⟩

/-! ### sets -/
def hasS (k : Key) (ks : List Key) : Bool := ks.any fun z => decide (z = k)
theorem hasS_iff {k : Key} {ks : List Key} : hasS k ks = true ↔ k ∈ ks := by simp [hasS]
theorem hasS_cons (j k : Key) (ks : List Key) : hasS j (k :: ks) = (hasS j ks || decide (j = k)) := by
  have e : decide (k = j) = decide (j = k) := by
    by_cases z : j = k
    · subst z; rfl
    · rw [decide_eq_false z, decide_eq_false fun y => z y.symm]
  show (decide (k = j) || hasS j ks) = _
  rw [e, Bool.or_comm]
def SetS (P : Program) (w : World) (m : M) (a : Addr) (ks : List Key) : Prop := ∃ n, m.mu a = some (.ext (fun h => h.SetOf (mixKind P w) a (fun j => hasS j ks) n) []) ∧ n ≤ ks.length
def SetT (P : Program) (w : World) (m : M) (a : Addr) (ks : List (List Key)) : Prop := ∃ N : List (Addr × List Key), m.mu a = some (.ext (TS0 P w a N) (N.map fun z => (z.1, D.tup (z.2.map kD)))) ∧ (∀ k, k ∈ N.map (·.2) ↔ k ∈ ks) ∧ N.length ≤ ks.length
/-- set(): of texts and ints, of tuples of them -/
def dSet0S (P : Program) (w : World) : DTr := fun _ m Q => ∀ p m', m.mu p = none → (∃ o, m' = m.set p o) → SetS P w m' p [] → Q (.ref p) m'
def dSet0T (P : Program) (w : World) : DTr := fun _ m Q => ∀ p m', m.mu p = none → (∃ o, m' = m.set p o) → SetT P w m' p [] → Q (.ref p) m'
theorem de_set0S {p : Pos} (hg : Gl X "set") (hm : X.mg "set" = none) : DE X (.Call (.Name "set" p) [] [] pos) (dSet0S X.prog X.w) := (pe_callTy0 cr_set0K hg hm (by decide +kernel)).imp fun σ H Q ⟨δ, m, Q', rs, rh, q, f⟩ => ⟨rfl, fun p hp => by
  have e : (fun _ : Key => false) = fun j => hasS j [] := rfl
  exact f _ _ (q p _ (rh.fresh hp) ⟨_, rfl⟩ ⟨0, M.set_same, Nat.le_refl _⟩) _ _ (Ts.new hp) (.ref p) (rh.newO hp ⟨by rw [upd_same, ← e]; rfl, fun t z => nomatch z⟩)⟩
theorem de_set0T {p : Pos} (hg : Gl X "set") (hm : X.mg "set" = none) : DE X (.Call (.Name "set" p) [] [] pos) (dSet0T X.prog X.w) := (pe_callTy0 cr_set0T hg hm (by decide +kernel)).imp fun σ H Q ⟨δ, m, Q', rs, rh, q, f⟩ => ⟨rfl, fun p hp => by
  exact f _ _ (q p _ (rh.fresh hp) ⟨_, rfl⟩ ⟨[], M.set_same, fun k => Iff.rfl, Nat.le_refl _⟩) _ _ (Ts.new hp) (.ref p) (rh.newO hp ⟨by rw [upd_same], fun t z => nomatch z⟩)⟩
/-- membership -/
def rdInS' (P : Program) (w : World) (neg : Bool) : DR2 := fun x y m Q => ∃ a ks k, y = .ref a ∧ x = kD k ∧ SetS P w m a ks ∧ Q (.bl (if neg then !hasS k ks else hasS k ks)) m
def hasL (k : List Key) (ks : List (List Key)) : Bool := ks.any fun z => decide (z = k)
theorem hasL_iff {k : List Key} {ks : List (List Key)} : hasL k ks = true ↔ k ∈ ks := by simp [hasL]
def rdInT (P : Program) (w : World) (neg : Bool) : DR2 := fun x y m Q => ∃ a ks k, y = .ref a ∧ x = .tup (k.map kD) ∧ SetT P w m a ks ∧ Q (.bl (if neg then !hasL k ks else hasL k ks)) m
theorem dc_inSS : DC X .In (rdInS' X.prog X.w false) := ⟨_, or_sinK, fun x y vx vy H m Q' Q rx ry rh ⟨a, ks, k, ey, ex, ⟨n, h, _⟩, q⟩ f => by
  subst ey ex; cases ry
  obtain ⟨e, _⟩ := rh.obj _ _ h
  exact ⟨k, _, _, n, kD_rep rx, rfl, e, f _ m q _ H (Ts.refl _ _) (.bl _) rh⟩⟩
theorem tup_sq {K : PySem.W.Frag} {H : Hp} {k : List Key} {v : V} (r : Rep K H (.tup (k.map kD)) v) : ∃ b, v = .ref b ∧ SqT K H b (k.map kV) := by
  cases r with
  | tup e rr =>
    have := kDs_rep rr
    subst this
    exact ⟨_, rfl, .inl (.inl e)⟩
theorem SetT.of {K : PySem.W.Frag} {H : Hp} {P : Program} {w : World} {m : M} {a : Addr} {ks : List (List Key)} (h : SetT P w m a ks) (rh : RelH K H m) : ∃ N : List (Addr × List Key), m.mu a = some (.ext (TS0 P w a N) (N.map fun z => (z.1, D.tup (z.2.map kD)))) ∧ H a = some (.ext (TS0 P w a N)) ∧ (∀ z ∈ N, SqT K H z.1 (z.2.map kV)) ∧ (∀ k, hasK k N = hasL k ks) ∧ (∀ k, k ∈ N.map (·.2) ↔ k ∈ ks) ∧ N.length ≤ ks.length := by
  obtain ⟨N, h1, h2, h3⟩ := h
  obtain ⟨e, r⟩ := rh.obj _ _ h1
  refine ⟨N, h1, e, fun z hz => ?_, fun k => ?_, h2, h3⟩
  · obtain ⟨b, eb, sq⟩ := tup_sq (r (z.1, D.tup (z.2.map kD)) (List.mem_map.mpr ⟨z, hz, rfl⟩))
    cases eb; exact sq
  · rw [Bool.eq_iff_iff, hasK_iff, hasL_iff]; exact h2 k
theorem dc_inT {k : Nat} (hr : Room k X.A) : DC X .In (rdInT X.prog X.w false) := ⟨_, op_inT hr, fun x y vx vy H m Q' Q rx ry rh ⟨a, ks, k, ey, ex, hs, q⟩ f => by
  subst ey ex; cases ry
  obtain ⟨N, _, e, hM, hk, _⟩ := hs.of rh
  obtain ⟨b, rfl, sq⟩ := tup_sq rx
  refine ⟨_, b, k, N, rfl, rfl, e, sq, hM, ?_⟩
  rw [hk]
  exact f _ m q _ H (Ts.refl _ _) (.bl _) rh⟩
/-- adding -/
def dSAddS (P : Program) (w : World) (to te : DTr) : DTr := fun δ m Q => to δ m fun x m1 => ∃ a ks0, x = .ref a ∧ SetS P w m1 a ks0 ∧ te δ m1 fun y m2 => ∃ ks k, y = kD k ∧ SetS P w m2 a ks ∧ ks.length < 4000 ∧ ∀ m', (∃ o, m' = m2.set a o) → SetS P w m' a (k :: ks) → Q .non m'
theorem de_saddS (ho : DE X o to) (he : DE X e te)
    (hbase : attributeBase o "add" X.env (eval o X.env) = eval o X.env := by rfl)
    (hfew : ((backTo pos (starEach [e] X.env)).all (fun x => !x.1) && (backToKw pos (keywordEach [] X.env)).all (fun x => x.1.isSome)
      && decide ([e].length + ([] : List Keyword).length + (if ([] : List Keyword).isEmpty then 0 else 1) < 30)) = true := by rfl)
    (hline : (apos.endLine == pos.line) = true := by rfl) (hs : starEach [e] X.env = (false, eval e X.env) :: starEach [] X.env := by rfl) (hplain : (backTo pos (starEach [] X.env)).any (·.1) = false := by rfl) :
    DE X (.Call (.Attribute o "add" apos) [e] [] pos) (dSAddS X.prog X.w to te) := (pe_saddK ho (pa_cons he pa_nil hs) hbase hfew hline hs hplain).imp fun σ H Q ⟨δ, m, Q', rs, rh, q, f⟩ => by
  refine ⟨δ, m, _, rs, rh, q, fun x m1 ⟨a, ks0, ex, ⟨n0, h0, _⟩, q1⟩ v H1 t1 r1 rh1 => ?_⟩
  subst ex; cases r1
  obtain ⟨e0, _⟩ := rh1.obj _ _ h0
  refine ⟨⟨_, _, _, rfl, e0⟩, δ, m1, _, rs.mono t1, rh1, q1, fun y m2 ⟨ks, k, ey, ⟨n, h, hn⟩, hl, q2⟩ u H2 t2 r2 rh2 => ?_⟩
  subst ey
  obtain ⟨e2, _⟩ := rh2.obj _ _ h
  have ku := kD_rep r2
  subst ku
  refine ⟨_, k, _, n, rfl, rfl, e2, by have : scanBound = 4096 := rfl; omega, ?_⟩
  have es : (fun j => hasS j ks || decide (j = k)) = fun j => hasS j (k :: ks) := by
    funext j
    rw [hasS_cons]
  have ef : SetK X.prog X.w a (fun j => hasS j ks || decide (j = k)) (if hasS k ks = true then n else n + 1) = .ext (fun h => h.SetOf (mixKind X.prog X.w) a (fun j => hasS j (k :: ks)) (if hasS k ks = true then n else n + 1)) := by
    unfold SetK; rw [es]
  rw [ef]
  have t3 := rh2.putTS (o := .ext (fun h => h.SetOf (mixKind X.prog X.w) a (fun j => hasS j (k :: ks)) (if hasS k ks = true then n else n + 1))) h
  refine f .non _ (q2 (m2.set a (.ext (fun h => h.SetOf (mixKind X.prog X.w) a (fun j => hasS j (k :: ks)) (if hasS k ks = true then n else n + 1)) [])) ⟨_, rfl⟩ ⟨_, M.set_same, ?_⟩) _ _ ((t1.trans t2).trans t3) .non (rh2.put h ⟨upd_same, fun t z => nomatch z⟩)
  simp only [List.length_cons]; split <;> omega
/-- a method of a set of tuples -/
def tExtM (P : Program) (w : World) (r : V → List V → Hp → VK → Prop) (to : TE) (t : TA) : TE := fun σ H Q => to σ H fun x H1 => (∃ a N, x = V.ref a ∧ H1 a = some (.ext (TS0 P w a N))) ∧ t σ H1 fun xs H2 => r x xs H2 Q
theorem pe_saddT {k : Nat} (hr : Room k X.A) {to : TE} {t : TA} (ho : PE X o to) (ha : PA X (e :: es) t)
    (hbase : attributeBase o "add" X.env (eval o X.env) = eval o X.env := by rfl)
    (hfew : ((backTo pos (starEach (e :: es) X.env)).all (fun x => !x.1) && (backToKw pos (keywordEach [] X.env)).all (fun x => x.1.isSome)
      && decide ((e :: es).length + ([] : List Keyword).length + (if ([] : List Keyword).isEmpty then 0 else 1) < 30)) = true := by rfl)
    (hline : (apos.endLine == pos.line) = true := by rfl) (hs : starEach (e :: es) X.env = (false, eval e X.env) :: starEach es X.env := by rfl) (hplain : (backTo pos (starEach es X.env)).any (·.1) = false := by rfl) :
    PE X (.Call (.Attribute o "add" apos) (e :: es) [] pos) (tExtM X.prog X.w (rAddT X.K X.prog X.w) to t) := ⟨fun pins s σ H Q I h => wpAny_Call_method_late hbase hfew hline rfl (thn (ho.run pins s σ H _ I h) fun v s1 ⟨x, H1, I1, r1, ⟨a, N, ex, hN⟩, q1⟩ => by
  subst ex
  cases r1
  have T : TS0 X.prog X.w a N s1.heap := (I1.hok a _ hN).1
  refine ⟨"set", "set.add", F.plainAttrs_set, F.slot_set_add, F.type_set_add, T.ty, T.nod, ?_⟩
  have hA := ha.run pos pins s1 σ H1 _ I1 q1
  rw [hs] at hA ⊢
  refine Calls.callWith_builtin (show (false || (backTo pos (starEach es X.env)).any (·.1)) = false by rw [hplain]; rfl) (Calls.evalArgs_plain (thn hA fun us s2 ⟨vs, H2, I2, r2, q2⟩ => ?_))
  exact mt_addT hr pins s2 σ H2 (.ref a) vs (.ref a) us Q I2 rfl r2 q2)⟩
def dSAddT (P : Program) (w : World) (to te : DTr) : DTr := fun δ m Q => to δ m fun x m1 => ∃ a ks0, x = .ref a ∧ SetT P w m1 a ks0 ∧ te δ m1 fun y m2 => ∃ ks k, y = .tup (k.map kD) ∧ SetT P w m2 a ks ∧ ks.length < 62 ∧ ∀ m', (∃ o, m' = m2.set a o) → SetT P w m' a (k :: ks) → Q .non m'
theorem de_saddT {k : Nat} (hr : Room k X.A) (ho : DE X o to) (he : DE X e te)
    (hbase : attributeBase o "add" X.env (eval o X.env) = eval o X.env := by rfl)
    (hfew : ((backTo pos (starEach [e] X.env)).all (fun x => !x.1) && (backToKw pos (keywordEach [] X.env)).all (fun x => x.1.isSome)
      && decide ([e].length + ([] : List Keyword).length + (if ([] : List Keyword).isEmpty then 0 else 1) < 30)) = true := by rfl)
    (hline : (apos.endLine == pos.line) = true := by rfl) (hs : starEach [e] X.env = (false, eval e X.env) :: starEach [] X.env := by rfl) (hplain : (backTo pos (starEach [] X.env)).any (·.1) = false := by rfl) :
    DE X (.Call (.Attribute o "add" apos) [e] [] pos) (dSAddT X.prog X.w to te) := (pe_saddT hr ho (pa_cons he pa_nil hs) hbase hfew hline hs hplain).imp fun σ H Q ⟨δ, m, Q', rs, rh, q, f⟩ => by
  refine ⟨δ, m, _, rs, rh, q, fun x m1 ⟨a, ks0, ex, hs0, q1⟩ v H1 t1 r1 rh1 => ?_⟩
  subst ex; cases r1
  obtain ⟨N0, _, e0, _⟩ := hs0.of rh1
  refine ⟨⟨_, _, rfl, e0⟩, δ, m1, _, rs.mono t1, rh1, q1, fun y m2 ⟨ks, k, ey, hS, hl, q2⟩ u H2 t2 r2 rh2 => ?_⟩
  subst ey
  obtain ⟨N, hm, e2, hM, hk, hi, hn⟩ := hS.of rh2
  obtain ⟨b, rfl, sq⟩ := tup_sq r2
  refine ⟨_, b, k, N, rfl, rfl, e2, sq, hM, by omega, fun N' c1 c2 => ?_⟩
  have t3 := rh2.putTS (o := .ext (TS0 X.prog X.w a N')) hm
  have hN' : (∀ j, j ∈ N'.map (·.2) ↔ j ∈ k :: ks) ∧ N'.length ≤ (k :: ks).length ∧ ∀ z ∈ N', z ∈ N ∨ z = (b, k) := by
    by_cases z : k ∈ N.map (·.2)
    · rw [c1 z]
      refine ⟨fun j => ?_, by simp only [List.length_cons]; omega, fun z hz => .inl hz⟩
      rw [hi j, List.mem_cons]
      exact ⟨.inr, fun y => y.elim (fun y => by rw [y]; exact (hi k).mp z) id⟩
    · have pm := c2 z
      refine ⟨fun j => ?_, by rw [pm.length_eq]; simp only [List.length_cons]; omega, fun z hz => ?_⟩
      · rw [(pm.map (·.2)).mem_iff, List.map_cons, List.mem_cons, List.mem_cons, hi j]
      · rcases List.mem_cons.mp (pm.mem_iff.mp hz) with y | y
        · exact .inr y
        · exact .inl y
  have rb : Rep X.K H2 (.tup (k.map kD)) (.ref b) := r2
  refine f .non _ (q2 (m2.set a (.ext (TS0 X.prog X.w a N') (N'.map fun z => (z.1, D.tup (z.2.map kD))))) ⟨_, rfl⟩ ⟨N', M.set_same, hN'.1, hN'.2.1⟩) _ _ ((t1.trans t2).trans t3) .non (rh2.put hm ⟨upd_same, fun t ht => ?_⟩)
  obtain ⟨z, hz, rfl⟩ := List.mem_map.mp ht
  rcases hN'.2.2 z hz with hz | rfl
  · exact Rep.mono t3 _ _ ((rh2.obj _ _ hm).2 (z.1, D.tup (z.2.map kD)) (List.mem_map.mpr ⟨z, hz, rfl⟩))
  · exact Rep.mono t3 _ _ rb
end
end DL

namespace DL
open PySem PySem.Spec PyProof.Rows L2 GA GxR TM
/-! ### the truth of a tuple, of a text, of a list -/
def truD (m : M) (x : D) (k : Bool) : Prop := match x with
  | .tup ds => k = !ds.isEmpty
  | .bl b => k = b
  | .non => k = false
  | .str y => y.length ≤ sizeLine ∧ k = !decide (y.length = 0)
  | .ref a => ∃ ds, m.mu a = some (.lst ds) ∧ k = !ds.isEmpty
  | _ => False
theorem isEmpty_rep {K : PySem.W.Frag} {H : Hp} {ds : List D} {vs : List V} (r : Reps K H ds vs) : (!ds.isEmpty) = !vs.isEmpty := by cases r <;> rfl
def dTru (te : DTr) : DTT := fun δ m Q => te δ m fun x m1 => ∃ k, truD m1 x k ∧ Q k m1
theorem dt_truth {X : Cx} {e : Expr} {te : DTr} (he : DE X e te) (hw : ∀ whole, isTrue e X.env whole = (do let v ← whole; standAt e.pos; holding [v] (truthy v)) := by intro _; rfl) : DTst X e (dTru te) := (pt_truth he hw).imp fun σ H Q ⟨δ, m, Q', rs, rh, q, f⟩ =>
  ⟨δ, m, _, rs, rh, q, fun x m1 ⟨k, hk, q1⟩ v H1 t1 r1 rh1 => ⟨k, by
    cases r1 with
    | tup e rr => rw [show k = _ from hk, isEmpty_rep rr]; exact .inr (.inl ⟨_, .inl (.inl e), rfl⟩)
    | bl b => exact hk
    | non => exact hk
    | str y =>
      refine ⟨hk.1, hk.2.trans ?_⟩
      by_cases z : y.length = 0
      · rw [z]; rfl
      · have : ((y.length : Int) != 0) = true := by simpa using z
        rw [this, decide_eq_false z]; rfl
    | ref a =>
      obtain ⟨ds, e, hk⟩ := hk
      obtain ⟨xs, e1, rr⟩ := rh1.obj _ _ e
      rw [hk, isEmpty_rep rr]
      exact .inl ⟨xs, SqL.of e1, rfl⟩
    | _ => exact hk.elim, f k m1 q1 H1 t1 rh1⟩⟩
/-! ### written data: what the top's tables hold -/
mutual
def repB (K : PySem.W.Frag) : D → Value → Bool
  | .non, .none => true
  | .bl b, .bool c => b == c
  | .int i, .int j _ => decide (i = j)
  | .str x, .str y _ => decide (x = y)
  | .ktup ds, .ref a => match K.lookup a with
    | some ⟨.type c, _, .seq its _, _⟩ => decide (c = "tuple") && (decide (its.size ≤ sizeLine) && repsB K ds its.toList)
    | _ => false
  | _, _ => false
def repsB (K : PySem.W.Frag) : List D → List Value → Bool
  | [], [] => true
  | d :: ds, v :: vs => repB K d v && repsB K ds vs
  | _, _ => false
end
mutual
theorem repB_ok {K : PySem.W.Frag} : ∀ (d : D) (u : Value), repB K d u = true → ∃ v, RelV v u ∧ ∀ H, Rep K H d v
  | .non, u, h => by
    cases u <;> first | exact ⟨.non, rfl, fun _ => .non⟩ | (simp [repB] at h)
  | .bl b, u, h => by
    cases u with
    | bool c =>
      have e : b = c := by simpa [repB] using h
      subst e
      exact ⟨.bl b, rfl, fun _ => .bl b⟩
    | _ => simp [repB] at h
  | .int i, u, h => by
    cases u with
    | int j t =>
      have e : i = j := by simpa [repB] using h
      subst e
      exact ⟨.int i, ⟨t, rfl⟩, fun _ => .int i⟩
    | _ => simp [repB] at h
  | .str i, u, h => by
    cases u with
    | str j t =>
      have e : i = j := by simpa [repB] using h
      subst e
      exact ⟨.str i, ⟨t, rfl⟩, fun _ => .str i⟩
    | _ => simp [repB] at h
  | .ref a, u, h => by cases u <;> simp [repB] at h
  | .tup ds, u, h => by cases u <;> simp [repB] at h
  | .ktup ds, u, h => by
    cases u with
    | ref a =>
      unfold repB at h
      split at h
      · rename_i c od its n sl q
        simp only [Bool.and_eq_true, decide_eq_true_eq] at h
        obtain ⟨vs, r1, r2⟩ := repsB_ok ds its.toList h.2.2
        exact ⟨.ref a, rfl, fun H => .ktup (.inr ⟨_, its, n, q, congrArg Value.type h.1, rfl, h.2.1, r1⟩) (r2 H)⟩
      · cases h
    | _ => simp [repB] at h
theorem repsB_ok {K : PySem.W.Frag} : ∀ (ds : List D) (us : List Value), repsB K ds us = true → ∃ vs, Vals vs us ∧ ∀ H, Reps K H ds vs
  | [], us, h => by
    cases us with
    | nil => exact ⟨[], .nil, fun _ => .nil⟩
    | cons _ _ => simp [repsB] at h
  | d :: ds, us, h => by
    cases us with
    | nil => simp [repsB] at h
    | cons u us =>
      simp only [repsB, Bool.and_eq_true] at h
      obtain ⟨v, r1, r2⟩ := repB_ok d u h.1
      obtain ⟨vs, r3, r4⟩ := repsB_ok ds us h.2
      exact ⟨v :: vs, .cons r1 r3, fun H => .cons (r2 H) (r4 H)⟩
end
def wdB (K : PySem.W.Frag) (a : Addr) (kvs : List (Str × D)) : Bool := kvs.all fun q => match PySem.W.nsIn K a q.1 with
  | some (some u) => repB K q.2 u
  | _ => false
theorem wdict_of {K : PySem.W.Frag} {w : World} {a : Addr} {kvs : List (Str × D)} (h : wdB K a kvs = true) (hd : ∃ es n, KDict K w a es n) : WDict K w a kvs := ⟨hd, fun z v hm => by
  have h2 := List.all_eq_true.mp h (z, v) hm
  dsimp only at h2
  split at h2
  · rename_i u q
    obtain ⟨v0, r1, r2⟩ := repB_ok _ _ h2
    exact ⟨u, v0, q, r1, r2⟩
  · cases h2⟩
end DL

namespace PL
open PySem PySem.Spec PyProof.Rows L2 GA GxR DL
/-! ### what the program's tests tell, over trees -/
abbrev lettersS : Str := "abcdefghijklmnopqrstuvwxyz"
abbrev lettersDS : Str := "abcdefghijklmnopqrstuvwxyz0123456789"
def nameS (s : Str) : Bool := decide (1 ≤ s.length) && decide (s.length ≤ 8) && (match s.cps.toList with | c :: _ => decide (c ∈ lettersS.cps.toList) | [] => false) && s.cps.toList.all fun c => decide (c ∈ lettersDS.cps.toList)
def mInt : D → Bool
  | .int _ => true | _ => false
def mTupN (d : D) (n : Int) : Bool := match d with
  | .tup xs => decide ((xs.length : Int) = n) | _ => false
def mName : D → Bool
  | .str s => nameS s | _ => false
def mNum : D → Bool
  | .int i => decide (0 ≤ i) && decide (i ≤ 3) | _ => false
def mEnd : D → Bool
  | .tup [a, b] => mName a && mNum b | _ => false
def mStep : D → Bool
  | .tup [a, b, c] => (mName a && mNum b) && mNum c | _ => false
def kindS (s : Str) : Bool := s == "plain" || s == "points" || s == "crossing"
def mKind : D → Bool
  | .str s => kindS s | _ => false
def mStretch : D → Bool
  | .tup [a, b] => mName a && mKind b | _ => false
def mJoint : D → Bool
  | .tup [a, b] => mEnd a && mEnd b | _ => false
def mGate : D → Bool
  | .tup [a, b] => mName a && mEnd b | _ => false
def mOverlap : D → Bool
  | .tup xs => xs.all mStep && decide (xs.length ≤ 1) | _ => false
def mSignal : D → Bool
  | .tup [a, b, c] => (mName a && mEnd b) && mOverlap c | _ => false
def mAll (g : D → Bool) : D → Bool
  | .tup xs => xs.all g | _ => false
def mPlan : D → Bool
  | .tup [a, b, c, d] => mAll mStretch a && mAll mJoint b && (mAll mGate c && mAll mSignal d) | _ => false
/- values made of None, bools, ints, texts and tuples -/
mutual
def ty : D → Prop
  | .ref _ => False
  | .ktup _ => False
  | .tup ds => tys ds
  | .str s => s.length ≤ sizeLine
  | _ => True
def tys : List D → Prop
  | [] => True
  | d :: ds => ty d ∧ tys ds
end
theorem tys_mem : ∀ {ds : List D} {d : D}, tys ds → d ∈ ds → ty d
  | _ :: _, _, h, .head _ => h.1
  | _ :: _, _, h, .tail _ t => tys_mem h.2 t
/-- .. whose second thing is flat, if it is a pair -/
def tyS (d : D) : Prop := ty d ∧ ∀ a b, d = .tup [a, b] → flatD b = true
/-- .. of the form of a plan's: whose first part's pairs have flat second things -/
def tyP (d : D) : Prop := ty d ∧ ∀ a b c e, d = .tup [a, b, c, e] → ∀ xs, a = .tup xs → ∀ x ∈ xs, ∀ u v, x = .tup [u, v] → flatD v = true
def sp1 (Ok : M → Prop) (dom : D → Prop) (g : D → Bool) : DSp := fun ds m Q => ∃ d, ds = [d] ∧ dom d ∧ Ok m ∧ Q (.bl (g d)) m
theorem kit_ii : kitB "int" "int" = some true := by decide +kernel
theorem kit_bi : kitB "bool" "int" = some true := by decide +kernel
theorem kit_si : kitB "str" "int" = some false := by decide +kernel
theorem kit_ni : kitB "NoneType" "int" = some false := by decide +kernel
theorem kit_ti : kitB "tuple" "int" = some false := by decide +kernel
theorem kit_ib : kitB "int" "bool" = some false := by decide +kernel
theorem kit_bb : kitB "bool" "bool" = some true := by decide +kernel
theorem kit_it : kitB "int" "tuple" = some false := by decide +kernel
theorem kit_bt : kitB "bool" "tuple" = some false := by decide +kernel
theorem kit_st : kitB "str" "tuple" = some false := by decide +kernel
theorem kit_nt : kitB "NoneType" "tuple" = some false := by decide +kernel
theorem kit_tt : kitB "tuple" "tuple" = some true := by decide +kernel
theorem kit_is : kitB "int" "str" = some false := by decide +kernel
theorem kit_bs : kitB "bool" "str" = some false := by decide +kernel
theorem kit_ss : kitB "str" "str" = some true := by decide +kernel
theorem kit_ns : kitB "NoneType" "str" = some false := by decide +kernel
theorem kit_ts : kitB "tuple" "str" = some false := by decide +kernel
/-- isinstance of a typed value -/
def isiD (T : String) : D → Bool
  | .non => false
  | .bl _ => T == "bool" || T == "int"
  | .int _ => T == "int"
  | .str _ => T == "str"
  | .tup _ => T == "tuple"
  | _ => false
theorem dIsi_int {te : DTr} {δ : Sl} {m : M} {Q : DK} {d : D} (h : ∀ R : DK, R d m → te δ m R) (hd : ty d) (q : Q (.bl (isiD "int" d)) m) : dIsi "int" te δ m Q := by
  refine h _ ?_
  cases d with
  | non => exact ⟨_, _, rfl, kit_ni, q⟩
  | bl b => exact ⟨_, _, rfl, kit_bi, q⟩
  | int b => exact ⟨_, _, rfl, kit_ii, q⟩
  | str b => exact ⟨_, _, rfl, kit_si, q⟩
  | tup b => exact ⟨_, _, rfl, kit_ti, q⟩
  | ref a => exact hd.elim
  | ktup a => exact hd.elim
theorem dIsi_bool {te : DTr} {δ : Sl} {m : M} {Q : DK} {i : Int} (h : ∀ R : DK, R (.int i) m → te δ m R) (q : Q (.bl false) m) : dIsi "bool" te δ m Q := h _ ⟨_, _, rfl, kit_ib, q⟩
theorem dIsi_boolb {te : DTr} {δ : Sl} {m : M} {Q : DK} {i : Bool} (h : ∀ R : DK, R (.bl i) m → te δ m R) (q : Q (.bl true) m) : dIsi "bool" te δ m Q := h _ ⟨_, _, rfl, kit_bb, q⟩
theorem dIsi_tup {te : DTr} {δ : Sl} {m : M} {Q : DK} {d : D} (h : ∀ R : DK, R d m → te δ m R) (hd : ty d) (q : Q (.bl (isiD "tuple" d)) m) : dIsi "tuple" te δ m Q := by
  refine h _ ?_
  cases d with
  | non => exact ⟨_, _, rfl, kit_nt, q⟩
  | bl b => exact ⟨_, _, rfl, kit_bt, q⟩
  | int b => exact ⟨_, _, rfl, kit_it, q⟩
  | str b => exact ⟨_, _, rfl, kit_st, q⟩
  | tup b => exact ⟨_, _, rfl, kit_tt, q⟩
  | ref a => exact hd.elim
  | ktup a => exact hd.elim
theorem dIsi_str {te : DTr} {δ : Sl} {m : M} {Q : DK} {d : D} (h : ∀ R : DK, R d m → te δ m R) (hd : ty d) (q : Q (.bl (isiD "str" d)) m) : dIsi "str" te δ m Q := by
  refine h _ ?_
  cases d with
  | non => exact ⟨_, _, rfl, kit_ns, q⟩
  | bl b => exact ⟨_, _, rfl, kit_bs, q⟩
  | int b => exact ⟨_, _, rfl, kit_is, q⟩
  | str b => exact ⟨_, _, rfl, kit_ss, q⟩
  | tup b => exact ⟨_, _, rfl, kit_ts, q⟩
  | ref a => exact hd.elim
  | ktup a => exact hd.elim
theorem dVar_at {i : Nat} {δ : Sl} {m : M} {d : D} {R : DK} (h : δ[i]? = some (some d)) (q : R d m) : dVar i δ m R := ⟨d, h, q⟩
/-! ### equality of ints, texts -/
theorem eqI {i j : Int} {m : M} {Q : DK} (q : Q (.bl (decide (i = j))) m) : rdEq false (.int i) (.int j) m Q := by
  show Q (.bl (if false = true then !(i == j) else i == j)) m
  rw [if_neg Bool.false_ne_true, Bool.beq_eq_decide_eq]; exact q
theorem neI {i j : Int} {m : M} {Q : DK} (q : Q (.bl (!decide (i = j))) m) : rdEq true (.int i) (.int j) m Q := by
  show Q (.bl (if true = true then !(i == j) else i == j)) m
  rw [if_pos rfl, Bool.beq_eq_decide_eq]; exact q
theorem eqT {i j : Str} {m : M} {Q : DK} (q : Q (.bl (decide (i = j))) m) : rdEq false (.str i) (.str j) m Q := by
  show Q (.bl (if false = true then !(i == j) else i == j)) m
  rw [if_neg Bool.false_ne_true, Bool.beq_eq_decide_eq]; exact q
theorem neT {i j : Str} {m : M} {Q : DK} (q : Q (.bl (!decide (i = j))) m) : rdEq true (.str i) (.str j) m Q := by
  show Q (.bl (if true = true then !(i == j) else i == j)) m
  rw [if_pos rfl, Bool.beq_eq_decide_eq]; exact q
theorem tup2 (d : D) : (∃ a b, d = .tup [a, b]) ∨ (mTupN d 2 = false ∧ ∀ a b, d ≠ .tup [a, b]) := by
  cases d with
  | tup xs =>
    match xs with
    | [] => exact .inr ⟨rfl, fun a b h => by cases h⟩
    | [a] => exact .inr ⟨rfl, fun a b h => by cases h⟩
    | [a, b] => exact .inl ⟨a, b, rfl⟩
    | a :: b :: c :: r => exact .inr ⟨by simp only [mTupN, List.length_cons]; exact decide_eq_false (by omega), fun a b h => by cases h⟩
  | _ => exact .inr ⟨rfl, fun a b h => by cases h⟩
theorem tup3 (d : D) : (∃ a b c, d = .tup [a, b, c]) ∨ (mTupN d 3 = false ∧ ∀ a b c, d ≠ .tup [a, b, c]) := by
  cases d with
  | tup xs =>
    match xs with
    | [] => exact .inr ⟨rfl, fun a b c h => by cases h⟩
    | [a] => exact .inr ⟨rfl, fun a b c h => by cases h⟩
    | [a, b] => exact .inr ⟨rfl, fun a b c h => by cases h⟩
    | [a, b, c] => exact .inl ⟨a, b, c, rfl⟩
    | a :: b :: c :: e :: r => exact .inr ⟨by simp only [mTupN, List.length_cons]; exact decide_eq_false (by omega), fun a b c h => by cases h⟩
  | _ => exact .inr ⟨rfl, fun a b c h => by cases h⟩
theorem tup4 (d : D) : (∃ a b c e, d = .tup [a, b, c, e]) ∨ (mTupN d 4 = false ∧ ∀ a b c e, d ≠ .tup [a, b, c, e]) := by
  cases d with
  | tup xs =>
    match xs with
    | [] => exact .inr ⟨rfl, fun a b c e h => by cases h⟩
    | [a] => exact .inr ⟨rfl, fun a b c e h => by cases h⟩
    | [a, b] => exact .inr ⟨rfl, fun a b c e h => by cases h⟩
    | [a, b, c] => exact .inr ⟨rfl, fun a b c e h => by cases h⟩
    | [a, b, c, e] => exact .inl ⟨a, b, c, e, rfl⟩
    | a :: b :: c :: e :: f :: r => exact .inr ⟨by simp only [mTupN, List.length_cons]; exact decide_eq_false (by omega), fun a b c e h => by cases h⟩
  | _ => exact .inr ⟨rfl, fun a b c e h => by cases h⟩
theorem mEnd_no {d : D} (h : ∀ a b, d ≠ .tup [a, b]) : mEnd d = false := by unfold mEnd; split; exact (h _ _ rfl).elim; rfl
theorem mStretch_no {d : D} (h : ∀ a b, d ≠ .tup [a, b]) : mStretch d = false := by unfold mStretch; split; exact (h _ _ rfl).elim; rfl
theorem mJoint_no {d : D} (h : ∀ a b, d ≠ .tup [a, b]) : mJoint d = false := by unfold mJoint; split; exact (h _ _ rfl).elim; rfl
theorem mGate_no {d : D} (h : ∀ a b, d ≠ .tup [a, b]) : mGate d = false := by unfold mGate; split; exact (h _ _ rfl).elim; rfl
theorem mStep_no {d : D} (h : ∀ a b c, d ≠ .tup [a, b, c]) : mStep d = false := by unfold mStep; split; exact (h _ _ _ rfl).elim; rfl
theorem mSignal_no {d : D} (h : ∀ a b c, d ≠ .tup [a, b, c]) : mSignal d = false := by unfold mSignal; split; exact (h _ _ _ rfl).elim; rfl
theorem mPlan_no {d : D} (h : ∀ a b c e, d ≠ .tup [a, b, c, e]) : mPlan d = false := by unfold mPlan; split; exact (h _ _ _ _ rfl).elim; rfl
/-- a sign among the letters and digits -/
def mSign : D → Bool
  | .str z => z.cps.toList.all fun c => decide (c ∈ lettersDS.cps.toList)
  | _ => false
theorem all_signs' (s : Str) : ((s.cps.toList.map fun c => D.str ⟨#[c]⟩).all mSign) = s.cps.toList.all fun c => decide (c ∈ lettersDS.cps.toList) := by
  rw [List.all_map]
  congr 1
  funext c
  simp [mSign]
theorem eqFl_str (a b : Str) : eqFl (.str a) (.str b) = (a == b) := rfl
theorem kinds_any {d : D} (h : flatD d = true) : ([D.str "plain", D.str "points", D.str "crossing"].any fun x => eqFl x d) = mKind d := by
  cases d with
  | str s =>
    simp only [List.any_cons, List.any_nil, Bool.or_false, eqFl_str, mKind, kindS]
    have e : ∀ a b : Str, (a == b) = (b == a) := fun a b => BEq.comm
    rw [e "plain", e "points", e "crossing", Bool.or_assoc]
  | tup _ => simp [flatD] at h
  | ktup _ => simp [flatD] at h
  | ref _ => simp [flatD] at h
  | _ => rfl
theorem ifT {c : Bool} {A B : Prop} (h : c = true) (a : A) : if c = true then A else B := by rw [if_pos h]; exact a
theorem ifF {c : Bool} {A B : Prop} (h : c = false) (b : B) : if c = true then A else B := by rw [h, if_neg Bool.false_ne_true]; exact b
theorem len1 {s : Str} {c : Nat} {r : List Nat} (h : s.cps.toList = c :: r) : atI s.cps.toList 0 = some c := by rw [h]; simp [atI, ixN]
theorem nameS_len {s : Str} (h : nameS s = true) : 1 ≤ s.length ∧ s.length ≤ 8 := by
  unfold nameS at h
  simp only [Bool.and_eq_true, decide_eq_true_eq] at h
  exact ⟨h.1.1.1, h.1.1.2⟩
theorem sl8 {n : Nat} (h : n ≤ 8) : n ≤ sizeLine := Nat.le_trans h (by decide)
end PL

namespace PL
open PySem PySem.Spec PyProof.Rows L2 GA GxR DL
/-! ### texts -/
theorem str_ext {a b : Str} (h : a.cps.toList = b.cps.toList) : a = b := by
  cases a; cases b
  simp only at h
  congr
  exact Array.ext' h
theorem app_list (a b : Str) : (a ++ b).cps.toList = a.cps.toList ++ b.cps.toList := by
  show (a.cps ++ b.cps).toList = _
  simp
theorem app_assoc (a b c : Str) : (a ++ b) ++ c = a ++ (b ++ c) := str_ext (by simp [app_list, List.append_assoc])
theorem emp_app (a : Str) : Str.empty ++ a = a := str_ext (by rw [app_list]; rfl)
theorem len_list (a : Str) : a.length = a.cps.toList.length := by
  show a.cps.size = _
  simp
theorem len_app (a b : Str) : (a ++ b).length = a.length + b.length := by
  rw [len_list, len_list, len_list, app_list, List.length_append]
/-! ### plans -/
abbrev End := Str × Int
abbrev Step := Str × Int × Int
structure Pln where
  st : List (Str × Str)
  jo : List (End × End)
  ga : List (Str × End)
  si : List (Str × End × Option Step)
def endD (e : End) : D := .tup [.str e.1, .int e.2]
def stepD (s : Step) : D := .tup [.str s.1, .int s.2.1, .int s.2.2]
def strD (s : Str × Str) : D := .tup [.str s.1, .str s.2]
def joD (j : End × End) : D := .tup [endD j.1, endD j.2]
def gaD (g : Str × End) : D := .tup [.str g.1, endD g.2]
def ovD (o : Option Step) : D := match o with
  | none => .tup [] | some s => .tup [stepD s]
def siD (s : Str × End × Option Step) : D := .tup [.str s.1, endD s.2.1, ovD s.2.2]
def Pln.d (p : Pln) : D := .tup [.tup (p.st.map strD), .tup (p.jo.map joD), .tup (p.ga.map gaD), .tup (p.si.map siD)]
def numOk (i : Int) : Prop := 0 ≤ i ∧ i ≤ 3
def endOk (e : End) : Prop := nameS e.1 = true ∧ numOk e.2
def stepOk (s : Step) : Prop := nameS s.1 = true ∧ numOk s.2.1 ∧ numOk s.2.2
def strOk' (s : Str × Str) : Prop := nameS s.1 = true ∧ kindS s.2 = true
def joOk (j : End × End) : Prop := endOk j.1 ∧ endOk j.2
def gaOk (g : Str × End) : Prop := nameS g.1 = true ∧ endOk g.2
def siOk (s : Str × End × Option Step) : Prop := nameS s.1 = true ∧ endOk s.2.1 ∧ ∀ t, s.2.2 = some t → stepOk t
/-- a plan, of a size within the limits of what is passed -/
structure Pln.Ok (p : Pln) : Prop where
  st : ∀ s ∈ p.st, strOk' s
  jo : ∀ s ∈ p.jo, joOk s
  ga : ∀ s ∈ p.ga, gaOk s
  si : ∀ s ∈ p.si, siOk s
  n1 : p.st.length ≤ 12
  n2 : p.jo.length ≤ 16
  n3 : p.ga.length ≤ 4
  n4 : p.si.length ≤ 10
theorem mNum_ok {i : Int} (h : numOk i) : mNum (.int i) = true := by
  show (decide (0 ≤ i) && decide (i ≤ 3)) = true
  rw [decide_eq_true h.1, decide_eq_true h.2]; rfl
theorem mEnd_ok {e : End} (h : endOk e) : mEnd (endD e) = true := by
  show (nameS e.1 && mNum (.int e.2)) = true
  rw [h.1, mNum_ok h.2]; rfl
theorem mStep_ok {e : Step} (h : stepOk e) : mStep (stepD e) = true := by
  show ((nameS e.1 && mNum (.int e.2.1)) && mNum (.int e.2.2)) = true
  rw [h.1, mNum_ok h.2.1, mNum_ok h.2.2]; rfl
theorem mStretch_ok {e : Str × Str} (h : strOk' e) : mStretch (strD e) = true := by
  show (nameS e.1 && kindS e.2) = true
  rw [h.1, h.2]; rfl
theorem mJoint_ok {e : End × End} (h : joOk e) : mJoint (joD e) = true := by
  show (mEnd (endD e.1) && mEnd (endD e.2)) = true
  rw [mEnd_ok h.1, mEnd_ok h.2]; rfl
theorem mGate_ok {e : Str × End} (h : gaOk e) : mGate (gaD e) = true := by
  show (nameS e.1 && mEnd (endD e.2)) = true
  rw [h.1, mEnd_ok h.2]; rfl
theorem mSignal_ok {e : Str × End × Option Step} (h : siOk e) : mSignal (siD e) = true := by
  show ((nameS e.1 && mEnd (endD e.2.1)) && mOverlap (ovD e.2.2)) = true
  rw [h.1, mEnd_ok h.2.1]
  cases ho : e.2.2 with
  | none => rfl
  | some t => show (true && true && (([stepD t].all mStep) && true)) = true; simp [mStep_ok (h.2.2 t ho)]
theorem mAll_ok {α : Type} {f : α → D} {g : D → Bool} {l : List α} {ok : α → Prop} (h : ∀ x ∈ l, ok x) (hg : ∀ x, ok x → g (f x) = true) : mAll g (.tup (l.map f)) = true := by
  show (l.map f).all g = true
  rw [List.all_map, List.all_eq_true]
  exact fun x hx => hg x (h x hx)
theorem mPlan_ok {p : Pln} (h : p.Ok) : mPlan p.d = true := by
  show (mAll mStretch (.tup (p.st.map strD)) && mAll mJoint (.tup (p.jo.map joD)) && (mAll mGate (.tup (p.ga.map gaD)) && mAll mSignal (.tup (p.si.map siD)))) = true
  rw [mAll_ok h.st fun _ => mStretch_ok, mAll_ok h.jo fun _ => mJoint_ok, mAll_ok h.ga fun _ => mGate_ok, mAll_ok h.si fun _ => mSignal_ok]; rfl
theorem name_ty {s : Str} (h : nameS s = true) : s.length ≤ sizeLine := sl8 (nameS_len h).2
theorem kind_len {s : Str} (h : kindS s = true) : s.length ≤ 8 := by
  unfold kindS at h
  simp only [Bool.or_eq_true, beq_iff_eq] at h
  rcases h with (rfl | rfl) | rfl <;> decide
theorem tys_map {α : Type} {f : α → D} : ∀ {l : List α}, (∀ x ∈ l, ty (f x)) → tys (l.map f)
  | [], _ => trivial
  | a :: l, h => ⟨h a List.mem_cons_self, tys_map fun x hx => h x (List.mem_cons_of_mem _ hx)⟩
theorem end_ty {e : End} (h : endOk e) : ty (endD e) := ⟨name_ty h.1, trivial, trivial⟩
theorem step_ty {e : Step} (h : stepOk e) : ty (stepD e) := ⟨name_ty h.1, trivial, trivial, trivial⟩
theorem ov_ty {o : Option Step} (h : ∀ t, o = some t → stepOk t) : ty (ovD o) := by
  cases o with
  | none => exact trivial
  | some t => exact ⟨step_ty (h t rfl), trivial⟩
theorem plan_ty {p : Pln} (h : p.Ok) : tyP p.d := by
  refine ⟨⟨tys_map fun x hx => ⟨name_ty (h.st x hx).1, sl8 (kind_len (h.st x hx).2), trivial⟩, tys_map fun x hx => ⟨end_ty (h.jo x hx).1, end_ty (h.jo x hx).2, trivial⟩,
    tys_map fun x hx => ⟨name_ty (h.ga x hx).1, end_ty (h.ga x hx).2, trivial⟩, tys_map fun x hx => ⟨name_ty (h.si x hx).1, end_ty (h.si x hx).2.1, ov_ty (h.si x hx).2.2, trivial⟩, trivial⟩, ?_⟩
  intro a b c e he xs hx x hm u v hxu
  unfold Pln.d at he
  cases he; cases hx
  obtain ⟨s, _, rfl⟩ := List.mem_map.mp hm
  cases hxu; rfl
/-! ### the lines of a plan -/
def numT (i : Int) : Str := Str.ofString (toString i)
def endT (e : End) : Str := e.1 ++ " " ++ numT e.2
def stT (s : Str × Str) : Str := ("stretch " : Str) ++ s.1 ++ " " ++ s.2
def joT (j : End × End) : Str := ("join " : Str) ++ endT j.1 ++ " " ++ endT j.2
def gaT (g : Str × End) : Str := ("gate " : Str) ++ g.1 ++ " " ++ endT g.2
def ovT (t : Step) : Str := (" over " : Str) ++ t.1 ++ " " ++ numT t.2.1 ++ " " ++ numT t.2.2
def siT (s : Str × End × Option Step) : Str := match s.2.2 with
  | none => ("signal " : Str) ++ s.1 ++ " " ++ endT s.2.1
  | some t => (("signal " : Str) ++ s.1 ++ " " ++ endT s.2.1) ++ ovT t
def Pln.lines (p : Pln) : List Str := p.st.map stT ++ p.jo.map joT ++ p.ga.map gaT ++ p.si.map siT
theorem num_cases {i : Int} (h : numOk i) : i = 0 ∨ i = 1 ∨ i = 2 ∨ i = 3 := by unfold numOk at h; omega
theorem numT_len {i : Int} (h : numOk i) : (numT i).length = 1 := by rcases num_cases h with rfl | rfl | rfl | rfl <;> decide +kernel
theorem num_log {i : Int} (h : numOk i) : i.natAbs.log2 < 1920 := by rcases num_cases h with rfl | rfl | rfl | rfl <;> decide
theorem endT_len {e : End} (h : endOk e) : (endT e).length ≤ 10 := by
  have h1 := (nameS_len h.1).2
  unfold endT
  rw [len_app, len_app, numT_len h.2]
  have : (" " : Str).length = 1 := by decide +kernel
  omega
theorem slk {n : Nat} (h : n ≤ 1000) : n ≤ sizeLine := Nat.le_trans h (by decide)
end PL

namespace PL
open PySem PySem.Spec PyProof.Rows L2 GA GxR DL
/-! ### stores that grow -/
structure Ext (m m' : M) : Prop where
  gh : m'.gh = m.gh
  old : ∀ a o, m.mu a = some o → m'.mu a = some o
theorem Ext.refl (m : M) : Ext m m := ⟨rfl, fun _ _ h => h⟩
theorem Ext.trans {a b c : M} (h : Ext a b) (i : Ext b c) : Ext a c := ⟨i.gh.trans h.gh, fun x o z => i.old x o (h.old x o z)⟩
theorem Ext.set {m m' : M} {p : Addr} {o : DO} (h : Ext m m') (hp : m.mu p = none) : Ext m (m'.set p o) := ⟨h.gh, fun a x z => by
  have ne : a ≠ p := fun e => by subst e; rw [hp] at z; cases z
  rw [M.set_ne ne]; exact h.old a x z⟩
theorem Ext.new {m : M} {p : Addr} {o : DO} (hp : m.mu p = none) : Ext m (m.set p o) := (Ext.refl m).set hp
/-- a list comprehension by its turns: each gives a thing, or none -/
inductive Outs (Rel : D → Option D → Prop) : List D → List D → Prop
  | nil : Outs Rel [] []
  | keep {d y : D} {ds ys : List D} (h : Rel d (some y)) (t : Outs Rel ds ys) : Outs Rel (d :: ds) (y :: ys)
  | skip {d : D} {ds ys : List D} (h : Rel d none) (t : Outs Rel ds ys) : Outs Rel (d :: ds) ys
theorem Outs.len {Rel : D → Option D → Prop} {xs ys : List D} (h : Outs Rel xs ys) : ys.length ≤ xs.length := by
  induction h with
  | nil => exact Nat.le_refl _
  | keep _ _ ih => simp; exact ih
  | skip _ _ ih => simp; omega
theorem Outs.snoc {Rel : D → Option D → Prop} {xs ys : List D} {d : D} (h : Outs Rel xs ys) : (∀ y, Rel d (some y) → Outs Rel (xs ++ [d]) (ys ++ [y])) ∧ (Rel d none → Outs Rel (xs ++ [d]) ys) := by
  induction h with
  | nil => exact ⟨fun y r => .keep r .nil, fun r => .skip r .nil⟩
  | keep h t ih => exact ⟨fun y r => .keep h (ih.1 y r), fun r => .keep h (ih.2 r)⟩
  | skip h t ih => exact ⟨fun y r => .skip h (ih.1 y r), fun r => .skip h (ih.2 r)⟩
theorem Outs.map {xs ys : List D} {f : D → D} (h : Outs (fun d o => o = some (f d)) xs ys) : ys = xs.map f := by
  induction h with
  | nil => rfl
  | keep h t ih => cases h; rw [ih]; rfl
  | skip h t ih => cases h
theorem Outs.filter {xs ys : List D} {f : D → D} {p : D → Bool} (h : Outs (fun d o => o = if p d = true then some (f d) else none) xs ys) : ys = (xs.filter p).map f := by
  induction h with
  | nil => rfl
  | keep h t ih =>
    rename_i d y ds ys
    cases e : p d with
    | true => rw [e, if_pos rfl] at h; cases h; rw [List.filter_cons_of_pos e, ih]; rfl
    | false => rw [e, if_neg Bool.false_ne_true] at h; cases h
  | skip h t ih =>
    rename_i d ds ys
    cases e : p d with
    | true => rw [e, if_pos rfl] at h; cases h
    | false => rw [List.filter_cons_of_neg (by simp [e]), ih]
theorem Outs.all {Rel : D → Option D → Prop} {P : D → Prop} {xs ys : List D} (h : Outs Rel xs ys) (hp : ∀ d ∈ xs, ∀ y, Rel d (some y) → P y) : ∀ y ∈ ys, P y := by
  induction h with
  | nil => intro y hy; cases hy
  | keep h t ih =>
    intro y hy
    rcases List.mem_cons.mp hy with rfl | hy
    · exact hp _ List.mem_cons_self _ h
    · exact ih (fun d hd => hp d (List.mem_cons_of_mem _ hd)) y hy
  | skip h t ih => exact ih fun d hd => hp d (List.mem_cons_of_mem _ hd)
theorem take_snoc {α : Type} {xs : List α} {i : Nat} {d : α} (h : xs[i]? = some d) : xs.take (i + 1) = xs.take i ++ [d] := by rw [List.take_succ, h]; rfl
abbrev WkS (m : M) (xs : List D) (ws : DTI) (δ : Sl) : Prop := ∀ R : List D → (M → Prop) → M → Prop, (∀ (ok : M → Prop) m1, Ext m m1 → (∀ m', Ext m1 m' → ok m') → R xs ok m1) → ws δ m R
theorem dLC_gen {ws : DTI} {g : Tg} {tt : DTT} {te : DTr} {ow : List Nat} {δ : Sl} {m : M} {Q : DK} {xs : List D} {Rel : D → Option D → Prop} {I : M → Prop} (hI : I m) (hIe : ∀ a b, I a → Ext a b → I b)
    (hw : WkS m xs ws δ) (hz : xs.length ≤ sizeLine)
    (he : ∀ d ∈ xs, ∀ m', Ext m m' → I m' → ∀ (Ry : D → M → Prop) (Rn : M → Prop), (∀ y m4, Rel d (some y) → Ext m' m4 → Ry y m4) → (∀ m4, Rel d none → Ext m' m4 → Rn m4) → gD g d (wipeD δ ow) fun δ2 => tt δ2 m' fun b m3 => if b = true then te δ2 m3 Ry else Rn m3)
    (hq : ∀ p m' ys, m.mu p = none → Ext m m' → I m' → m'.mu p = some (.lst ys) → Outs Rel xs ys → Q (.ref p) m') : dLC ws g tt te ow δ m Q := by
  refine hw _ fun ok m1 hE hok p hp1 => ?_
  have hp : m.mu p = none := by
    cases e : m.mu p with
    | none => rfl
    | some o => rw [hE.old _ _ e] at hp1; cases hp1
  have hI1 := hIe _ _ hI hE
  refine ⟨fun i m' => Ext m1 m' ∧ I m' ∧ ∃ ys, m'.mu p = some (.lst ys) ∧ Outs Rel (xs.take i) ys, ⟨Ext.new hp1, hIe _ _ hI1 (Ext.new hp1), [], M.set_same, .nil⟩, fun i m' h => hok m' h.1, ?_, ?_⟩
  · rintro i d m' hd ⟨h1, hi, ys, h2, h3⟩
    have hl : ys.length < sizeLine := by
      have h4 := h3.len
      have h5 : i < xs.length := by
        by_cases h : i < xs.length
        · exact h
        · rw [List.getElem?_eq_none (by omega)] at hd; cases hd
      rw [List.length_take] at h4; omega
    refine he d (List.mem_of_getElem? hd) m' (hE.trans h1) hi _ _ (fun y m4 hr h4 => ⟨ys, h4.old _ _ h2, hl, (h1.trans h4).set hp1, ?_, ys ++ [y], M.set_same, ?_⟩) fun m4 hr h4 => ⟨h1.trans h4, hIe _ _ hi h4, ys, h4.old _ _ h2, ?_⟩
    · exact hIe m1 _ hI1 ((h1.trans h4).set hp1)
    · rw [take_snoc hd]; exact h3.snoc.1 y hr
    · rw [take_snoc hd]; exact h3.snoc.2 hr
  · rintro m' ⟨h1, hi, ys, h2, h3⟩
    rw [List.take_length] at h3
    exact hq p m' ys hp (hE.trans h1) hi h2 h3
theorem iT_w {te : DTr} {δ : Sl} {m : M} {xs : List D} (h : ∀ R : DK, (R (.tup xs) m) → te δ m R) : WkS m xs (iT te) δ := fun R hR => h _ ⟨xs, .inl rfl, hR _ m (Ext.refl m) fun _ _ => trivial⟩
theorem iL_w {te : DTr} {δ : Sl} {m : M} {xs : List D} {a : Addr} (h : ∀ R : DK, (R (.ref a) m) → te δ m R) (ha : m.mu a = some (.lst xs)) : WkS m xs (iL te) δ := fun R hR => h _ ⟨a, xs, rfl, ha, hR _ m (Ext.refl m) fun m' h => h.old _ _ ha⟩
/-- .. a list that is made for the walk -/
theorem iL_new {te : DTr} {δ : Sl} {m : M} {xs : List D} (h : ∀ R : DK, (∀ a m1, Ext m m1 → m1.mu a = some (.lst xs) → R (.ref a) m1) → te δ m R) : WkS m xs (iL te) δ := fun R hR => h _ fun a m1 hE ha => ⟨a, xs, rfl, ha, hR _ m1 hE fun m' h => h.old _ _ ha⟩
theorem iR_w {te : DTr} {δ : Sl} {m : M} {j : Int} (h : ∀ R : DK, (R (.int j) m) → te δ m R) (h1 : -(2 ^ 62) ≤ j) (h2 : j < 2 ^ 62) : WkS m (rangeD j.toNat) (iR1 te) δ := fun R hR => h _ ⟨j, rfl, h1, h2, hR _ m (Ext.refl m) fun _ _ => trivial⟩
theorem yesT {δ : Sl} {m : M} {A : M → Prop} {B : M → Prop} (h : A m) : dYes δ m (fun b m3 => if b = true then A m3 else B m3) := by show if true = true then A m else B m; rw [if_pos rfl]; exact h
theorem slen {s : Str} {n : Nat} (h : s.length ≤ n) (hn : n ≤ 1000 := by decide) : s.length ≤ sizeLine := slk (Nat.le_trans h hn)
/-! ### f-strings -/
theorem js_nil {acc : Str} {δ : Sl} {m : M} {Q : Str → M → Prop} (h : Q acc m) : dJs [] acc δ m Q := h
theorem js_c {ts : List DTr} {acc y : Str} {δ : Sl} {m : M} {Q : Str → M → Prop} (hl : (acc ++ y).length ≤ 1000) (h : dJs ts (acc ++ y) δ m Q) : dJs (dC (.str y) :: ts) acc δ m Q := ⟨y, rfl, slk hl, h⟩
theorem js_s {ts : List DTr} {acc y : Str} {te : DTr} {δ : Sl} {m : M} {Q : Str → M → Prop} (ht : ∀ R : DK, R (.str y) m → te δ m R) (hl : (acc ++ y).length ≤ 1000) (h : dJs ts (acc ++ y) δ m Q) : dJs (dFmt te :: ts) acc δ m Q :=
  ht _ ⟨slk (by rw [len_app] at hl; omega), y, rfl, slk hl, h⟩
theorem js_i {ts : List DTr} {acc : Str} {i : Int} {te : DTr} {δ : Sl} {m : M} {Q : Str → M → Prop} (ht : ∀ R : DK, R (.int i) m → te δ m R) (ho : i.natAbs.log2 < 1920) (hl : (acc ++ numT i).length ≤ 1000) (h : dJs ts (acc ++ numT i) δ m Q) : dJs (dFmt te :: ts) acc δ m Q :=
  ht _ ⟨ho, numT i, rfl, slk hl, h⟩
theorem l_emp : Str.empty.length = 0 := rfl
theorem l_sp : (" " : Str).length = 1 := by decide +kernel
theorem l_stretch : ("stretch " : Str).length = 8 := by decide +kernel
theorem l_join : ("join " : Str).length = 5 := by decide +kernel
theorem l_gate : ("gate " : Str).length = 5 := by decide +kernel
theorem l_signal : ("signal " : Str).length = 7 := by decide +kernel
theorem l_over : (" over " : Str).length = 6 := by decide +kernel
theorem Outs.mapOf {α : Type} {f h : α → D} {P : α → Prop} (inj : ∀ a b, f a = f b → h a = h b) : ∀ {l : List α} {ys : List D}, Outs (fun d o => ∃ a, d = f a ∧ P a ∧ o = some (h a)) (l.map f) ys → ys = l.map h
  | [], _, o => by cases o; rfl
  | a :: l, _, o => by
    cases o with
    | keep r t =>
      obtain ⟨b, e, _, e2⟩ := r
      cases e2
      rw [Outs.mapOf inj t, ← inj a b e]; rfl
    | skip r t => obtain ⟨b, _, _, e2⟩ := r; cases e2
theorem endD_inj {a b : End} (h : endD a = endD b) : a = b := by
  obtain ⟨a1, a2⟩ := a; obtain ⟨b1, b2⟩ := b
  unfold endD at h; cases h; rfl
theorem strD_inj {a b : Str × Str} (h : strD a = strD b) : a = b := by
  obtain ⟨a1, a2⟩ := a; obtain ⟨b1, b2⟩ := b
  unfold strD at h; cases h; rfl
theorem joD_inj {a b : End × End} (h : joD a = joD b) : a = b := by
  obtain ⟨a1, a2⟩ := a; obtain ⟨b1, b2⟩ := b
  have h1 : endD a1 = endD b1 := by unfold joD at h; injection h with h; injection h
  have h2 : endD a2 = endD b2 := by unfold joD at h; injection h with h; injection h with _ h; injection h
  rw [endD_inj h1, endD_inj h2]
theorem gaD_inj {a b : Str × End} (h : gaD a = gaD b) : a = b := by
  obtain ⟨a1, a2⟩ := a; obtain ⟨b1, b2⟩ := b
  have h1 : D.str a1 = D.str b1 := by unfold gaD at h; injection h with h; injection h
  have h2 : endD a2 = endD b2 := by unfold gaD at h; injection h with h; injection h with _ h; injection h
  cases h1; rw [endD_inj h2]
theorem ovD_inj {a b : Option Step} (h : ovD a = ovD b) : a = b := by
  cases a <;> cases b
  · rfl
  · unfold ovD at h; simp at h
  · unfold ovD at h; simp at h
  · rename_i a b
    obtain ⟨a1, a2, a3⟩ := a; obtain ⟨b1, b2, b3⟩ := b
    unfold ovD stepD at h; simp at h
    obtain ⟨rfl, rfl, rfl⟩ := h; rfl
theorem siD_inj {a b : Str × End × Option Step} (h : siD a = siD b) : a = b := by
  obtain ⟨a1, a2, a3⟩ := a; obtain ⟨b1, b2, b3⟩ := b
  have h1 : D.str a1 = D.str b1 := by unfold siD at h; injection h with h; injection h
  have h2 : endD a2 = endD b2 := by unfold siD at h; injection h with h; injection h with _ h; injection h
  have h3 : ovD a3 = ovD b3 := by unfold siD at h; injection h with h; injection h with _ h; injection h with _ h; injection h
  cases h1; rw [endD_inj h2, ovD_inj h3]
theorem stT_len {s : Str × Str} (h : strOk' s) : (stT s).length ≤ 100 := by
  have h1 := (nameS_len h.1).2; have h2 := kind_len h.2
  unfold stT; simp only [len_app, l_stretch, l_sp]; omega
theorem joT_len {s : End × End} (h : joOk s) : (joT s).length ≤ 100 := by
  have h1 := endT_len h.1; have h2 := endT_len h.2
  unfold joT; simp only [len_app, l_join, l_sp]; omega
theorem gaT_len {s : Str × End} (h : gaOk s) : (gaT s).length ≤ 100 := by
  have h1 := (nameS_len h.1).2; have h2 := endT_len h.2
  unfold gaT; simp only [len_app, l_gate, l_sp]; omega
theorem ovT_len {t : Step} (h : stepOk t) : (ovT t).length ≤ 30 := by
  have h1 := (nameS_len h.1).2; have h2 := numT_len h.2.1; have h3 := numT_len h.2.2
  unfold ovT; simp only [len_app, l_over, l_sp]; omega
theorem siT_len {s : Str × End × Option Step} (h : siOk s) : (siT s).length ≤ 100 := by
  obtain ⟨nm, en, ov⟩ := s
  have h1 := (nameS_len h.1).2; have h2 := endT_len h.2.1
  dsimp only at h1 h2
  cases ov with
  | none => show (("signal " : Str) ++ nm ++ " " ++ endT en).length ≤ 100; simp only [len_app, l_signal, l_sp]; omega
  | some t =>
    have h3 := ovT_len (h.2.2 t rfl)
    show ((("signal " : Str) ++ nm ++ " " ++ endT en) ++ ovT t).length ≤ 100; simp only [len_app, l_signal, l_sp]; omega
theorem sum_le {l : List Nat} {n : Nat} (h : ∀ x ∈ l, x ≤ n) : l.sum ≤ l.length * n := by
  induction l with
  | nil => simp
  | cons a l ih =>
    have h1 := h a List.mem_cons_self
    have h2 := ih fun x hx => h x (List.mem_cons_of_mem _ hx)
    rw [List.sum_cons, List.length_cons, Nat.succ_mul]; omega
theorem Pln.Ok.line {p : Pln} (h : p.Ok) : ∀ x ∈ p.lines, x.length ≤ 100 := by
  intro x hx
  unfold Pln.lines at hx
  simp only [List.mem_append, List.mem_map] at hx
  rcases hx with ((⟨a, ha, rfl⟩ | ⟨a, ha, rfl⟩) | ⟨a, ha, rfl⟩) | ⟨a, ha, rfl⟩
  · exact stT_len (h.st a ha)
  · exact joT_len (h.jo a ha)
  · exact gaT_len (h.ga a ha)
  · exact siT_len (h.si a ha)
theorem Pln.Ok.many {p : Pln} (h : p.Ok) : p.lines.length ≤ 42 := by
  unfold Pln.lines
  simp only [List.length_append, List.length_map]
  have := h.n1; have := h.n2; have := h.n3; have := h.n4
  omega
theorem Pln.Ok.size {p : Pln} (h : p.Ok) : (p.lines.map (·.length)).sum + p.lines.length * ("\n" : Str).length ≤ 16777216 := by
  have h1 : (p.lines.map (·.length)).sum ≤ (p.lines.map (·.length)).length * 100 := sum_le fun x hx => by
    obtain ⟨y, hy, rfl⟩ := List.mem_map.mp hx
    exact h.line y hy
  have h2 := h.many
  have h3 : ("\n" : Str).length = 1 := by decide +kernel
  rw [List.length_map] at h1
  rw [h3]; omega
end PL

namespace PL
open PySem PySem.Spec PyProof.Rows L2 GA GxR DL
/-! ### the deck -/
abbrev deckD (aC : Addr) (x k : Int) : List (Key × D) := [(.inr "cells", .ref aC), (.inr "mixed", .int x), (.inr "draws", .int k)]
theorem dk_cells {a b c : D} : valD ([(.inr "cells", a), (.inr "mixed", b), (.inr "draws", c)] : List (Key × D)) (.inr "cells") = some a := by with_unfolding_all rfl
theorem dk_mixed {a b c : D} : valD ([(.inr "cells", a), (.inr "mixed", b), (.inr "draws", c)] : List (Key × D)) (.inr "mixed") = some b := by with_unfolding_all rfl
theorem dk_draws {a b c : D} : valD ([(.inr "cells", a), (.inr "mixed", b), (.inr "draws", c)] : List (Key × D)) (.inr "draws") = some c := by with_unfolding_all rfl
theorem dk_put {a b c d : D} : putD ([(.inr "cells", a), (.inr "mixed", b), (.inr "draws", c)] : List (Key × D)) (.inr "draws") d = [(.inr "cells", a), (.inr "mixed", b), (.inr "draws", d)] := by with_unfolding_all rfl
structure DeckAt (m : M) (aD aC : Addr) : Prop where
  ex : ∃ (x k : Int) (ns : List Int), m.mu aD = some (.dic (deckD aC x k)) ∧ m.mu aC = some (.lst (ns.map D.int)) ∧ 0 ≤ x ∧ x < 2147483587 ∧ 0 ≤ k ∧ ns.length ≤ 63
structure DeckH (H : Hp) (aD aC : Addr) : Prop where
  ex : ∃ (x k : Int) (ns : List Int), H aD = some (.dK [(.inr "cells", .ref aC), (.inr "mixed", .int x), (.inr "draws", .int k)]) ∧ H aC = some (.lst (ns.map V.int)) ∧ 0 ≤ x ∧ x < 2147483587 ∧ 0 ≤ k ∧ ns.length ≤ 63
theorem ints_rep {K : PySem.W.Frag} {H : Hp} : ∀ {ns : List Int} {vs : List V}, Reps K H (ns.map D.int) vs → vs = ns.map V.int
  | [], _, r => by cases r; rfl
  | n :: ns, _, r => by
    cases r with
    | cons r1 r2 => cases r1; rw [ints_rep r2]; rfl
theorem rep_ints {K : PySem.W.Frag} {H : Hp} : ∀ (ns : List Int), Reps K H (ns.map D.int) (ns.map V.int)
  | [] => .nil
  | n :: ns => .cons (.int n) (rep_ints ns)
theorem DeckAt.h {K : PySem.W.Frag} {H : Hp} {m : M} {aD aC : Addr} (d : DeckAt m aD aC) (r : RelH K H m) : DeckH H aD aC := by
  obtain ⟨x, k, ns, h1, h2, h⟩ := d.ex
  obtain ⟨ys, e1, kv⟩ := r.obj _ _ h1
  obtain ⟨vs, e2, rr⟩ := r.obj _ _ h2
  have := ints_rep rr
  subst this
  refine ⟨x, k, ns, ?_, e2, h⟩
  rw [e1]
  cases kv with
  | cons p1 kv =>
    cases kv with
    | cons p2 kv =>
      cases kv with
      | cons p3 kv =>
        cases kv
        rename_i b1 b2 b3
        obtain ⟨k1, v1⟩ := b1; obtain ⟨k2, v2⟩ := b2; obtain ⟨k3, v3⟩ := b3
        obtain ⟨q1, r1⟩ := p1; obtain ⟨q2, r2⟩ := p2; obtain ⟨q3, r3⟩ := p3
        dsimp only at q1 r1 q2 r2 q3 r3
        subst q1 q2 q3
        cases r1; cases r2; cases r3; rfl
def deckGh (G : Gh) (aD aC : Addr) : Gh where
  inv := fun H => G.inv H ∧ DeckH H aD aC
  own := fun a => G.own a ∨ a = aD ∨ a = aC
  stable := fun H H' ⟨i, d⟩ e => ⟨G.stable H H' i fun a ha => e a (.inl ha), by
    obtain ⟨x, k, ns, h1, h2, h⟩ := d.ex
    exact ⟨x, k, ns, (e aD (.inr (.inl rfl))).trans h1, (e aC (.inr (.inr rfl))).trans h2, h⟩⟩
  there := fun H ⟨i, d⟩ a ha => by
    obtain ⟨x, k, ns, h1, h2, h⟩ := d.ex
    rcases ha with ha | rfl | rfl
    · exact G.there H i a ha
    · rw [h1]; exact fun z => by cases z
    · rw [h2]; exact fun z => by cases z
def hide (m : M) (aD aC : Addr) : M := ⟨fun a => if a = aD ∨ a = aC then none else m.mu a, deckGh m.gh aD aC⟩
theorem hide_mu {m : M} {aD aC a : Addr} (h1 : a ≠ aD) (h2 : a ≠ aC) : (hide m aD aC).mu a = m.mu a := by
  show (if a = aD ∨ a = aC then none else m.mu a) = _
  rw [if_neg fun z => z.elim h1 h2]
theorem RelH.hide {K : PySem.W.Frag} {H : Hp} {m : M} {aD aC : Addr} (r : RelH K H m) (d : DeckAt m aD aC) : RelH K H (PL.hide m aD aC) where
  inv := ⟨r.inv, d.h r⟩
  sep := fun a ha => by
    show (if a = aD ∨ a = aC then none else m.mu a) = none
    by_cases h : a = aD ∨ a = aC
    · rw [if_pos h]
    · rw [if_neg h]
      rcases ha with ha | ha | ha
      · exact r.sep a ha
      · exact (h (.inl ha)).elim
      · exact (h (.inr ha)).elim
  obj := fun a o e => by
    have e : (if a = aD ∨ a = aC then none else m.mu a) = some o := e
    by_cases h : a = aD ∨ a = aC
    · rw [if_pos h] at e; cases e
    · rw [if_neg h] at e; exact r.obj a o e
/-- the deck stands beside the store -/
structure Dk (m : M) (d : D) : Prop where
  ex : ∃ aD aC G, d = .ref aD ∧ m.gh = deckGh G aD aC ∧ ¬ G.own aD ∧ ¬ G.own aC ∧ aD ≠ aC
theorem Dk.ext {m m' : M} {d : D} (h : Dk m d) (e : m'.gh = m.gh) : Dk m' d := by
  obtain ⟨aD, aC, G, h1, h2, h3⟩ := h.ex
  exact ⟨aD, aC, G, h1, e.trans h2, h3⟩
structure Step' (m m' : M) (aD aC : Addr) : Prop where
  gh : m'.gh = m.gh
  old : ∀ a o, a ≠ aD → a ≠ aC → m.mu a = some o → m'.mu a = some o
  deck : DeckAt m' aD aC
/-- a draw, with the deck in the store -/
def spDraw : DSp := fun ds m Q => ∃ aD aC n, ds = [.ref aD, .int n] ∧ 0 < n ∧ n < 1073741824 ∧ aD ≠ aC ∧ DeckAt m aD aC ∧ ∀ r m', 0 ≤ r → r < n → Step' m m' aD aC → Q (.int r) m'
/-- .. beside it -/
def spDrawG : DSp := fun ds m Q => ∃ d n, ds = [d, .int n] ∧ 0 < n ∧ n < 1073741824 ∧ Dk m d ∧ ∀ r, 0 ≤ r → r < n → Q (.int r) m
theorem draw_up {K : PySem.W.Frag} {vs : List V} {H : Hp} {Q : VK} {E : XK} (h : spUp K spDrawG vs H Q E) : spUp K spDraw vs H Q E := by
  obtain ⟨ds, m, Q', r, rh, ⟨d, n, rfl, hn, hn2, hd, q⟩, f⟩ := h
  obtain ⟨aD, aC, G, rfl, hg, g1, g2, hne⟩ := hd.ex
  have hi := rh.inv
  rw [hg] at hi
  obtain ⟨iG, dH⟩ := hi
  obtain ⟨x, k, ns, h1, h2, hx⟩ := dH.ex
  have sD : m.mu aD = none := rh.sep aD (by rw [hg]; exact .inr (.inl rfl))
  have sC : m.mu aC = none := rh.sep aC (by rw [hg]; exact .inr (.inr rfl))
  let m0 : M := ⟨fun a => if a = aD then some (.dic (deckD aC x k)) else if a = aC then some (.lst (ns.map D.int)) else m.mu a, G⟩
  have e1 : m0.mu aD = some (.dic (deckD aC x k)) := if_pos rfl
  have e2 : m0.mu aC = some (.lst (ns.map D.int)) := by show (if aC = aD then _ else if aC = aC then _ else _) = _; rw [if_neg (fun z => hne z.symm), if_pos rfl]
  have e3 : ∀ a, a ≠ aD → a ≠ aC → m0.mu a = m.mu a := fun a z1 z2 => by show (if a = aD then _ else if a = aC then _ else _) = _; rw [if_neg z1, if_neg z2]
  have r0 : RelH K H m0 := by
    refine ⟨iG, fun a ha => ?_, fun a o e => ?_⟩
    · rw [e3 a (fun z => g1 (z ▸ ha)) (fun z => g2 (z ▸ ha))]
      exact rh.sep a (by rw [hg]; exact .inl ha)
    · by_cases z1 : a = aD
      · subst z1; rw [e1] at e; cases e
        exact ⟨_, h1, .cons ⟨rfl, .ref _⟩ (.cons ⟨rfl, .int _⟩ (.cons ⟨rfl, .int _⟩ .nil))⟩
      · by_cases z2 : a = aC
        · subst z2; rw [e2] at e; cases e
          exact ⟨_, h2, rep_ints ns⟩
        · rw [e3 a z1 z2] at e; exact rh.obj a o e
  refine ⟨_, m0, fun d m' => ∃ r, d = .int r ∧ 0 ≤ r ∧ r < n ∧ Step' m0 m' aD aC, r, r0, ⟨aD, aC, n, rfl, hn, hn2, hne, ⟨x, k, ns, e1, e2, hx⟩, fun r m' a b s => ⟨r, rfl, a, b, s⟩⟩, ?_⟩
  rintro d m' ⟨r, rfl, a, b, s⟩ v H' t rv r'
  refine f (.int r) m (q r a b) v H' t rv ⟨?_, rh.sep, fun c o e => ?_⟩
  · rw [hg]
    have := r'.inv
    rw [s.gh] at this
    exact ⟨this, s.deck.h r'⟩
  · have z1 : c ≠ aD := fun z => by subst z; rw [sD] at e; cases e
    have z2 : c ≠ aC := fun z => by subst z; rw [sC] at e; cases e
    exact r'.obj c o (s.old c o z1 z2 (by rw [e3 c z1 z2]; exact e))
theorem DCal.draw {P : Program} {w : World} {K : PySem.W.Frag} {mg : Str → Option Value} {base : Heap} {k : Nat} {x : Str} (c : DCal P w K mg base k x spDraw) : DCal P w K mg base k x spDrawG := by
  obtain ⟨f', fd, ps, F, hm', kp, b⟩ := c.ex
  exact ⟨f', fd, ps, F.imp fun vs H Q E h => draw_up h, hm', kp, b⟩
theorem cutL_map {α β : Type} (f : α → β) (xs : List α) (lo hi : Option Int) : cutL (xs.map f) lo hi = (cutL xs lo hi).map f := by
  unfold cutL; rw [List.length_map, List.map_take, List.map_drop]
theorem cutL_le {α : Type} (xs : List α) (lo hi : Option Int) : (cutL xs lo hi).length ≤ xs.length := by
  unfold cutL; rw [List.length_take, List.length_drop]; omega
theorem emod_lt' {x n : Int} (h : 0 < n) : 0 ≤ x % n ∧ x % n < n := ⟨Int.emod_nonneg _ (by omega), Int.emod_lt_of_pos _ h⟩
theorem rI {C : Int → Int → Prop} {g : Int → Int → Int} {i j : Int} {m : M} {Q : DK} (h : C i j) (q : Q (.int (g i j)) m) : rdI C g (.int i) (.int j) m Q := ⟨h, q⟩
theorem aI {i j : Int} {m : M} {Q : DK} (q : Q (.int (i + j)) m) : rdAdd (.int i) (.int j) m Q := q
theorem aS {a b : Str} {m : M} {Q : DK} (h : (a ++ b).length ≤ 1000) (q : Q (.str (a ++ b)) m) : rdAdd (.str a) (.str b) m Q := ⟨by rw [← len_app]; exact slk h, q⟩
theorem iI {i : Int} {m : M} {Q : DK} (q : Q (.int i) m) : rdInt [.int i] m Q := ⟨i, rfl, q⟩
theorem bI {p : Int → Int → Bool} {i j : Int} {m : M} {Q : DK} (q : Q (.bl (p i j)) m) : rdB p (.int i) (.int j) m Q := q
/-- the rest of a block, told apart -/
theorem seqR1 {a d : DTS} {E : DEnds} {δ : Sl} {m : M} (P : Sl → M → Prop) (h2 : ∀ δ m, P δ m → d E δ m) (h1 : ∀ R : DTS, (∀ δ m, P δ m → R E δ m) → dSeq a R E δ m) : dSeq a d E δ m := h1 d h2
theorem seqR2 {a b d : DTS} {E : DEnds} {δ : Sl} {m : M} (P : Sl → M → Prop) (h2 : ∀ δ m, P δ m → d E δ m) (h1 : ∀ R : DTS, (∀ δ m, P δ m → R E δ m) → dSeq a (dSeq b R) E δ m) : dSeq a (dSeq b d) E δ m := h1 d h2
theorem seqR3 {a b c d : DTS} {E : DEnds} {δ : Sl} {m : M} (P : Sl → M → Prop) (h2 : ∀ δ m, P δ m → d E δ m) (h1 : ∀ R : DTS, (∀ δ m, P δ m → R E δ m) → dSeq a (dSeq b (dSeq c R)) E δ m) : dSeq a (dSeq b (dSeq c d)) E δ m := h1 d h2
theorem iff_T {c : Bool} {A B : Prop} : (c = true → A) → (c = false → B) → if c = true then A else B := fun h1 h2 => by cases c; rw [if_neg Bool.false_ne_true]; exact h2 rfl; rw [if_pos rfl]; exact h1 rfl
end PL

namespace PL
open PySem PySem.Spec PyProof.Rows L2 GA GxR DL
/-! ### names -/
def lowC (c : Nat) : Bool := decide (c ∈ lettersS.cps.toList)
def sgnC (c : Nat) : Bool := decide (c ∈ lettersDS.cps.toList)
theorem nameS_of {s : Str} {c : Nat} {l : List Nat} (h : s.cps.toList = c :: l) (h1 : lowC c = true) (h2 : sgnC c = true) (h3 : ∀ x ∈ l, sgnC x = true) (h4 : l.length ≤ 7) : nameS s = true := by
  have hl : s.length = l.length + 1 := by rw [len_list, h]; rfl
  unfold nameS
  rw [hl, decide_eq_true (show 1 ≤ l.length + 1 by omega), decide_eq_true (show l.length + 1 ≤ 8 by omega), h]
  show (true && true && lowC c && (sgnC c && l.all fun x => sgnC x)) = true
  rw [h1, h2, List.all_eq_true.mpr h3]; rfl
theorem let26 : ∀ n : Fin 26, ((atI lettersDS.cps.toList ((n.val : Nat) : Int)).any fun c => lowC c && sgnC c) = true := by decide +kernel
theorem let36 : ∀ n : Fin 36, ((atI lettersDS.cps.toList ((n.val : Nat) : Int)).any fun c => sgnC c) = true := by decide +kernel
theorem ix26 {r : Int} (h0 : 0 ≤ r) (h1 : r < 26) : ∃ c, atI lettersDS.cps.toList r = some c ∧ lowC c = true ∧ sgnC c = true := by
  have h := let26 ⟨r.toNat, by omega⟩
  have e : ((r.toNat : Nat) : Int) = r := by omega
  dsimp only at h
  rw [e] at h
  cases hc : atI lettersDS.cps.toList r with
  | none => rw [hc] at h; cases h
  | some c =>
    rw [hc] at h
    have h : (lowC c && sgnC c) = true := h
    rw [Bool.and_eq_true] at h
    exact ⟨c, rfl, h⟩
theorem ix36 {r : Int} (h0 : 0 ≤ r) (h1 : r < 36) : ∃ c, atI lettersDS.cps.toList r = some c ∧ sgnC c = true := by
  have h := let36 ⟨r.toNat, by omega⟩
  have e : ((r.toNat : Nat) : Int) = r := by omega
  dsimp only at h
  rw [e] at h
  cases hc : atI lettersDS.cps.toList r with
  | none => rw [hc] at h; cases h
  | some c => rw [hc] at h; exact ⟨c, rfl, h⟩
theorem nameS_1 {c : Nat} (h1 : lowC c = true) (h2 : sgnC c = true) : nameS ⟨#[c]⟩ = true := nameS_of (l := []) rfl h1 h2 (by simp) (by simp)
/-- the words -/
def wordsL : List Str := ["plain", "points", "crossing", "over", "stretch", "join", "gate", "signal", "left", "right"]
theorem words_ok : ∀ s ∈ wordsL, nameS s = true := by
  have h : wordsL.all nameS = true := by decide +kernel
  exact List.all_eq_true.mp h
theorem l_letters : lettersDS.length = 36 := by decide +kernel
abbrev mainS : Str := "mainline"
theorem l_main : mainS.length = 8 := by decide +kernel
/-- mainline with one sign put otherwise -/
theorem main_cut {at' : Int} {c : Nat} (h0 : 0 < at') (h8 : at' < 8) (hc : sgnC c = true) : nameS ((cutS mainS none (some at') ++ ⟨#[c]⟩) ++ cutS mainS (some (at' + 1)) none) = true := by
  have e : at' = 1 ∨ at' = 2 ∨ at' = 3 ∨ at' = 4 ∨ at' = 5 ∨ at' = 6 ∨ at' = 7 := by omega
  have k1 : sgnC 109 = true := by decide +kernel
  have k2 : sgnC 97 = true := by decide +kernel
  have k3 : sgnC 105 = true := by decide +kernel
  have k4 : sgnC 110 = true := by decide +kernel
  have k5 : sgnC 108 = true := by decide +kernel
  have k6 : sgnC 101 = true := by decide +kernel
  have k0 : lowC 109 = true := by decide +kernel
  rcases e with rfl | rfl | rfl | rfl | rfl | rfl | rfl
  · refine nameS_of (c := 109) (l := [c, 105, 110, 108, 105, 110, 101]) (by rw [app_list, app_list]; with_unfolding_all rfl) k0 k1 (by simp [hc, k2, k3, k4, k5, k6]) (Nat.le_refl 7)
  · refine nameS_of (c := 109) (l := [97, c, 110, 108, 105, 110, 101]) (by rw [app_list, app_list]; with_unfolding_all rfl) k0 k1 (by simp [hc, k2, k3, k4, k5, k6]) (Nat.le_refl 7)
  · refine nameS_of (c := 109) (l := [97, 105, c, 108, 105, 110, 101]) (by rw [app_list, app_list]; with_unfolding_all rfl) k0 k1 (by simp [hc, k2, k3, k4, k5, k6]) (Nat.le_refl 7)
  · refine nameS_of (c := 109) (l := [97, 105, 110, c, 105, 110, 101]) (by rw [app_list, app_list]; with_unfolding_all rfl) k0 k1 (by simp [hc, k2, k3, k4, k5, k6]) (Nat.le_refl 7)
  · refine nameS_of (c := 109) (l := [97, 105, 110, 108, c, 110, 101]) (by rw [app_list, app_list]; with_unfolding_all rfl) k0 k1 (by simp [hc, k2, k3, k4, k5, k6]) (Nat.le_refl 7)
  · refine nameS_of (c := 109) (l := [97, 105, 110, 108, 105, c, 101]) (by rw [app_list, app_list]; with_unfolding_all rfl) k0 k1 (by simp [hc, k2, k3, k4, k5, k6]) (Nat.le_refl 7)
  · refine nameS_of (c := 109) (l := [97, 105, 110, 108, 105, 110, c]) (by rw [app_list, app_list]; with_unfolding_all rfl) k0 k1 (by simp [hc, k2, k3, k4, k5, k6]) (Nat.le_refl 7)
theorem main_cut0 {c : Nat} (h1 : lowC c = true) (h2 : sgnC c = true) : nameS (⟨#[c]⟩ ++ cutS mainS (some (0 + 1)) none) = true := by
  have k2 : sgnC 97 = true := by decide +kernel
  have k3 : sgnC 105 = true := by decide +kernel
  have k4 : sgnC 110 = true := by decide +kernel
  have k5 : sgnC 108 = true := by decide +kernel
  have k6 : sgnC 101 = true := by decide +kernel
  exact nameS_of (c := c) (l := [97, 105, 110, 108, 105, 110, 101]) (by rw [app_list]; with_unfolding_all rfl) h1 h2 (by simp [k2, k3, k4, k5, k6]) (Nat.le_refl 7)
/-- a join of nothing between -/
theorem join_list : ∀ ss : List Str, (Txt.join Str.empty ss).cps.toList = (ss.map fun s => s.cps.toList).flatten := by
  intro ss
  have key : ∀ (l : List Str) (acc : Array Nat), (l.foldl (fun acc p => acc ++ Str.empty.cps ++ p.cps) acc).toList = acc.toList ++ (l.map fun s => s.cps.toList).flatten := by
    intro l
    induction l with
    | nil => intro acc; simp
    | cons a l ih =>
      intro acc
      rw [List.foldl_cons, ih]
      have e : Str.empty.cps = #[] := rfl
      rw [e]; simp
  show (((ss.drop 1).foldl (fun acc p => acc ++ Str.empty.cps ++ p.cps) (ss.headD Str.empty).cps)).toList = _
  rw [key]
  cases ss with
  | nil => rfl
  | cons a l => simp
/-- the spare names -/
def spareS (i : Nat) : Str := ("x" : Str) ++ numT (i : Int)
theorem spare_ok : ∀ i : Fin 60, nameS (spareS i.val) = true := by decide +kernel
theorem spare_inj : ∀ i j : Fin 60, spareS i.val = spareS j.val → i = j := by decide +kernel
end PL
namespace PL
open PySem PySem.Spec PyProof.Rows L2 GA GxR DL
structure Chg (u : Addr) (m m' : M) : Prop where
  gh : m'.gh = m.gh
  old : ∀ a o, a ≠ u → m.mu a = some o → m'.mu a = some o
theorem Ext.chg {m m' : M} (h : Ext m m') (u : Addr) : Chg u m m' := ⟨h.gh, fun a o _ e => h.old a o e⟩
theorem Chg.ext {m m' m'' : M} {u : Addr} (h : Chg u m m') (e : Ext m' m'') : Chg u m m'' := ⟨e.gh.trans h.gh, fun a o n z => e.old a o (h.old a o n z)⟩
theorem Ext.trans_chg {m m' m'' : M} {u : Addr} (e : Ext m m') (h : Chg u m' m'') : Chg u m m'' := ⟨h.gh.trans e.gh, fun a o n z => h.old a o n (e.old a o z)⟩
theorem Chg.set {m m' : M} {u : Addr} {o : DO} (h : Chg u m m') : Chg u m (m'.set u o) := ⟨h.gh, fun a x n z => by rw [M.set_ne n]; exact h.old a x n z⟩
def spPick : DSp := fun ds m Q => ∃ d s ds', ds = [d, s] ∧ Dk m d ∧ SeqD m s ds' ∧ ds' ≠ [] ∧ ds'.length < 1073741824 ∧ ∀ y ∈ ds', Q y m
def spName : DSp := fun ds m Q => ∃ d u us, ds = [d, .ref u] ∧ Dk m d ∧ m.mu u = some (.lst (us.map D.str)) ∧ us.length < 60 ∧ ∀ s m', nameS s = true → s ∉ us → Chg u m m' → m'.mu u = some (.lst ((us ++ [s]).map D.str)) → Q (.str s) m'
theorem _root_.DL.SeqD.len {m : M} {s : D} {ds : List D} (h : SeqD m s ds) : lenD m s ds.length := by
  rcases h with rfl | rfl | ⟨a, rfl, h⟩
  · rfl
  · rfl
  · exact ⟨ds, h, rfl⟩
theorem _root_.DL.SeqD.ix {m : M} {s : D} {ds : List D} {i : Int} {d : D} {Q : DK} (h : SeqD m s ds) (hi : atI ds i = some d) (q : Q d m) : rdIx s (.int i) m Q := by
  rcases h with rfl | rfl | ⟨a, rfl, h⟩
  · exact ⟨d, hi, q⟩
  · exact ⟨d, hi, q⟩
  · exact ⟨ds, d, h, hi, q⟩
theorem atI_mem {α : Type} {xs : List α} {i : Int} (h0 : 0 ≤ i) (h1 : i < xs.length) : ∃ d, atI xs i = some d ∧ d ∈ xs := by
  have h2 : i.toNat < xs.length := by omega
  refine ⟨xs[i.toNat], ?_, List.getElem_mem h2⟩
  unfold atI ixN
  rw [if_pos h0, if_pos h1]
  simp [h2]
theorem strIx {z : Str} {i : Int} {c : Nat} {m : M} {Q : DK} (hz : z.length ≤ 1000) (h : atI z.cps.toList i = some c) (q : Q (.str ⟨#[c]⟩) m) : rdIx (.str z) (.int i) m Q := ⟨c, slk hz, h, q⟩
theorem any_str {s : Str} : ∀ {us : List Str}, ((us.map D.str).any fun d => eqFl d (.str s)) = decide (s ∈ us)
  | [] => by simp
  | u :: us => by
    rw [List.map_cons, List.any_cons, any_str, eqFl_str]
    by_cases h : u = s
    · subst h; simp
    · have : (u == s) = false := by simpa using h
      rw [this, Bool.false_or]
      by_cases h2 : s ∈ us
      · simp [h2]
      · have : s ≠ u := fun z => h z.symm
        simp [h2, this]
theorem flat_strs : ∀ us : List Str, (us.map D.str).all flatD = true
  | [] => rfl
  | u :: us => by rw [List.map_cons, List.all_cons, flat_strs us]; rfl
theorem inL {neg : Bool} {s : Str} {y : D} {us : List Str} {m : M} {Q : DK} (hs : SeqD m y (us.map D.str)) (q : Q (.bl (if neg then !decide (s ∈ us) else decide (s ∈ us))) m) : rdIn neg (.str s) y m Q := ⟨_, hs, rfl, flat_strs us, by rw [any_str]; exact q⟩
theorem nodup_le {α : Type} [DecidableEq α] : ∀ {l us : List α}, l.Nodup → (∀ x ∈ l, x ∈ us) → l.length ≤ us.length
  | [], _, _, _ => Nat.zero_le _
  | x :: l, us, nd, h => by
    have h1 := h x List.mem_cons_self
    rw [List.nodup_cons] at nd
    have h2 := nodup_le (us := us.erase x) nd.2 fun y hy => (List.mem_erase_of_ne (show y ≠ x from fun z => nd.1 (by rw [← z]; exact hy))).mpr (h y (List.mem_cons_of_mem _ hy))
    rw [List.length_erase_of_mem h1] at h2
    have h3 : 0 < us.length := List.length_pos_of_mem h1
    rw [List.length_cons]; omega
theorem spares_nd : ((List.range 60).map spareS).Nodup := by decide +kernel
/-- some spare name is not in use -/
theorem spare_free {us : List Str} (h : us.length < 60) : ∃ i : Nat, i < 60 ∧ spareS i ∉ us := by
  by_cases hn : ∃ i : Nat, i < 60 ∧ spareS i ∉ us
  · exact hn
  · have := nodup_le spares_nd (us := us) fun x hx => by
      obtain ⟨i, hi, rfl⟩ := List.mem_map.mp hx
      by_cases z : spareS i ∈ us
      · exact z
      · exact (hn ⟨i, List.mem_range.mp hi, z⟩).elim
    rw [List.length_map, List.length_range] at this
    omega
theorem Outs.ne {Rel : D → Option D → Prop} {xs ys : List D} {d : D} (h : Outs Rel xs ys) (hd : d ∈ xs) (hk : ¬ Rel d none) : ys ≠ [] := by
  induction h with
  | nil => cases hd
  | keep h t ih => exact fun z => by cases z
  | skip h t ih =>
    rcases List.mem_cons.mp hd with rfl | hd
    · exact (hk h).elim
    · exact ih hd
theorem num60 (i : Nat) (h : i < 60) : ((i : Int)).natAbs.log2 < 1920 := by
  rw [Int.natAbs_natCast]
  by_cases h0 : i = 0
  · subst h0; decide
  · have := (Nat.log2_lt h0 (k := 6)).mpr (by omega)
    omega
theorem spare_len (i : Nat) (h : i < 60) : (spareS i).length ≤ 8 := (nameS_len (spare_ok ⟨i, h⟩)).2
theorem strI {i : Int} {m : M} {Q : DK} (h : i.natAbs.log2 < 1920) (q : Q (.str (numT i)) m) : rdStr [.int i] m Q := ⟨i, rfl, h, q⟩
theorem spare_fun : ∀ a b : Nat, (fun i : Nat => D.int (i : Int)) a = (fun i : Nat => D.int (i : Int)) b → (fun i : Nat => D.str (spareS i)) a = (fun i : Nat => D.str (spareS i)) b := by
  intro a b e
  dsimp only at e ⊢
  injection e with e
  have : a = b := by omega
  rw [this]
theorem slS {z : Str} {lo hi : Option Int} {m : M} {Q : DK} (hz : z.length ≤ 1000) (q : Q (.str (cutS z lo hi)) m) : rdSl (.str z) lo hi m Q := ⟨slk hz, q⟩
/-- a walk over known things -/
def cw (xs : List D) (m : M) : DTI := fun _ m0 R => R xs (fun m' => Ext m m') m0
theorem cw_w {xs : List D} {m : M} {δ : Sl} : WkS m xs (cw xs m) δ := fun R hR => hR _ m (Ext.refl m) fun _ h => h
theorem dLC_draw {te te2 : DTr} {g : Tg} {tt : DTT} {ow : List Nat} {δ : Sl} {m : M} {Q : DK} {n : Int} (hn : n < 2 ^ 62) (hT : ∀ R : DK, (∀ r : Int, 0 ≤ r → r < n → R (.int r) m) → te δ m R)
    (h : ∀ r : Nat, (r : Int) < n → dLC (cw (rangeD r) m) g tt te2 ow δ m Q) : dLC (iR1 te) g tt te2 ow δ m Q := by
  refine hT _ fun r h0 h1 => ⟨r, rfl, by omega, by omega, fun p hp => ?_⟩
  have e : ((r.toNat : Nat) : Int) = r := by omega
  obtain ⟨P, p0, p1, p2, p3⟩ := h r.toNat (by omega) p hp
  exact ⟨P, p0, fun _ _ _ => trivial, p2, p3⟩
theorem Outs.exL {α : Type} {h : α → D} {P : α → Prop} : ∀ {xs ys : List D}, Outs (fun _ o => ∃ a, P a ∧ o = some (h a)) xs ys → ∃ l : List α, ys = l.map h ∧ (∀ a ∈ l, P a) ∧ l.length = xs.length := by
  intro xs ys o
  induction o with
  | nil => exact ⟨[], rfl, by simp, rfl⟩
  | keep r t ih =>
    obtain ⟨a, pa, e⟩ := r
    obtain ⟨l, e1, e2, e3⟩ := ih
    cases e
    exact ⟨a :: l, by rw [e1]; rfl, fun b hb => by
      rcases List.mem_cons.mp hb with rfl | hb
      · exact pa
      · exact e2 b hb, by rw [List.length_cons, e3]; rfl⟩
  | skip r t ih => obtain ⟨a, _, e⟩ := r; cases e
theorem join_signs {c : Nat} {cs : List Nat} : (⟨#[c]⟩ ++ Txt.join "" (cs.map fun c => ⟨#[c]⟩) : Str).cps.toList = c :: cs := by
  have e : Txt.join "" (cs.map fun c => (⟨#[c]⟩ : Str)) = Txt.join Str.empty (cs.map fun c => (⟨#[c]⟩ : Str)) := rfl
  rw [e, app_list, join_list]
  have e2 : ∀ cs : List Nat, ((cs.map fun c => (⟨#[c]⟩ : Str)).map fun s => s.cps.toList).flatten = cs := by
    intro cs
    induction cs with
    | nil => rfl
    | cons c cs ih => rw [List.map_cons, List.map_cons, List.flatten_cons, ih]; rfl
  rw [e2]; rfl
end PL

namespace PL
open PySem PySem.Spec PyProof.Rows L2 GA GxR DL TM
/-! ### the fault of a plan, as a function -/
def endK (e : End) : List Key := [Sum.inr e.1, Sum.inl e.2]
theorem endK_d (e : End) : D.tup ((endK e).map kD) = endD e := rfl
theorem endK_inj {a b : End} (h : endK a = endK b) : a = b := by
  obtain ⟨a1, a2⟩ := a; obtain ⟨b1, b2⟩ := b
  unfold endK at h
  injection h with h1 h2
  injection h2 with h3 _
  injection h1 with h1; injection h3 with h3
  dsimp only at h1 h3
  rw [h1, h3]
theorem key_str_inj {a b : Str} (h : (Sum.inr a : Key) = Sum.inr b) : a = b := by injection h
def dupGo : List Str → List Str → Option Str
  | _, [] => none
  | seen, x :: xs => if x ∈ seen then some x else dupGo (x :: seen) xs
def Pln.nms (p : Pln) : List Str := p.st.map (·.1) ++ p.ga.map (·.1) ++ p.si.map (·.1)
def kindAt (st : List (Str × Str)) (n : Str) : Option Str := st.foldl (fun acc x => if x.1 = n then some x.2 else acc) none
def partAt (jo : List (End × End)) (e : End) : Option End := jo.foldl (fun acc j => if j.2 = e then some j.1 else if j.1 = e then some j.2 else acc) none
def nEnds (k : Str) : Int := if k = "plain" then 2 else if k = "points" then 3 else 4
def endEx (st : List (Str × Str)) (e : End) : Bool := match kindAt st e.1 with
  | some k => decide (e.2 < nEnds k)
  | none => false
def Pln.gs (p : Pln) : List (Str × End) := p.ga ++ p.si.map fun s => (s.1, s.2.1)
def missEnd (p : Pln) : Option Str := ((p.jo.find? fun j => !endEx p.st j.1 || !endEx p.st j.2).map fun j => j.1.1).or ((p.gs.find? fun g => !endEx p.st g.2).map (·.1))
def wjGo : List End → List (End × End) → Option Str
  | _, [] => none
  | seen, j :: js => if j.1.1 = j.2.1 ∨ j.1 ∈ seen ∨ j.2 ∈ seen then some j.1.1 else wjGo (j.2 :: j.1 :: seen) js
def wpGo (st : List (Str × Str)) (jo : List (End × End)) (at' : Bool) : List End → List (Str × End) → Option Str
  | _, [] => none
  | seen, g :: l => if (partAt jo g.2).isSome ≠ at' ∨ g.2 ∈ seen ∨ kindAt st g.2.1 ≠ some ("plain" : Str) then some g.1 else wpGo st jo at' (g.2 :: seen) l
def waysK (k : Str) : List (Int × Int) := if k = "plain" then [(0, 1), (1, 0)] else if k = "points" then [(0, 1), (1, 0), (0, 2), (2, 0)] else [(0, 1), (1, 0), (2, 3), (3, 2)]
def fitsOv (st : List (Str × Str)) (beg : Option End) (t : Step) : Bool := decide (beg = some (t.1, t.2.1)) && (match kindAt st t.1 with
  | some k => (decide (k = "plain") || decide (k = "crossing")) && decide ((t.2.1, t.2.2) ∈ waysK k)
  | none => false)
def badOv (p : Pln) (s : Str × End × Option Step) : Bool := match s.2.2 with
  | none => false
  | some t => !fitsOv p.st (partAt p.jo s.2.1) t
def wrongOv (p : Pln) : Option Str := (p.si.find? (badOv p)).map (·.1)
def firstTag : List (Str × Option Str) → Option (Str × Str)
  | [] => none
  | (_, none) :: r => firstTag r
  | (w, some n) :: _ => some (w, n)
def Pln.gs2 (p : Pln) : List (Str × End) := p.si.map fun s => (s.1, s.2.1)
def faultP (p : Pln) : Option (Str × Str) := firstTag [("name", dupGo [] p.nms), ("end", missEnd p), ("joint", wjGo [] p.jo), ("gate", wpGo p.st p.jo false [] p.ga), ("signal", wpGo p.st p.jo true [] p.gs2), ("overlap", wrongOv p)]
/-! ### the dicts -/
def kindsKV (st : List (Str × Str)) : List (Key × D) := st.foldl (fun acc x => putD acc (.inr x.1) (.str x.2)) []
def partKV (jo : List (End × End)) : List (List Key × D) := jo.foldl (fun acc j => putD (putD acc (endK j.1) (endD j.2)) (endK j.2) (endD j.1)) []
theorem valD_put {κ : Type} [DecidableEq κ] {k j : κ} {v : D} : ∀ {kvs : List (κ × D)}, valD (putD kvs k v) j = if k = j then some v else valD kvs j := by
  intro kvs
  unfold putD
  by_cases ha : (kvs.any fun kv => decide (kv.1 = k)) = true
  · rw [if_pos ha]
    induction kvs with
    | nil => simp at ha
    | cons x l ih =>
      unfold valD at *
      rw [List.map_cons, List.find?_cons, List.find?_cons]
      by_cases hx : x.1 = k
      · rw [if_pos hx]
        by_cases hj : k = j
        · subst hj; simp [hx]
        · have h1 : decide (x.1 = j) = false := decide_eq_false (by rw [hx]; exact hj)
          dsimp only
          rw [h1, if_neg hj]
          dsimp only
          by_cases hl : (l.any fun kv => decide (kv.1 = k)) = true
          · rw [ih hl, if_neg hj]
          · have e : l.map (fun kv => if kv.1 = k then (kv.1, v) else kv) = l := by
              have : ∀ y ∈ l, (fun kv : κ × D => if kv.1 = k then (kv.1, v) else kv) y = y := fun y hy => by
                have : ¬ y.1 = k := fun z => hl (List.any_eq_true.mpr ⟨y, hy, decide_eq_true z⟩)
                simp [this]
              exact (List.map_congr_left this).trans (List.map_id l)
            rw [e]
      · rw [if_neg hx]
        have hl : (l.any fun kv => decide (kv.1 = k)) = true := by
          rw [List.any_cons, decide_eq_false hx, Bool.false_or] at ha; exact ha
        by_cases hj : x.1 = j
        · have h2 : ¬ k = j := fun z => hx (hj.trans z.symm)
          simp [hj, h2]
        · rw [decide_eq_false hj]
          exact ih hl
  · rw [if_neg ha]
    unfold valD
    rw [List.find?_append]
    by_cases hj : k = j
    · subst hj
      have : kvs.find? (fun kv => decide (kv.1 = k)) = none := by
        rw [List.find?_eq_none]
        intro x hx z
        exact ha (List.any_eq_true.mpr ⟨x, hx, z⟩)
      rw [this, if_pos rfl]; simp
    · rw [if_neg hj]
      have : ([(k, v)] : List (κ × D)).find? (fun kv => decide (kv.1 = j)) = none := by simp [hj]
      rw [this, Option.or_none]
theorem putD_len {κ : Type} [DecidableEq κ] {k : κ} {v : D} {kvs : List (κ × D)} : (putD kvs k v).length ≤ kvs.length + 1 := by
  unfold putD
  split
  · rw [List.length_map]; omega
  · rw [List.length_append]; exact Nat.le_refl _
theorem kinds_val (st : List (Str × Str)) (n : Str) : valD (kindsKV st) (.inr n) = (kindAt st n).map D.str := by
  have key : ∀ (l : List (Str × Str)) (acc : List (Key × D)) (o : Option Str), valD acc (.inr n) = o.map D.str → valD (l.foldl (fun acc x => putD acc (.inr x.1) (.str x.2)) acc) (.inr n) = (l.foldl (fun acc x => if x.1 = n then some x.2 else acc) o).map D.str := by
    intro l
    induction l with
    | nil => exact fun _ _ h => h
    | cons x l ih =>
      intro acc o h
      rw [List.foldl_cons, List.foldl_cons]
      refine ih _ _ ?_
      rw [valD_put]
      by_cases e : x.1 = n
      · rw [if_pos (by rw [e]), if_pos e]; rfl
      · rw [if_neg fun z => e (key_str_inj z), if_neg e]; exact h
  exact key st [] none rfl
theorem part_val (jo : List (End × End)) (e : End) : valD (partKV jo) (endK e) = (partAt jo e).map endD := by
  have key : ∀ (l : List (End × End)) (acc : List (List Key × D)) (o : Option End), valD acc (endK e) = o.map endD → valD (l.foldl (fun acc j => putD (putD acc (endK j.1) (endD j.2)) (endK j.2) (endD j.1)) acc) (endK e) = (l.foldl (fun acc j => if j.2 = e then some j.1 else if j.1 = e then some j.2 else acc) o).map endD := by
    intro l
    induction l with
    | nil => exact fun _ _ h => h
    | cons x l ih =>
      intro acc o h
      rw [List.foldl_cons, List.foldl_cons]
      refine ih _ _ ?_
      rw [valD_put, valD_put]
      by_cases e2 : x.2 = e
      · rw [if_pos (by rw [e2]), if_pos e2]; rfl
      · rw [if_neg fun z => e2 (endK_inj z), if_neg e2]
        by_cases e1 : x.1 = e
        · rw [if_pos (by rw [e1]), if_pos e1]; rfl
        · rw [if_neg fun z => e1 (endK_inj z), if_neg e1]; exact h
  exact key jo [] none rfl
theorem kindsKV_snoc (st : List (Str × Str)) (x : Str × Str) : kindsKV (st ++ [x]) = putD (kindsKV st) (.inr x.1) (.str x.2) := by unfold kindsKV; rw [List.foldl_append]; rfl
theorem partKV_snoc (jo : List (End × End)) (j : End × End) : partKV (jo ++ [j]) = putD (putD (partKV jo) (endK j.1) (endD j.2)) (endK j.2) (endD j.1) := by unfold partKV; rw [List.foldl_append]; rfl
theorem kindsKV_len (st : List (Str × Str)) : (kindsKV st).length ≤ st.length := by
  have key : ∀ (l : List (Str × Str)) (acc : List (Key × D)), (l.foldl (fun acc x => putD acc (.inr x.1) (.str x.2)) acc).length ≤ acc.length + l.length := by
    intro l
    induction l with
    | nil => exact fun _ => Nat.le_refl _
    | cons x l ih =>
      intro acc
      have h1 := ih (putD acc (.inr x.1) (.str x.2))
      have h2 := putD_len (k := (Sum.inr x.1 : Key)) (v := .str x.2) (kvs := acc)
      rw [List.foldl_cons, List.length_cons]; omega
  have := key st []
  simpa [kindsKV] using this
theorem partKV_len (jo : List (End × End)) : (partKV jo).length ≤ 2 * jo.length := by
  have key : ∀ (l : List (End × End)) (acc : List (List Key × D)), (l.foldl (fun acc j => putD (putD acc (endK j.1) (endD j.2)) (endK j.2) (endD j.1)) acc).length ≤ acc.length + 2 * l.length := by
    intro l
    induction l with
    | nil => exact fun _ => Nat.le_refl _
    | cons x l ih =>
      intro acc
      have h1 := ih (putD (putD acc (endK x.1) (endD x.2)) (endK x.2) (endD x.1))
      have h2 := putD_len (k := endK x.1) (v := endD x.2) (kvs := acc)
      have h3 := putD_len (k := endK x.2) (v := endD x.1) (kvs := putD acc (endK x.1) (endD x.2))
      rw [List.foldl_cons, List.length_cons]; omega
  have := key jo []
  simpa [partKV] using this
theorem kindAt_ok {st : List (Str × Str)} {n k : Str} (h : kindAt st n = some k) : (n, k) ∈ st := by
  have key : ∀ (l : List (Str × Str)) (o : Option Str), l.foldl (fun acc x => if x.1 = n then some x.2 else acc) o = some k → o = some k ∨ (n, k) ∈ l := by
    intro l
    induction l with
    | nil => exact fun _ h => .inl h
    | cons x l ih =>
      intro o h
      rw [List.foldl_cons] at h
      rcases ih _ h with z | z
      · by_cases e : x.1 = n
        · rw [if_pos e] at z
          refine .inr ?_
          have : x = (n, k) := by cases x; simp only at e z; rw [e]; cases z; rfl
          rw [this]; exact List.mem_cons_self
        · rw [if_neg e] at z; exact .inl z
      · exact .inr (List.mem_cons_of_mem _ z)
  rcases key st none h with z | z
  · cases z
  · exact z
/-! ### what a call finds -/
def optS : Option Str → D
  | none => .non
  | some s => .str s
def optE : Option End → D
  | none => .non
  | some e => endD e
def optF : Option (Str × Str) → D
  | none => .non
  | some f => .tup [.str f.1, .str f.2]
/-- asked of a plan, answered with data -/
def spPl (f : Pln → D) : DSp := fun ds m Q => ∃ p : Pln, ds = [p.d] ∧ p.Ok ∧ ∀ m', Ext m m' → Q (f p) m'
end PL

namespace PL
open PySem PySem.Spec PyProof.Rows L2 GA GxR DL
def spLines : DSp := fun ds m Q => ∃ p : Pln, ds = [p.d] ∧ p.Ok ∧ ∀ a m', Ext m m' → m'.mu a = some (.lst (p.lines.map D.str)) → Q (.ref a) m'
def spShuf : DSp := fun ds m Q => ∃ d xs, ds = [d, .tup xs] ∧ Dk m d ∧ xs.length ≤ 1000 ∧ ∀ ys m', (∀ y ∈ ys, y ∈ xs) → ys.length = xs.length → Ext m m' → Q (.tup ys) m'
def spText (Ok : M → Prop) : DSp := fun ds m Q => ∃ p : Pln, ds = [p.d] ∧ p.Ok ∧ Ok m ∧ ∀ m', Ext m m' → Q (.str (Txt.join "\n" p.lines)) m'
def spWrit (Ok : M → Prop) : DSp := fun ds m Q => ∃ p : Pln, ds = [p.d] ∧ p.Ok ∧ Ok m ∧ ∀ m', Ext m m' → Q (.bl true) m'
def spFree : DSp := fun ds m Q => ∃ d, ds = [d] ∧ Dk m d ∧ ∀ (p : Pln) m', p.Ok → Ext m m' → Q p.d m'
theorem endD_ix0 {e : End} {m : M} {Q : DK} (q : Q (.str e.1) m) : rdIx (endD e) (.int 0) m Q := ⟨_, rfl, q⟩
theorem endD_ix1 {e : End} {m : M} {Q : DK} (q : Q (.int e.2) m) : rdIx (endD e) (.int 1) m Q := ⟨_, rfl, q⟩
theorem addL {l k : Addr} {xs ys : List D} {m : M} {Q : DK} (h1 : m.mu l = some (.lst xs)) (h2 : m.mu k = some (.lst ys)) (hz : xs.length + ys.length ≤ 1000) (q : ∀ p, m.mu p = none → Q (.ref p) (m.set p (.lst (xs ++ ys)))) : rdAdd (.ref l) (.ref k) m Q := ⟨xs, ys, h1, h2, slk hz, q⟩
theorem name_sok {s : Str} (h : nameS s = true) : PyData.strOk s = true := by
  unfold nameS at h
  simp only [Bool.and_eq_true] at h
  have h4 := h.2
  unfold PyData.strOk
  rw [Array.all_eq_true']
  intro c hc
  have h5 := List.all_eq_true.mp h4 c (by simpa using hc)
  have h6 : c ∈ lettersDS.cps.toList := by simpa using h5
  have h7 : lettersDS.cps.toList.all (fun c => decide (c < 0x110000)) = true := by decide +kernel
  exact List.all_eq_true.mp h7 c h6
theorem Fine.tup {ds : List D} (h : ∀ d ∈ ds, Fine d) (h2 : ∀ d ∈ ds, d.dep ≤ 50) : Fine (.tup ds) := ⟨pures_of fun d hd => (h d hd).pure, by show D.deps ds + 1 ≤ 60; have := deps_le h2; omega, lay_pys fun d hd => (h d hd).lay⟩
theorem end_fine {e : End} (h : endOk e) : Fine (endD e) := Fine.tup (fun d hd => by
  simp only [List.mem_cons, List.not_mem_nil, or_false] at hd
  rcases hd with rfl | rfl
  · exact Fine.str (name_sok h.1)
  · exact Fine.int _) (fun d hd => by
  simp only [List.mem_cons, List.not_mem_nil, or_false] at hd
  rcases hd with rfl | rfl <;> exact Nat.zero_le _)
theorem step_fine {e : Step} (h : stepOk e) : Fine (stepD e) := Fine.tup (fun d hd => by
  simp only [List.mem_cons, List.not_mem_nil, or_false] at hd
  rcases hd with rfl | rfl | rfl
  · exact Fine.str (name_sok h.1)
  · exact Fine.int _
  · exact Fine.int _) (fun d hd => by
  simp only [List.mem_cons, List.not_mem_nil, or_false] at hd
  rcases hd with rfl | rfl | rfl <;> exact Nat.zero_le _)
/-- overlap == () -/
theorem ov_eq {o : Option Step} {m : M} {Q : DK} (h : ∀ t, o = some t → stepOk t) (q : Q (.bl o.isNone) m) : rdEq false (ovD o) (.tup []) m Q := by
  have f0 : Fine (.tup []) := Fine.tup (fun d hd => by cases hd) (fun d hd => by cases hd)
  cases o with
  | none => exact ⟨_, _, .d f0.pure, .d f0.pure, shaped_d f0, shaped_d f0, q⟩
  | some t =>
    have f1 : Fine (.tup [stepD t]) := Fine.tup (fun d hd => by
      simp only [List.mem_cons, List.not_mem_nil, or_false] at hd; subst hd; exact step_fine (h t rfl)) (fun d hd => by
      simp only [List.mem_cons, List.not_mem_nil, or_false] at hd; subst hd; exact Nat.le_trans (Nat.le_refl 1) (by decide))
    exact ⟨_, _, .d f1.pure, .d f0.pure, shaped_d f1, shaped_d f0, q⟩
theorem isiS {te : DTr} {δ : Sl} {m : M} {Q : DK} {s : Str} (h : ∀ R : DK, R (.str s) m → te δ m R) (q : Q (.bl true) m) : dIsi "str" te δ m Q := h _ ⟨_, _, rfl, kit_ss, q⟩
theorem popL {l : Addr} {ls : List D} {r : Int} {m : M} {Q : DK} (h : m.mu l = some (.lst ls)) (h0 : 0 ≤ r) (h1 : r < ls.length) (hz : ls.length ≤ 1000) (q : ∀ y, y ∈ ls → ls[r.toNat]? = some y → Q y (m.set l (.lst (ls.eraseIdx r.toNat)))) : rdPopAt (.ref l) [.int r] m Q := by
  have h2 : r.toNat < ls.length := by omega
  refine ⟨l, ls, r, r.toNat, ls[r.toNat], rfl, rfl, h, by omega, by omega, ?_, by simp [h2], q _ (List.getElem_mem h2) (by simp [h2])⟩
  refine (L2.ixN_seq (n := ls.length) (i := r) (j := r.toNat) ?_).1
  unfold L2.ixN
  rw [if_pos h0, if_pos h1]
theorem app_emp (a : Str) : a ++ ("" : Str) = a := str_ext (by rw [app_list]; show a.cps.toList ++ [] = _; simp)
theorem take_map_snoc {α β : Type} {l : List α} {i : Nat} {a : α} (f : α → β) (h : l[i]? = some a) : (l.take (i + 1)).map f = (l.take i).map f ++ [f a] := by rw [take_snoc h, List.map_append]; rfl
theorem map_get {α : Type} {f : α → D} {l : List α} {i : Nat} {d : D} (h : (l.map f)[i]? = some d) : ∃ a, l[i]? = some a ∧ d = f a := by
  rw [List.getElem?_map] at h
  cases e : l[i]? with
  | none => rw [e] at h; cases h
  | some a => rw [e] at h; cases h; exact ⟨a, rfl, rfl⟩
end PL

namespace PL
open PySem PySem.Spec PyProof.Rows L2 GA GxR DL
theorem listOf {α : Type} {f : α → D} {P : α → Prop} : ∀ {ys : List D}, (∀ y ∈ ys, ∃ a, y = f a ∧ P a) → ∃ l : List α, ys = l.map f ∧ ∀ a ∈ l, P a
  | [], _ => ⟨[], rfl, by simp⟩
  | y :: ys, h => by
    obtain ⟨a, rfl, pa⟩ := h y List.mem_cons_self
    obtain ⟨l, rfl, pl⟩ := listOf fun z hz => h z (List.mem_cons_of_mem _ hz)
    exact ⟨a :: l, rfl, fun b hb => by
      rcases List.mem_cons.mp hb with rfl | hb
      · exact pa
      · exact pl b hb⟩
theorem pk {α : Type} {f : α → D} {l : List α} {d : D} {a : Addr} {m : M} {Q : DK} (hd : Dk m d) (h : m.mu a = some (.lst (l.map f))) (h0 : l ≠ []) (hl : l.length ≤ 1000) (q : ∀ x ∈ l, Q (f x) m) : spPick [d, .ref a] m Q :=
  ⟨d, .ref a, l.map f, rfl, hd, .inr (.inr ⟨a, rfl, h⟩), (by simpa using h0), (by rw [List.length_map]; omega), fun y hy => by
    obtain ⟨x, hx, rfl⟩ := List.mem_map.mp hy
    exact q x hx⟩
theorem pk' {l : List Str} {d : D} {a : Addr} {m : M} {Q : DK} (hd : Dk m d) (h : m.mu a = some (.lst (l.map D.str))) (h0 : l ≠ []) (hl : l.length ≤ 1000) (q : ∀ x ∈ l, Q (.str x) m) : spPick [d, .ref a] m Q := pk hd h h0 hl q
theorem drw {d : D} {n : Int} {m : M} {Q : DK} (hd : Dk m d) (h0 : 0 < n) (h1 : n < 1073741824) (q : ∀ r, 0 ≤ r → r < n → Q (.int r) m) : spDrawG [d, .int n] m Q := ⟨d, n, rfl, h0, h1, hd, q⟩
theorem dFor_draw {te : DTr} {g : Tg} {tb : DTS} {E : DEnds} {δ : Sl} {m : M} {n : Int} (hn : n < 2 ^ 62) (hT : ∀ R : DK, (∀ r : Int, 0 ≤ r → r < n → R (.int r) m) → te δ m R) (P : Nat → Sl → M → Prop) (h0 : P 0 δ m)
    (hs : ∀ (i : Nat) δ m', (i : Int) < n → P i δ m' → gD g (.int (i : Int)) δ fun δ2 => tb { E with nx := P (i + 1), ct := P (i + 1), bk := E.nx } δ2 m') (hd : ∀ (r : Nat) δ m', (r : Int) < n → P r δ m' → E.nx δ m') : dFor (iR1 te) g tb E δ m := by
  refine hT _ fun r r0 r1 => ⟨r, rfl, by omega, by omega, P, h0, fun _ _ _ _ => trivial, fun i d δ' m' hi hP => ?_, fun δ' m' hP => ?_⟩
  · have hlt : i < r.toNat := by
      by_cases z : i < r.toNat
      · exact z
      · rw [List.getElem?_eq_none (by rw [rangeD_len]; omega)] at hi; cases hi
    rw [rangeD_get hlt] at hi; cases hi
    exact hs i δ' m' (by omega) hP
  · rw [rangeD_len] at hP
    exact hd r.toNat δ' m' (by omega) hP
theorem tupL {a : Addr} {ds : List D} {m : M} {Q : DK} (h : m.mu a = some (.lst ds)) (q : Q (.tup ds) m) : rdTuple [.ref a] m Q := ⟨.ref a, ds, rfl, .inl ⟨a, rfl, h⟩, q⟩
theorem ap {a : Addr} {ds : List D} {y : D} {m : M} {Q : DK} (h : m.mu a = some (.lst ds)) (hz : ds.length < 1000) (q : Q .non (m.set a (.lst (ds ++ [y])))) : rdAppend (.ref a) [y] m Q := ⟨a, ds, y, rfl, rfl, h, slk (by omega), q⟩
theorem kinds3 : ∀ s ∈ (["plain", "points", "crossing"] : List Str), kindS s = true := by decide
end PL

namespace PL
open PySem PySem.Spec PyProof.Rows L2 GA GxR DL
def strKV (kvs : List (Str × Str)) : List (Key × D) := kvs.map fun p => (Sum.inr p.1, D.str p.2)
/-- an end of a stretch of these kinds -/
def KE (kvs : List (Str × Str)) (e : End) : Prop := endOk e ∧ ∃ kind, (e.1, kind) ∈ kvs ∧ kindS kind = true ∧ (kind = "plain" → e.2 ≤ 1)
def spOver : DSp := fun ds m Q => ∃ (d : D) (k : Addr) (kvs : List (Str × Str)) (e : End), ds = [d, .ref k, endD e] ∧ Dk m d ∧ m.mu k = some (.dic (strKV kvs)) ∧ (kvs.map (·.1)).Nodup ∧ KE kvs e ∧ ∀ o, (∀ t, o = some t → stepOk t) → Q (ovD o) m
/-- the dict of joined ends -/
def joKV (kvs : List (End × End)) : List (List Key × D) := kvs.map fun p => ([Sum.inr p.1.1, Sum.inl p.1.2], endD p.2)
structure Chg2 (u v : Addr) (m m' : M) : Prop where
  gh : m'.gh = m.gh
  old : ∀ a o, a ≠ u → a ≠ v → m.mu a = some o → m'.mu a = some o
def spJoints : DSp := fun ds m Q => ∃ (Pe : End → Prop) (d : D) (f j : Addr) (es : List End), ds = [d, .ref f, .ref j] ∧ Dk m d ∧ f ≠ j ∧ m.mu f = some (.lst (es.map endD)) ∧ m.mu j = some (.dit []) ∧ es.length ≤ 100 ∧ (∀ e ∈ es, Pe e) ∧ (∀ e, Pe e → endOk e) ∧
  ∀ (a : Addr) (m' : M) (js : List (End × End)) (es' : List End) (kvs : List (End × End)), Chg2 f j m m' → m.mu a = none → m'.mu f = some (.lst (es'.map endD)) → m'.mu j = some (.dit (joKV kvs)) → m'.mu a = some (.lst (js.map joD)) → (∀ x ∈ js, joOk x) → js.length ≤ 16 → (∀ e ∈ es', Pe e) → es'.length ≤ es.length → (∀ p ∈ kvs, Pe p.1 ∧ Pe p.2) → kvs.length ≤ 32 → Q (.ref a) m'
def spChecked : DSp := fun ds m Q => ∃ (d : D) (u : Addr) (us : List Str) (k : Nat), ds = [d, .ref u, .int k] ∧ Dk m d ∧ m.mu u = some (.lst (us.map D.str)) ∧ us = [] ∧ k ≤ 12 ∧ ∀ (p : Pln) m', p.Ok → Chg u m m' → Q p.d m'
theorem nd_ne {l : List Addr} (nd : l.Nodup) {i j : Nat} {a b : Addr} (hi : l[i]? = some a) (hj : l[j]? = some b) (h : i ≠ j) : a ≠ b := by
  intro e; subst e
  have h1 : i < l.length := by
    by_cases z : i < l.length
    · exact z
    · rw [List.getElem?_eq_none (by omega)] at hi; cases hi
  exact h ((List.getElem?_inj h1 nd).mp (hi.trans hj.symm))
theorem neOf {m : M} {a p : Addr} {o : DO} (h : m.mu a = some o) (hp : m.mu p = none) : a ≠ p := fun e => by subst e; rw [h] at hp; cases hp
theorem valStr {nm kind : Str} : ∀ {kvs : List (Str × Str)}, (nm, kind) ∈ kvs → (kvs.map (·.1)).Nodup → valD (strKV kvs) (.inr nm) = some (.str kind)
  | [], h, _ => by cases h
  | (a, b) :: kvs, h, nd => by
    rw [List.map_cons, List.nodup_cons] at nd
    unfold valD strKV
    rw [List.map_cons, List.find?_cons]
    by_cases e : a = nm
    · subst e
      have : b = kind := by
        rcases List.mem_cons.mp h with h | h
        · cases h; rfl
        · exact (nd.1 (List.mem_map.mpr ⟨_, h, rfl⟩)).elim
      subst this
      simp
    · have h' : (nm, kind) ∈ kvs := by
        rcases List.mem_cons.mp h with h | h
        · cases h; exact (e rfl).elim
        · exact h
      have ih := valStr h' nd.2
      unfold valD strKV at ih
      have : decide ((Sum.inr a : Key) = Sum.inr nm) = false := decide_eq_false fun z => e (by injection z)
      simp only [this]
      exact ih
theorem putStr {nm kind : Str} {kvs : List (Str × Str)} (h : nm ∉ kvs.map (·.1)) : putD (strKV kvs) (.inr nm) (.str kind) = strKV (kvs ++ [(nm, kind)]) := by
  unfold putD
  have : ((strKV kvs).any fun kv => decide (kv.1 = (Sum.inr nm : Key))) = false := by
    rw [Bool.eq_false_iff]
    intro z
    obtain ⟨p, hp, hq⟩ := List.any_eq_true.mp z
    obtain ⟨x, hx, rfl⟩ := List.mem_map.mp hp
    have hq : (Sum.inr x.1 : Key) = Sum.inr nm := of_decide_eq_true hq
    injection hq with hq
    exact h (List.mem_map.mpr ⟨x, hx, hq⟩)
  rw [this, if_neg Bool.false_ne_true]
  unfold strKV; rw [List.map_append]; rfl
def eKey (e : End) : List Key := [Sum.inr e.1, Sum.inl e.2]
theorem eKey_inj {a b : End} (h : eKey a = eKey b) : a = b := by
  obtain ⟨a1, a2⟩ := a; obtain ⟨b1, b2⟩ := b
  unfold eKey at h; simp at h
  obtain ⟨rfl, rfl⟩ := h; rfl
theorem eKey_D (e : End) : D.tup ((eKey e).map kD) = endD e := rfl
theorem getJo {e : End} : ∀ {kvs : List (End × End)}, e ∈ kvs.map (·.1) → ∃ e', valD (joKV kvs) (eKey e) = some (endD e') ∧ (e, e') ∈ kvs
  | [], h => by cases h
  | (a, b) :: kvs, h => by
    unfold valD joKV
    rw [List.map_cons, List.find?_cons]
    by_cases z : a = e
    · subst z
      refine ⟨b, ?_, List.mem_cons_self⟩
      have : decide ((([Sum.inr a.1, Sum.inl a.2] : List Key)) = eKey a) = true := decide_eq_true rfl
      simp only [this]; rfl
    · have h' : e ∈ kvs.map (·.1) := by
        rw [List.map_cons] at h
        rcases List.mem_cons.mp h with h | h
        · exact (z h.symm).elim
        · exact h
      obtain ⟨e', h1, h2⟩ := getJo h'
      refine ⟨e', ?_, List.mem_cons_of_mem _ h2⟩
      have : decide ((([Sum.inr a.1, Sum.inl a.2] : List Key)) = eKey e) = false := decide_eq_false fun w => z (eKey_inj w)
      simp only [this]
      exact h1
theorem putJo {e e' : End} {kvs : List (End × End)} : ∃ kvs', putD (joKV kvs) (eKey e) (endD e') = joKV kvs' ∧ (∀ p ∈ kvs', p ∈ kvs ∨ p = (e, e')) ∧ kvs'.length ≤ kvs.length + 1 := by
  unfold putD
  split
  · refine ⟨kvs.map fun p => if p.1 = e then (p.1, e') else p, ?_, fun p hp => ?_, by rw [List.length_map]; omega⟩
    · unfold joKV
      rw [List.map_map, List.map_map]
      apply List.map_congr_left
      intro p _
      show (if ([Sum.inr p.1.1, Sum.inl p.1.2] : List Key) = eKey e then (([Sum.inr p.1.1, Sum.inl p.1.2] : List Key), endD e') else (([Sum.inr p.1.1, Sum.inl p.1.2] : List Key), endD p.2)) = _
      by_cases z : p.1 = e
      · have : ([Sum.inr p.1.1, Sum.inl p.1.2] : List Key) = eKey e := by rw [z]; rfl
        rw [if_pos this]
        simp [z]
      · have : ¬ ([Sum.inr p.1.1, Sum.inl p.1.2] : List Key) = eKey e := fun w => z (eKey_inj w)
        rw [if_neg this]
        simp [z]
    · obtain ⟨x, hx, rfl⟩ := List.mem_map.mp hp
      by_cases z : x.1 = e
      · rw [if_pos z]; exact .inr (by rw [z])
      · rw [if_neg z]; exact .inl hx
  · refine ⟨kvs ++ [(e, e')], ?_, fun p hp => ?_, by rw [List.length_append]; exact Nat.le_refl _⟩
    · unfold joKV; rw [List.map_append]; rfl
    · rcases List.mem_append.mp hp with hp | hp
      · exact .inl hp
      · exact .inr (List.mem_singleton.mp hp)
theorem xor_ok {i : Int} (h : numOk i) : numOk (Builtin.bitXor i 1) := by
  rcases num_cases h with rfl | rfl | rfl | rfl <;> (unfold numOk; decide +kernel)
theorem eqv_end {a b : End} : PyData.eqv (endD a).py (endD b).py = decide (a = b) := by
  obtain ⟨a1, a2⟩ := a; obtain ⟨b1, b2⟩ := b
  show (a1 == b1 && ((a2 == b2) && true)) = _
  by_cases h1 : a1 = b1
  · subst h1
    by_cases h2 : a2 = b2
    · subst h2; simp
    · simp [h2]
  · simp [h1]
/-- where an end stands -/
theorem place {e : End} : ∀ {es : List End}, e ∈ es → ∃ j, SeqAt.dataPlace (D.pys (es.map endD)) (endD e).py = some j ∧ es[j]? = some e
  | [], h => by cases h
  | a :: es, h => by
    unfold SeqAt.dataPlace
    show ∃ j, List.findIdx? (fun y => PyData.eqv y (endD e).py) ((endD a).py :: D.pys (es.map endD)) = some j ∧ _
    rw [List.findIdx?_cons, eqv_end]
    by_cases z : a = e
    · subst z; exact ⟨0, by simp, rfl⟩
    · have h' : e ∈ es := by
        rcases List.mem_cons.mp h with h | h
        · exact (z h.symm).elim
        · exact h
      obtain ⟨j, h1, h2⟩ := place h'
      unfold SeqAt.dataPlace at h1
      refine ⟨j + 1, ?_, by simpa using h2⟩
      simp [z, h1]
theorem erase_map : ∀ (es : List End) (j : Nat), (es.map endD).eraseIdx j = (es.eraseIdx j).map endD
  | [], _ => rfl
  | _ :: _, 0 => rfl
  | e :: es, j + 1 => by rw [List.map_cons, List.eraseIdx_cons_succ, List.eraseIdx_cons_succ, List.map_cons, erase_map es j]
theorem remE {f : Addr} {es : List End} {e : End} {m : M} {Q : DK} (h : m.mu f = some (.lst (es.map endD))) (he : e ∈ es) (q : ∀ j, es[j]? = some e → Q .non (m.set f (.lst ((es.eraseIdx j).map endD)))) : rdRemove (.ref f) [endD e] m Q := by
  obtain ⟨j, h1, h2⟩ := place he
  refine ⟨f, _, _, j, rfl, rfl, h, pures_of fun d hd => ?_, rfl, (by rw [dep_py]; exact Nat.le_trans (Nat.le_refl 1) (by decide)), h1, ?_⟩
  · obtain ⟨a, _, rfl⟩ := List.mem_map.mp hd; rfl
  · have e1 : (es.map endD).eraseIdx j = (es.eraseIdx j).map endD := erase_map es j
    rw [e1]; exact q j h2
theorem stays {a b : End} {es : List End} {j : Nat} (hj : es[j]? = some a) (hb : b ∈ es) (ne : b ≠ a) : b ∈ es.eraseIdx j := by
  obtain ⟨i, hi⟩ := List.getElem?_of_mem hb
  have hij : i ≠ j := fun z => by subst z; rw [hj] at hi; cases hi; exact ne rfl
  rw [List.mem_eraseIdx_iff_getElem?]
  exact ⟨i, hij, hi⟩
def manyD : List (Key × D) := [(.inr "plain", .int 2), (.inr "points", .int 3), (.inr "crossing", .int 4)]
theorem dDisp_many {δ : Sl} {m : M} {Q : DK} (h : ∀ p, m.mu p = none → Q (.ref p) ((m.set p (.dic [])).set p (.dic manyD))) : dDisp [("plain", dC (.int 2)), ("points", dC (.int 3)), ("crossing", dC (.int 4))] δ m Q := fun p hp => by
  refine ⟨M.set_same, ?_⟩
  have e : ((([("plain", dC (.int 2)), ("points", dC (.int 3)), ("crossing", dC (.int 4))] : List (Str × DTr)).map fun x => (Sum.inr x.1 : Key)).zip [D.int 2, D.int 3, D.int 4]).foldl (fun acc kv => putD acc kv.1 kv.2) [] = manyD := by with_unfolding_all rfl
  rw [e]; exact h p hp
theorem many_val {kind : Str} (h : kindS kind = true) : ∃ n : Int, valD manyD (.inr kind) = some (.int n) ∧ 0 < n ∧ n ≤ 4 ∧ (kind = "plain" → n ≤ 2) := by
  unfold kindS at h
  simp only [Bool.or_eq_true, beq_iff_eq] at h
  rcases h with (rfl | rfl) | rfl
  · exact ⟨2, by with_unfolding_all rfl, by decide, by decide, fun _ => by decide⟩
  · exact ⟨3, by with_unfolding_all rfl, by decide, by decide, fun z => absurd z (by decide)⟩
  · exact ⟨4, by with_unfolding_all rfl, by decide, by decide, fun z => absurd z (by decide)⟩
theorem nd_add {l : List Addr} {m : M} {p : Addr} {o : DO} (nd : l.Nodup) (hv : ∀ a ∈ l, m.mu a ≠ none) (hp : m.mu p = none) : (l ++ [p]).Nodup ∧ ∀ a ∈ l ++ [p], (m.set p o).mu a ≠ none := by
  refine ⟨List.nodup_append.mpr ⟨nd, by simp, fun a ha b hb e => ?_⟩, fun a ha => ?_⟩
  · rw [List.mem_singleton.mp hb] at e; subst e; exact hv a ha hp
  · by_cases z : a = p
    · subst z; rw [M.set_same]; exact fun z => by cases z
    · rw [M.set_ne z]
      rcases List.mem_append.mp ha with ha | ha
      · exact hv a ha
      · exact (z (List.mem_singleton.mp ha)).elim
theorem KE.more {kvs l : List (Str × Str)} {e : End} (h : KE kvs e) : KE (kvs ++ l) e := by
  obtain ⟨h1, kind, h2, h3⟩ := h
  exact ⟨h1, kind, List.mem_append_left _ h2, h3⟩
theorem kinds6 : ∀ s ∈ (["plain", "plain", "plain", "points", "points", "crossing"] : List Str), kindS s = true := by decide
end PL

namespace DL
open PySem PySem.Spec PyProof.Rows L2 GA GxR
/-! ### defs that are called where no guard is set (what repr of data asks) -/
abbrev NoG (A : Around) : Prop := A.guards = some []
structure FnOkG (P : Program) (w : World) (K : PySem.W.Frag) (mg : Str → Option Value) (base : Heap) (k : Nat) (f : Addr) (fd : FuncData) (ps : List Str) (sp : Sp) : Prop where
  len : ∀ vs H Q E, sp vs H Q E → vs.length = ps.length
  run : ∀ (A : Around) (outer : List Env) (s : Shared) (H : Hp) (args : Args) (us : List Value) (vs : List V) (Q : VK) (E : XK), Room k A → NoG A → Env0 P w K mg base A outer s H → BindsTo s fd args (ps.zip us) → Vals vs us → sp vs H Q E →
    codeAny (model P w) A (.call (.ref f) args) (CR CX0 outer P w H s Q E) s
theorem FnOkG.ofFn {P : Program} {w : World} {K : PySem.W.Frag} {mg : Str → Option Value} {base : Heap} {k : Nat} {f : Addr} {fd : FuncData} {ps : List Str} {sp : Sp} (F : FnOk P w K mg base CX0 k f fd ps sp) : FnOkG P w K mg base k f fd ps sp :=
  ⟨F.len, fun A outer s H args us vs Q E hr _ => F.run A outer s H args us vs Q E hr⟩
theorem deeper_g {A : Around} {env : Env} (h : NoG A) : NoG (A.deeper env) := by
  obtain ⟨a1, a2, a3, a4, a5⟩ := A
  exact h
section
variable {P : Program} {w : World} {K : PySem.W.Frag} {mg : Str → Option Value} {base : Heap}
theorem FnOkG.make {k : Nat} {f : Addr} {name qual : Str} {params : Arguments} {body : List Stmt} {scope : Scope} {dV kV doc pm cdv ct oc : Value} {an od : Option Addr} {osl : Array (Option Value)} {N ps : List Str} {sp : Sp}
    (look : K.lookup f = some ⟨oc, od, .func (PySem.W.fnOf name qual params body scope dV kV doc pm an cdv ct), osl⟩) (hc : PySem.W.codeIn K cdv qual = true) (S : FnScope N ps scope) (len : ∀ vs H Q E, sp vs H Q E → vs.length = ps.length)
    (hbody : ∀ (A : Around) (outer : List Env) (s : Shared) (H : Hp) (vs : List V) (Q : VK) (E : XK), Room k (A.deeper (envOfC qual scope s.heap.objs.size f cdv)) → NoG (A.deeper (envOfC qual scope s.heap.objs.size f cdv)) → sp vs H Q E →
      ∃ t, PSs (cxOf CX0 P w K mg base N qual scope f cdv A outer s H E) body t ∧ t { nx := fun _ H' => Q .non H', rt := Q } (start N vs) H) :
    FnOkG P w K mg base (k + 1) f (PySem.W.fnOf name qual params body scope dV kV doc pm an cdv ct) ps sp where
  len := len
  run := fun A outer s H args us vs Q E room ng env0 bnd rel spec => by
    have Ks : K.In s.heap := env0.mod.kin.keeps fun b ob z => (env0.bs b ob z).1
    have nolim : s.heap.NoLimit := env0.mod.nolimit.keeps fun b ob z => (env0.bs b ob z).1
    have kinds : ∀ y ∈ ps.zip us, scope.names.lookup y.1 = some .local ∨ (scope.names.lookup y.1 = some .cell ∧ ((cellsFrom (s.heap.objs.size + 1) scope.names []).lookup y.1).isSome = true) := by
      rintro ⟨nm, val⟩ hy
      exact (S.par nm (List.of_mem_zip hy).1).imp id fun z => ⟨z, PySem.W.cellsFrom_some _ _ _ (.inl z)⟩
    refine codeAny_call_function room.depth (Ks _ _ look) rfl S.co S.gen rfl (PySem.W.codeRec_of Ks hc) (bnd _ _ _ _ ?_)
    refine wpAny_newFunctionEnv_cells S.kind kinds fun env ee s1 inc => ?_
    subst ee
    obtain ⟨t, der, rd⟩ := hbody A outer s H vs Q E (room.deeper _) (deeper_g ng) spec
    have I0 := inv_start (CX := CX0) (E := E) S room.hd env0 (len _ _ _ _ spec) rel inc
    refine ⟨nolim.keeps inc.toInCall.keep, codeAny_func (wpAny_mono (der.run [] s1 (start N vs) H _ I0 rd) (fun out s2 z => ?_) fun _ _ z => z)⟩
    match out, z with
    | .ret u, ⟨v, σ', H', J, rv, q⟩ => exact ⟨v, H', J.os, J.bare, J.base, J.hok, rv, q⟩
    | .next, ⟨σ', H', J, q⟩ => exact ⟨V.non, H', J.os, J.bare, J.base, J.hok, rfl, q⟩
    | .brk, ⟨_, _, _, q⟩ => exact q.elim
    | .cont, ⟨_, _, _, q⟩ => exact q.elim
end
structure DCalG (P : Program) (w : World) (K : PySem.W.Frag) (mg : Str → Option Value) (base : Heap) (k : Nat) (x : Str) (sp : DSp) : Prop where
  ex : ∃ (f : Addr) (fd : FuncData) (ps : List Str), FnOkG P w K mg base k f fd ps (spUp K sp) ∧ mg x = some (.ref f) ∧ PySem.W.keepIn K (.ref f) = true ∧ Binds K fd ps []
section
variable {P : Program} {w : World} {K : PySem.W.Frag} {mg : Str → Option Value} {base : Heap}
theorem DCal.g {k : Nat} {x : Str} {sp : DSp} (c : DCal P w K mg base k x sp) : DCalG P w K mg base k x sp := by
  obtain ⟨f, fd, ps, F, hm, kp, b⟩ := c.ex
  exact ⟨f, fd, ps, .ofFn F, hm, kp, b⟩
theorem fnG {x : Str} {st : Stmt} {f : Addr} {fd : FuncData} {N ps : List Str} {k : Nat} {sp : DSp} (F : Fun K x x st f fd) (S : FnScope N ps (defScope st)) (hl : ∀ ds m Q, sp ds m Q → ds.length = ps.length)
    (hbody : ∀ (cdv : Value) (A : Around) (outer : List Env) (s : Shared) (H : Hp) (E : XK), Room k (A.deeper (envOfC x (defScope st) s.heap.objs.size f cdv)) → NoG (A.deeper (envOfC x (defScope st) s.heap.objs.size f cdv)) →
      ∃ t, DSs (cxOf CX0 P w K mg base N x (defScope st) f cdv A outer s H E).nox (defBody st) t ∧ ∀ ds m Q, sp ds m Q → t { nx := fun _ m' => Q .non m', rt := Q } (startD N ds) m) : FnOkG P w K mg base (k + 1) f fd ps (spUp K sp) := by
  obtain ⟨oc, od, kV, doc, pm, an, cdv, ct, osl, rfl, lk, hcd⟩ := F.ex
  refine FnOkG.make lk hcd S (fun vs H Q E ⟨ds, m, Q', r, rh, q, f⟩ => by rw [← r.length]; exact hl ds m Q' q) fun A outer s H vs Q E hr hg hsp => ?_
  obtain ⟨ds, m, Q', r, rh, q, fq⟩ := hsp
  obtain ⟨t, ht, h⟩ := hbody cdv A outer s H E hr hg
  exact ⟨_, ht.nox, startD N ds, m, _, start_rel r, rh, h ds m Q' q, ⟨fun δ' m' q' σ' H' t' rs' rh' => fq .non m' q' .non H' t' .non rh', fq, fun _ _ z => z.elim, fun _ _ z => z.elim⟩⟩
theorem dcalG {x : Str} {st : Stmt} {f : Addr} {fd : FuncData} {N ps : List Str} {k : Nat} {sp : DSp} (F : Fun K x x st f fd) (hm : mg x = some (.ref f)) (b : Binds K fd ps []) (S : FnScope N ps (defScope st)) (hl : ∀ ds m Q, sp ds m Q → ds.length = ps.length)
    (hbody : ∀ (cdv : Value) (A : Around) (outer : List Env) (s : Shared) (H : Hp) (E : XK), Room k (A.deeper (envOfC x (defScope st) s.heap.objs.size f cdv)) → NoG (A.deeper (envOfC x (defScope st) s.heap.objs.size f cdv)) →
      ∃ t, DSs (cxOf CX0 P w K mg base N x (defScope st) f cdv A outer s H E).nox (defBody st) t ∧ ∀ ds m Q, sp ds m Q → t { nx := fun _ m' => Q .non m', rt := Q } (startD N ds) m) : DCalG P w K mg base (k + 1) x sp :=
  ⟨f, fd, ps, fnG F S hl hbody, hm, F.kp, b⟩
end
section
variable {X : Cx} {e : Expr} {es : List Expr} {t : DTA} {pos : Pos}
theorem de_callG {k j : Nat} {x : Str} {p : Pos} {sp : DSp} (c : DCalG X.prog X.w X.K X.mg X.base k x sp) (hr : Room j X.A) (ng : NoG X.A) (hk : k ≤ j) (hg : Gl X x) (ha : DA X (e :: es) t)
    (hdb : (x == ("__debug__" : Str)) = false := by decide) (he : starEach (e :: es) X.env = (false, eval e X.env) :: starEach es X.env := by rfl) (hpl : (backTo pos (starEach es X.env)).any (·.1) = false := by rfl) :
    DE X (.Call (.Name x p) (e :: es) [] pos) (dCall sp t) := by
  obtain ⟨f, fd, ps, F, hm, kp, b⟩ := c.ex
  refine ⟨fun pins s σ H Q I ⟨δ, m, Q', rs, rh, q, fq⟩ => ?_⟩
  refine wpAny_Call_Name_kw (ld_glob I hg hm (PySem.W.callWith_K (h₀ := X.base) I.ok.mod.kin kp (thn (ha.run pos pins s σ H (fun vs H1 => spUp X.K sp vs H1 Q (fun _ _ _ => False)) I ⟨δ, m, _, rs, rh, q, fun ds m1 q1 vs H1 t1 r1 rh1 => ⟨ds, m1, Q', r1, rh1, q1, fq.mono t1⟩⟩) fun us s1 ⟨vs, H1, I1, r, z⟩ => ⟨I1.kIn, ?_⟩) he hpl) hdb)
  have hl : (us ++ []).length = ps.length := by rw [List.append_nil, ← r.length]; exact F.len _ _ _ _ z
  have bb := b s1 us I1.kIn hl
  rw [List.append_nil] at bb
  refine wpAny_call (codeAny_mono (F.run X.A X.stack s1 H1 ⟨us, []⟩ us vs Q _ (hr.mono hk) ng I1.env0 bb r z) fun res s' hq => ?_)
  match res, hq with
  | .error e, hq => exact pass0 pins σ H1 s1 e s' I1 hq
  | .ok (.ret u), hq => exact I1.after hq
  | .ok .next, hq => exact hq.elim
  | .ok .brk, hq => exact hq.elim
  | .ok .cont, hq => exact hq.elim
end
/-! ### repr of data -/
def rReprD (K : PySem.W.Frag) : List V → Hp → VK → Prop := fun xs H Q => ∃ (v : V) (p : PyData), xs = [v] ∧ Dp K H v p ∧ p.showable = true ∧ p.hasDict = false ∧ p.shown.length ≤ sizeLine ∧ p.depth ≤ 60 ∧ Q (.str p.shown) H
theorem call_reprD {X : Cx} {k : Nat} (hr : Room k X.A) (ng : NoG X.A) : CallR X (.builtin "repr") (rReprD X.K) := by
  intro pins s σ H xs us Q I r h
  obtain ⟨v, p, rfl, hd, h1, h2, h3, h4, q⟩ := h
  obtain ⟨u, rfl, ru⟩ := r.one
  obtain ⟨as, ra⟩ := Dp.reads I p v u hd ru
  have hu := hr.units
  by_cases hq : ∃ a, u = .ref a
  · obtain ⟨a, rfl⟩ := hq
    exact repr_of_reads' ra h1 (fun z => by rw [h2] at z; cases z) ng (by omega) (fun _ _ z => z) (fun h' t tk hk => ⟨.str _, H, I.kept (t' := tk) hk, ⟨_, rfl⟩, q⟩) h3
  · cases ra with
    | none => exact PySem.P.repr_of_none ⟨.str _, H, I.tok _, ⟨_, rfl⟩, q⟩
    | bool => exact PySem.P.repr_of_bool ⟨.str _, H, I.tok _, ⟨_, rfl⟩, q⟩
    | int => exact PySem.P.repr_of_int (of_decide_eq_true h1) ⟨.str _, H, I.tok _, ⟨_, rfl⟩, q⟩
    | str => exact PySem.P.repr_of_str ⟨.str _, H, I.tok _, ⟨_, rfl⟩, q⟩ h3
    | _ => exact (hq ⟨_, rfl⟩).elim
/- the data that a thing is, lists of the store read, at any depth -/
mutual
inductive Shw (m : M) : D → PyData → Prop
  | non : Shw m .non .none
  | bl (b : Bool) : Shw m (.bl b) (.bool b)
  | int (i : Int) : Shw m (.int i) (.int i)
  | str (s : Str) : Shw m (.str s) (.str s)
  | tup {ds : List D} {ps : List PyData} (h : Shws m ds ps) : Shw m (.tup ds) (.tuple ps)
  | ktup {ds : List D} {ps : List PyData} (h : Shws m ds ps) : Shw m (.ktup ds) (.tuple ps)
  | lst {a : Addr} {ds : List D} {ps : List PyData} (e : m.mu a = some (.lst ds)) (h : Shws m ds ps) : Shw m (.ref a) (.list ps)
inductive Shws (m : M) : List D → List PyData → Prop
  | nil : Shws m [] []
  | cons {d : D} {p : PyData} {ds : List D} {ps : List PyData} (h : Shw m d p) (t : Shws m ds ps) : Shws m (d :: ds) (p :: ps)
end
mutual
theorem Shw.dp {K : PySem.W.Frag} {H : Hp} {m : M} (rh : RelH K H m) : ∀ {d : D} {p : PyData} {v : V}, Shw m d p → Rep K H d v → Dp K H v p
  | _, _, _, .non, r => by cases r; exact .non
  | _, _, _, .bl b, r => by cases r; exact .bl b
  | _, _, _, .int i, r => by cases r; exact .int i
  | _, _, _, .str s, r => by cases r; exact .str s
  | _, _, _, .tup h, r => by
    cases r with
    | tup e rr => exact .tup (.inl (.inl e)) (Shws.dp rh h rr)
  | _, _, _, .ktup h, r => by
    cases r with
    | ktup e rr => exact .tup e (Shws.dp rh h rr)
  | _, _, _, .lst e h, r => by
    cases r
    obtain ⟨xs, e2, rr⟩ := rh.obj _ _ e
    exact .lst (SqL.of e2) (Shws.dp rh h rr)
theorem Shws.dp {K : PySem.W.Frag} {H : Hp} {m : M} (rh : RelH K H m) : ∀ {ds : List D} {ps : List PyData} {vs : List V}, Shws m ds ps → Reps K H ds vs → DpAll K H vs ps
  | _, _, _, .nil, r => by cases r; exact .nil
  | _, _, _, .cons h t, r => by
    cases r with
    | cons r1 r2 => exact .cons (Shw.dp rh h r1) (Shws.dp rh t r2)
end
mutual
theorem Shw.noDict {m : M} : ∀ {d : D} {p : PyData}, Shw m d p → p.hasDict = false
  | _, _, .non => rfl
  | _, _, .bl b => rfl
  | _, _, .int i => rfl
  | _, _, .str s => rfl
  | _, _, .tup h => Shws.noDict h
  | _, _, .ktup h => Shws.noDict h
  | _, _, .lst e h => Shws.noDict h
theorem Shws.noDict {m : M} : ∀ {ds : List D} {ps : List PyData}, Shws m ds ps → PyData.hasDictAll ps = false
  | _, _, .nil => rfl
  | _, _, .cons (p := p) (ps := ps) h t => by
    show (p.hasDict || PyData.hasDictAll ps) = false
    rw [Shw.noDict h, Shws.noDict t]; rfl
end
def rdRepr : DRA := fun xs m Q => ∃ x p, xs = [x] ∧ Shw m x p ∧ p.showable = true ∧ p.shown.length ≤ sizeLine ∧ p.depth ≤ 60 ∧ Q (.str p.shown) m
theorem argl_repr {K : PySem.W.Frag} : ArgL K (rReprD K) rdRepr := fun xs vs H m Q' Q r rh ⟨x, p, e, hs, h1, h2, h3, q⟩ f => by
  subst e
  obtain ⟨v, rfl, rv⟩ := r.one
  exact ⟨v, p, rfl, hs.dp rh rv, h1, hs.noDict, h2, h3, f _ m q _ H (Ts.refl _ _) (.str _) rh⟩
theorem de_repr {X : Cx} {e : Expr} {t : DTA} {p pos : Pos} {k : Nat} (hr : Room k X.A) (ng : NoG X.A) (hg : Gl X "repr") (hm : X.mg "repr" = none) (hb : bootBuiltins "repr" = some (.builtin "repr")) (ha : DA X [e] t)
    (he : starEach [e] X.env = (false, eval e X.env) :: starEach [] X.env := by rfl) (hpl : (backTo pos (starEach [] X.env)).any (·.1) = false := by rfl) : DE X (.Call (.Name "repr" p) [e] [] pos) (dArgs rdRepr t) :=
  de_blt (call_reprD hr ng) argl_repr hg hm hb ha (by decide) (by decide) he hpl
end DL

namespace DL
open PySem PySem.Spec PyProof.Rows L2 GA GxR
/-! ### a law that is walked where no guard is set -/
section
variable {P : Program} {w : World} {K : PySem.W.Frag} {mg mb : Str → Option Value} {k : Nat} {fa a : Addr} {cs : List (Addr × Addr)} {fd : FuncData} {x : Str} {sp : Sp} {st : Shared} {vs : List Value} {ns : List Int}
abbrev tabO : Obj := { cls := .none, data := .fields #[] }
abbrev lisO (vs : List Value) : Obj := { cls := .type "list", data := .seq vs.toArray }
/-- what is tracked as the law begins: the tables, and the script if it is not a written one -/
def lawH (K : PySem.W.Frag) (cs : List (Addr × Addr)) (a : Addr) (vs : List Value) (ns : List Int) : Hp := fun b =>
  if b ∈ cs.map (·.2) then some (.tbl #[]) else if b = a ∧ (K.lookup a).isNone = true then some (.frz (lisO vs) (.lst (ns.map V.int))) else none
theorem lawH_tab {b : Addr} (h : b ∈ cs.map (·.2)) : lawH K cs a vs ns b = some (.tbl #[]) := if_pos h
theorem lawH_off {b : Addr} (h : b ∉ cs.map (·.2)) (h2 : ¬ (b = a ∧ (K.lookup a).isNone = true)) : lawH K cs a vs ns b = none := by unfold lawH; rw [if_neg h, if_neg h2]
theorem lawH_frz (h : a ∉ cs.map (·.2)) (h2 : (K.lookup a).isNone = true) : lawH K cs a vs ns a = some (.frz (lisO vs) (.lst (ns.map V.int))) := by unfold lawH; rw [if_neg h, if_pos ⟨rfl, h2⟩]
theorem law_runG (KX : K.In st.heap) (hns : st.heap.Ns mainGlobals mg) (hbn : st.heap.Ns builtinsNs mb) (hbb : ∀ x : Str, x ≠ "__name__" → mb x = bootBuiltins x) (hlim : st.heap.NoLimit) (hg : st.gens = #[])
    (hT : ∀ p ∈ cs, st.heap.get? p.2 = some tabO) (nT : ∀ p ∈ cs, K.lookup p.2 = none) (C : ∀ p ∈ cs, PySem.W.CodeHd st.heap p.1 p.2)
    (hbm : ∃ (bm : Addr) (ob : Obj), mg "__builtins__" = some (.ref bm) ∧ bm ≠ builtinsNs ∧ st.heap.get? bm = some ob ∧ ob.cls = .type "module" ∧ ob.dict = some builtinsNs ∧ ob.data = .plain)
    (ha : st.heap.get? a = some (lisO vs)) (hi : IntsAre vs ns) (hl : ns.length ≤ sizeLine) (hr : Room k callerA)
    (F : ∀ base : Heap, K.In base → base.Ns mainGlobals mg → (∀ p ∈ cs, LamX.TabB base mg p.1 p.2) → FnOkG P w K mg base k fa fd [x] sp) (hbind : ∀ (s : Shared) (u : Value), BindsTo s fd ⟨[u], []⟩ [(x, u)])
    (hsp : ∀ H : Hp, (∀ p ∈ cs, H p.2 = some (.tbl #[])) → SqL K H a (ns.map V.int) → sp [.ref a] H (fun v _ => v = .bl true) fun _ _ _ => False) :
    codeAny (model P w) callerA (.call (.ref fa) ⟨[.ref a], []⟩) (fun r s' => r = .ok (.ret (.bool true)) ∧ OldK st.heap s'.heap ∧ s'.os = st.os ∧ AllBare s'.gens) st := by
  have inT : ∀ b, b ∈ cs.map (·.2) → st.heap.get? b = some tabO := fun b hb => by
    obtain ⟨p, hp, rfl⟩ := List.mem_map.mp hb
    exact hT p hp
  have aT : a ∉ cs.map (·.2) := fun z => by have := (inT a z).symm.trans ha; cases this
  have rv := vals_ints hi
  have free : ∀ {b : Addr} {o : Obj}, st.heap.get? b = some o → o ≠ tabO → o ≠ lisO vs → lawH K cs a vs ns b = none := fun {b o} e h1 h2 =>
    lawH_off (fun z => h1 (Option.some.inj (e.symm.trans (inT b z)))) fun z => h2 (by rw [z.1] at e; exact Option.some.inj (e.symm.trans ha))
  have hok : HOk P w (lawH K cs a vs ns) st.heap := fun b u e => by
    by_cases hb : b ∈ cs.map (·.2)
    · rw [lawH_tab hb] at e; cases e; exact inT b hb
    · by_cases h2 : b = a ∧ (K.lookup a).isNone = true
      · obtain ⟨rfl, h3⟩ := h2
        rw [lawH_frz hb h3] at e; cases e
        exact ⟨ha, by rw [List.length_map]; exact hl, vs, _, rv, ha⟩
      · rw [lawH_off hb h2] at e; cases e
  have hS : SqL K (lawH K cs a vs ns) a (ns.map V.int) := by
    cases q : K.lookup a with
    | none => exact .inl (.inr ⟨_, lawH_frz aT (by rw [q]; rfl)⟩)
    | some o =>
      have e := (KX a o q).symm.trans ha
      cases e
      exact .inr ⟨_, vs.toArray, _, q, rfl, rfl, rfl, by rw [List.size_toArray, hi.length]; exact hl, by simpa using rv⟩
  have kb : K.In (hidT st.heap (lawH K cs a vs ns)) := fun b o e => hidT_get (KX b o e) (lawH_off (fun z => by
    obtain ⟨p, hp, rfl⟩ := List.mem_map.mp z
    rw [nT p hp] at e; cases e) fun z => by
    have h3 := z.2
    rw [← z.1, e] at h3; cases h3)
  have nsB : ∀ {b : Addr} {m : Str → Option Value}, st.heap.Ns b m → (hidT st.heap (lawH K cs a vs ns)).Ns b m := fun {b m} ⟨o, es, ep, e, d, r⟩ =>
    ⟨o, es, ep, hidT_get e (free e (fun z => by rw [z] at d; cases d) fun z => by rw [z] at d; cases d), d, r⟩
  have md : L2.Mod K mg (hidT st.heap (lawH K cs a vs ns)) := ⟨kb, nsB hns, ⟨mb, nsB hbn, hbb⟩, let ⟨mc, h1, h2⟩ := hlim; ⟨mc, nsB h1, h2⟩⟩
  have tb : ∀ p ∈ cs, LamX.TabB (hidT st.heap (lawH K cs a vs ns)) mg p.1 p.2 := fun p hp => by
    obtain ⟨o, us, file, tf, flags, tg, inF, text, tt, e1, r1, r2, r3, rest⟩ := C p hp
    obtain ⟨bm, ob, b1, b2, b3, b4, b5, b6⟩ := hbm
    refine ⟨⟨o, us, file, tf, flags, tg, inF, text, tt, hidT_get e1 (free e1 (fun z => ?_) fun z => ?_), r1, r2, r3, rest⟩, ⟨bm, ob, b1, b2, fun z => ?_, fun z => ?_, hidT_get b3 (free b3 (fun z => ?_) fun z => ?_), b4, b5, b6⟩, fun z => ?_⟩
    · rw [z] at r2; cases r2; simp at r3
    · rw [z] at r2; cases r2
    · obtain ⟨o2, es, ep, e2, d2, _⟩ := hns
      rw [z] at b3
      have := b3.symm.trans e2
      cases this
      rw [b6] at d2; cases d2
    · rw [z] at b3
      have := b3.symm.trans (hT p hp)
      cases this; cases b6
    · rw [z] at b6; cases b6
    · rw [z] at b6; cases b6
    · obtain ⟨o2, es, ep, e2, d2, _⟩ := hns
      rw [z] at e2
      have := e2.symm.trans (hT p hp)
      cases this; cases d2
  have env : Env0 P w K mg (hidT st.heap (lawH K cs a vs ns)) callerA [] st (lawH K cs a vs ns) := ⟨rfl, md, fun b o e => of_hidT e, Nat.le_of_eq (hidT_size _ _), trivial, (fun b hb => absurd (show b ∈ ([] : List Addr) from hb) (by simp)), hok, .of_eq hg⟩
  refine codeAny_mono ((F _ kb (nsB hns) tb).run callerA [] st _ ⟨[.ref a], []⟩ [.ref a] [.ref a] _ _ hr rfl env (hbind st (.ref a)) (.cons rfl .nil) (hsp _ (fun p hp => lawH_tab (List.mem_map.mpr ⟨p, hp, rfl⟩)) hS)) fun r s' h => ?_
  match r, h with
  | .error e, h => exact h.elim
  | .ok .next, h => exact h.elim
  | .ok .brk, h => exact h.elim
  | .ok .cont, h => exact h.elim
  | .ok (.ret u), ⟨v, H', os, bare, un, hok', r', q⟩ =>
    have q : v = .bl true := q
    subst q
    cases r'
    have kept : ∀ b o, b ∉ cs.map (·.2) → st.heap.get? b = some o → s'.heap.get? b = some o := fun b o nb e => by
      by_cases h2 : b = a ∧ (K.lookup a).isNone = true
      · obtain ⟨rfl, h3⟩ := h2
        obtain ⟨e2, _⟩ := hok' _ _ (un.frzs _ _ _ (lawH_frz nb h3))
        rw [ha] at e; cases e
        exact e2
      · exact un.keep b o e (lawH_off nb h2) (fun z => absurd (show b ∈ ([] : List Addr) from z) (by simp)) (by simp)
    have grown : ∀ b, b ∈ cs.map (·.2) → ∃ more : Array Value, s'.heap.get? b = some { cls := .none, data := .fields more } := fun b hb => by
      obtain ⟨more, z⟩ := un.tbls b #[] (lawH_tab hb)
      exact ⟨_, hok' b _ z⟩
    refine ⟨rfl, ⟨fun b o e => ?_, fun b o e => ?_⟩, os, bare⟩
    · by_cases hb : b ∈ cs.map (·.2)
      · obtain ⟨more, hm⟩ := grown b hb
        obtain ⟨p, hp, rfl⟩ := List.mem_map.mp hb
        have := e.symm.trans (hT p hp)
        cases this
        exact .inr (.inl ⟨((C p hp).tab (hT p hp)).isCodeTable, rfl, #[], more, rfl, by rw [Array.empty_append]; exact hm⟩)
      · exact .inl (kept b o hb e)
    · by_cases hb : b ∈ cs.map (·.2)
      · obtain ⟨more, hm⟩ := grown b hb
        exact ⟨_, hm⟩
      · exact ⟨o, kept b o hb e⟩
end
end DL
namespace DL
open PySem PySem.Spec PyProof.Rows L2 GA GxR
/-- what is known of the law at the head's heap -/
def LawAtG (l : PySem.W.OpenLaw) (w : World) (K : PySem.W.Frag) (k n : Nat) (x : Str) (mg : Str → Option Value) (fa : Addr) (h : Heap) : Prop :=
  ∃ (fd : FuncData) (cs : List (Addr × Addr)) (sp : Sp), ((∀ p ∈ cs, h.get? p.2 = some tabO) ∧ (∀ p ∈ cs, K.lookup p.2 = none) ∧ ∀ p ∈ cs, PySem.W.CodeHd h p.1 p.2) ∧ (∀ (s : Shared) (u : Value), BindsTo s fd ⟨[u], []⟩ [(x, u)]) ∧
    (∀ (H : Hp) (a : Addr) (ns : List Int), ns.length ≤ n → (∀ z ∈ ns, Builtin.Int.intBits z ≤ 1048576) → (∀ p ∈ cs, H p.2 = some (.tbl #[])) → SqL K H a (ns.map V.int) → sp [.ref a] H (fun v _ => v = .bl true) fun _ _ _ => False) ∧
    ∀ base : Heap, K.In base → base.Ns mainGlobals mg → (∀ p ∈ cs, LamX.TabB base mg p.1 p.2) → FnOkG l.prog w K mg base k fa fd [x] sp
theorem walk_ofG {l : PySem.W.OpenLaw} {n k : Nat} {q : Program} {loose : List Str} {XP : (Str → Option Value) → Heap → Prop} {YP : World → Heap → Prop} {d : DefRec} {x : Str} (hn : l.most = some n) (hn2 : n ≤ sizeLine) (hdf : d.params.defaults = []) (hr : Room k callerA)
    (F : ∀ (w : World) (mg : Str → Option Value) (fa : Addr) (h : Heap), YP w h → h.Ns mainGlobals mg → mg d.name = some (.ref fa) → ∃ K : PySem.W.Frag, K.In h ∧ LawAtG l w K k n x mg fa h) :
    PySem.W.WalkO q loose XP YP l.row.toRowW d [] (fun f vs => PySem.call f vs) := by
  refine Att.attach_callB hn hdf fun w s₀ s₁ mg mb fa o pm cd doc a vs ns G Y ho hd hcd hmg hobj hints hlen hbits hg => ?_
  obtain ⟨K, KX, fd, cs, sp, ⟨hT, nT, C⟩, hb, hsp, hF⟩ := F w mg fa _ Y G.T.g hmg
  exact law_runG KX G.T.g G.T.b G.T.builtins G.T.nolimit hg hT nT C G.T.bmain hobj hints (Nat.le_trans hlen hn2) hr hF hb fun H hH hS => hsp H a ns hlen hbits hH hS
end DL

namespace PL
open PySem PySem.Spec PyProof.Rows L2 GA GxR DL TM
theorem iT_wk {te : DTr} {δ : Sl} {m : M} {xs : List D} (h : ∀ R : DK, (R (.ktup xs) m) → te δ m R) : WkS m xs (iT te) δ := fun R hR => h _ ⟨xs, .inr rfl, hR _ m (Ext.refl m) fun _ _ => trivial⟩
/-- a dict comprehension whose parts change nothing -/
theorem dDC_gen {ws : DTI} {g : Tg} {tt : DTT} {tk te : DTr} {ow : List Nat} {δ : Sl} {m : M} {Q : DK} {xs : List D} (kf : D → Key) (vf : D → D) (hw : WkS m xs ws δ) (hz : xs.length ≤ 1000)
    (he : ∀ d ∈ xs, ∀ m', Ext m m' → ∀ (Ry : D → D → M → Prop) (Rn : M → Prop), Ry (kD (kf d)) (vf d) m' → gD g d (wipeD δ ow) fun δ2 => tt δ2 m' fun b m3 => if b = true then tk δ2 m3 fun y m4 => te δ2 m4 fun z m5 => Ry y z m5 else Rn m3)
    (hq : ∀ p m', m.mu p = none → Ext m m' → m'.mu p = some (.dic (xs.foldl (fun acc d => putD acc (kf d) (vf d)) [])) → Q (.ref p) m') : dDC ws g tt tk te ow δ m Q := by
  refine hw _ fun ok m1 hE hok p hp1 => ?_
  have hp : m.mu p = none := by
    cases e : m.mu p with
    | none => rfl
    | some o => rw [hE.old _ _ e] at hp1; cases hp1
  have flen : ∀ (l : List D) (acc : List (Key × D)), (l.foldl (fun acc d => putD acc (kf d) (vf d)) acc).length ≤ acc.length + l.length := by
    intro l
    induction l with
    | nil => exact fun _ => Nat.le_refl _
    | cons x l ih =>
      intro acc
      have h1 := ih (putD acc (kf x) (vf x))
      have h2 := putD_len (k := kf x) (v := vf x) (kvs := acc)
      rw [List.foldl_cons, List.length_cons]; omega
  refine ⟨fun i m' => Ext m1 m' ∧ m'.mu p = some (.dic ((xs.take i).foldl (fun acc d => putD acc (kf d) (vf d)) [])), ⟨Ext.new hp1, M.set_same⟩, fun i m' h => hok m' h.1, ?_, ?_⟩
  · rintro i d m' hd ⟨h1, h2⟩
    have l1 := flen (xs.take i) []
    rw [List.length_take] at l1
    refine he d (List.mem_of_getElem? hd) m' (hE.trans h1) _ _ ⟨_, kf d, rfl, h2, slk' (by simp at l1; omega), h1.set hp1, ?_⟩
    rw [take_snoc hd, List.foldl_append]; exact M.set_same
  · rintro m' ⟨h1, h2⟩
    rw [List.take_length] at h2
    exact hq p m' hp (hE.trans h1) h2
where
  slk' {n : Nat} (h : n ≤ 1000) : n < sizeLine := Nat.lt_of_le_of_lt h (by decide)
theorem slt {n : Nat} (h : n ≤ 1000) : n < sizeLine := Nat.lt_of_le_of_lt h (by decide)
/-! ### items by name and end -/
def itD (z : (Str × End) × List D) : D := .tup (.str z.1.1 :: endD z.1.2 :: z.2)
def gaI (l : List (Str × End)) : List ((Str × End) × List D) := l.map fun g => (g, [])
def siI (l : List (Str × End × Option Step)) : List ((Str × End) × List D) := l.map fun s => ((s.1, s.2.1), [ovD s.2.2])
theorem gaI_d (l : List (Str × End)) : (gaI l).map itD = l.map gaD := by unfold gaI; rw [List.map_map]; rfl
theorem siI_d (l : List (Str × End × Option Step)) : (siI l).map itD = l.map siD := by unfold siI; rw [List.map_map]; rfl
theorem gaI_1 (l : List (Str × End)) : (gaI l).map (·.1) = l := by unfold gaI; rw [List.map_map]; exact List.map_id l
theorem siI_1 (l : List (Str × End × Option Step)) : (siI l).map (·.1) = l.map fun s => (s.1, s.2.1) := by unfold siI; rw [List.map_map]; rfl
theorem it_ix0 {z : (Str × End) × List D} {m : M} {Q : DK} (q : Q (.str z.1.1) m) : rdIx (itD z) (.int 0) m Q := ⟨.str z.1.1, by
  have : (0 : Int) < ((D.str z.1.1 :: endD z.1.2 :: z.2).length : Int) := by simp only [List.length_cons]; omega
  unfold atI ixN
  rw [if_pos (by decide), if_pos this]; rfl, q⟩
theorem it_ix1 {z : (Str × End) × List D} {m : M} {Q : DK} (q : Q (endD z.1.2) m) : rdIx (itD z) (.int 1) m Q := ⟨endD z.1.2, by
  have : (1 : Int) < ((D.str z.1.1 :: endD z.1.2 :: z.2).length : Int) := by simp only [List.length_cons]; omega
  unfold atI ixN
  rw [if_pos (by decide), if_pos this]; rfl, q⟩
theorem it_cut {z : (Str × End) × List D} {m : M} {Q : DK} (q : Q (.tup [.str z.1.1, endD z.1.2]) m) : rdSlA (itD z) none (some 2) m Q := by
  show Q (.tup (cutL (D.str z.1.1 :: endD z.1.2 :: z.2) none (some 2))) m
  have : cutL (D.str z.1.1 :: endD z.1.2 :: z.2) none (some 2) = [D.str z.1.1, endD z.1.2] := by
    unfold cutL
    have h0 : HT.sIx (D.str z.1.1 :: endD z.1.2 :: z.2).length 0 none = 0 := rfl
    have h2 : HT.sIx (D.str z.1.1 :: endD z.1.2 :: z.2).length (D.str z.1.1 :: endD z.1.2 :: z.2).length (some 2) = 2 := by
      simp [HT.sIx]
    rw [h0, h2]; rfl
  rw [this]; exact q
/-! ### comparisons -/
theorem fine_non : Fine .non := ⟨rfl, Nat.zero_le _, rfl⟩
theorem fine_bl (b : Bool) : Fine (.bl b) := ⟨rfl, Nat.zero_le _, rfl⟩
theorem eqG {x y : D} {m : M} {Q : DK} {neg : Bool} (hx : Fine x) (hy : Fine y) (q : Q (.bl (if neg then !PyData.eqv x.py y.py else PyData.eqv x.py y.py)) m) : rdEqG neg x y m Q := ⟨_, _, .d hx.pure, .d hy.pure, shaped_d hx, shaped_d hy, q⟩
theorem neB {a b : Bool} {m : M} {Q : DK} (q : Q (.bl (!decide (a = b))) m) : rdEq true (.bl a) (.bl b) m Q := eqG (fine_bl a) (fine_bl b) (by
  have : PyData.eqv (D.bl a).py (D.bl b).py = decide (a = b) := by cases a <;> cases b <;> rfl
  rw [this]; exact q)
theorem neS {o : Option Str} {s : Str} {m : M} {Q : DK} (h : PyData.strOk s = true) (q : Q (.bl (!decide (o = some s))) m) : rdEq true (optS o) (.str s) m Q := by
  cases o with
  | none => exact eqG fine_non (Fine.str h) q
  | some t =>
    refine neT ?_
    have : decide (t = s) = decide (some t = some s) := by
      by_cases z : t = s
      · subst z; simp
      · simp [z]
    rw [this]; exact q
theorem fine_end {e : End} (h : endOk e) : Fine (endD e) := end_fine h
theorem neE {o : Option End} {e : End} {m : M} {Q : DK} (he : endOk e) (ho : ∀ f, o = some f → endOk f) (q : Q (.bl (!decide (o = some e))) m) : rdEq true (endD e) (optE o) m Q := by
  cases o with
  | none => exact eqG (end_fine he) fine_non q
  | some f =>
    refine eqG (end_fine he) (end_fine (ho f rfl)) ?_
    have : PyData.eqv (endD e).py (endD f).py = decide (some f = some e) := by
      rw [eqv_end]
      by_cases z : e = f
      · subst z; simp
      · have : ¬ f = e := fun y => z y.symm
        simp [z, this]
    show Q (.bl (!PyData.eqv (endD e).py (endD f).py)) m
    rw [this]; exact q
theorem strOk_plain : PyData.strOk "plain" = true := by decide +kernel
theorem flat_optS (o : Option Str) : flatD (optS o) = true := by cases o <;> rfl
/-- .. not in ("plain", "crossing") -/
def ovKind (o : Option Str) : Bool := decide (o = some ("plain" : Str)) || decide (o = some ("crossing" : Str))
theorem notOv {o : Option Str} {m : M} {Q : DK} (q : Q (.bl (!ovKind o)) m) : rdIn true (optS o) (.ktup [.str "plain", .str "crossing"]) m Q := by
  refine ⟨_, .inr (.inl rfl), flat_optS o, rfl, ?_⟩
  have : ([D.str "plain", D.str "crossing"].any fun d => eqFl d (optS o)) = ovKind o := by
    cases o with
    | none => rfl
    | some s =>
      simp only [List.any_cons, List.any_nil, Bool.or_false, optS, eqFl_str, ovKind, Option.some.injEq]
      have e : ∀ a : Str, (a == s) = decide (s = a) := fun a => by
        by_cases z : s = a
        · subst z; simp
        · have : ¬ a = s := fun y => z y.symm
          simp [z, this]
      rw [e, e]
  show Q (.bl (!([D.str "plain", D.str "crossing"].any fun d => eqFl d (optS o)))) m
  rw [this]; exact q
/-- a step among the ways of a stretch -/
def wayT (n : Str) (w : Int × Int) : D := .tup [.str n, .int w.1, .int w.2]
theorem eqv_way {n : Str} {w : Int × Int} {t : Step} (h : t.1 = n) : PyData.eqv (wayT n w).py (stepD t).py = decide (w = (t.2.1, t.2.2)) := by
  obtain ⟨w1, w2⟩ := w; obtain ⟨t1, t2, t3⟩ := t
  subst h
  show (t1 == t1 && ((w1 == t2) && ((w2 == t3) && true))) = _
  by_cases h1 : w1 = t2
  · subst h1
    by_cases h2 : w2 = t3
    · subst h2; simp
    · simp [h2]
  · simp [h1]
theorem way_fine {n : Str} {w : Int × Int} (h : nameS n = true) : Fine (wayT n w) := Fine.tup (fun d hd => by
  simp only [List.mem_cons, List.not_mem_nil, or_false] at hd
  rcases hd with rfl | rfl | rfl
  · exact Fine.str (name_sok h)
  · exact Fine.int _
  · exact Fine.int _) (fun d hd => by
  simp only [List.mem_cons, List.not_mem_nil, or_false] at hd
  rcases hd with rfl | rfl | rfl <;> exact Nat.zero_le _)
theorem inWays {t : Step} {k : Str} {a : Addr} {m : M} {Q : DK} (ht : stepOk t) (h : m.mu a = some (.lst ((waysK k).map (wayT t.1)))) (q : Q (.bl (decide ((t.2.1, t.2.2) ∈ waysK k))) m) : rdInD false (stepD t) (.ref a) m Q := by
  have hf : ∀ d ∈ (waysK k).map (wayT t.1), Fine d := fun d hd => by
    obtain ⟨w, _, rfl⟩ := List.mem_map.mp hd
    exact way_fine ht.1
  refine ⟨a, _, rfl, h, pures_of fun d hd => (hf d hd).pure, rfl, shaped_d (step_fine ht), shaped_l hf, ?_⟩
  have key : ∀ l : List (Int × Int), ((D.pys (l.map (wayT t.1))).any fun z => PyData.eqv z (stepD t).py) = decide ((t.2.1, t.2.2) ∈ l) := by
    intro l
    induction l with
    | nil => simp [D.pys]
    | cons w l ih =>
      show (PyData.eqv (wayT t.1 w).py (stepD t).py || (D.pys (l.map (wayT t.1))).any fun z => PyData.eqv z (stepD t).py) = _
      rw [ih, eqv_way rfl]
      by_cases z : w = (t.2.1, t.2.2)
      · subst z; simp
      · have : ¬ (t.2.1, t.2.2) = w := fun y => z y.symm
        simp [z, this]
  show Q (.bl ((D.pys ((waysK k).map (wayT t.1))).any fun z => PyData.eqv z (stepD t).py)) m
  rw [key]; exact q
/-! ### the written tables -/
def endsL : List (Str × D) := [("plain", .int 2), ("points", .int 3), ("crossing", .int 4)]
def wayK (w : Int × Int) : D := .ktup [.int w.1, .int w.2]
def pathsL : List (Str × D) := [("plain", .ktup ((waysK "plain").map wayK)), ("points", .ktup ((waysK "points").map wayK)), ("crossing", .ktup ((waysK "crossing").map wayK))]
theorem kind3 {k : Str} (h : kindS k = true) : k = "plain" ∨ k = "points" ∨ k = "crossing" := by
  unfold kindS at h
  simp only [Bool.or_eq_true, beq_iff_eq] at h
  rcases h with (h | h) | h
  · exact .inl h
  · exact .inr (.inl h)
  · exact .inr (.inr h)
theorem endsL_in {k : Str} (h : kindS k = true) : (k, D.int (nEnds k)) ∈ endsL := by
  rcases kind3 h with rfl | rfl | rfl
  · exact .head _
  · exact .tail _ (.head _)
  · exact .tail _ (.tail _ (.head _))
theorem pathsL_in {k : Str} (h : kindS k = true) : (k, D.ktup ((waysK k).map wayK)) ∈ pathsL := by
  rcases kind3 h with rfl | rfl | rfl
  · exact .head _
  · exact .tail _ (.head _)
  · exact .tail _ (.tail _ (.head _))
theorem wayK_inj {a b : Int × Int} (h : wayK a = wayK b) : a = b := by
  obtain ⟨a1, a2⟩ := a; obtain ⟨b1, b2⟩ := b
  unfold wayK at h; cases h; rfl
theorem waysK_len (k : Str) : (waysK k).length ≤ 4 := by
  unfold waysK
  by_cases h1 : k = "plain"
  · rw [if_pos h1]; decide
  · rw [if_neg h1]
    by_cases h2 : k = "points"
    · rw [if_pos h2]; decide
    · rw [if_neg h2]; decide
/-! ### what the checker's defs promise -/
def spWays : DSp := fun ds m Q => ∃ n k, ds = [.tup [.str n, .str k]] ∧ kindS k = true ∧ ∀ a m', m.mu a = none → Ext m m' → m'.mu a = some (.lst ((waysK k).map (wayT n))) → Q (.ref a) m'
def spKinds : DSp := fun ds m Q => ∃ p : Pln, ds = [p.d] ∧ p.Ok ∧ ∀ a m', m.mu a = none → Ext m m' → m'.mu a = some (.dic (kindsKV p.st)) → Q (.ref a) m'
def spParts : DSp := fun ds m Q => ∃ p : Pln, ds = [p.d] ∧ p.Ok ∧ ∀ a m', m.mu a = none → Ext m m' → m'.mu a = some (.dit (partKV p.jo)) → Q (.ref a) m'
def spExists : DSp := fun ds m Q => ∃ (a : Addr) (st : List (Str × Str)) (e : End), ds = [.ref a, endD e] ∧ m.mu a = some (.dic (kindsKV st)) ∧ (∀ s ∈ st, kindS s.2 = true) ∧ Q (.bl (endEx st e)) m
def spPlace : DSp := fun ds m Q => ∃ (p : Pln) (b : Bool) (l : List ((Str × End) × List D)), ds = [p.d, .tup (l.map itD), .bl b] ∧ p.Ok ∧ (∀ z ∈ l, nameS z.1.1 = true ∧ endOk z.1.2) ∧ l.length ≤ 20 ∧ ∀ m', Ext m m' → Q (optS (wpGo p.st p.jo b [] (l.map (·.1)))) m'
def spFits : DSp := fun ds m Q => ∃ (a : Addr) (st : List (Str × Str)) (o : Option End) (t : Step), ds = [.ref a, optE o, stepD t] ∧ m.mu a = some (.dic (kindsKV st)) ∧ (∀ s ∈ st, kindS s.2 = true) ∧ stepOk t ∧ (∀ f, o = some f → endOk f) ∧ ∀ m', Ext m m' → Q (.bl (fitsOv st o t)) m'
theorem getK {m : M} {a : Addr} {st : List (Str × Str)} (h : m.mu a = some (.dic (kindsKV st))) (n : Str) : GetD m a (.str n) ((kindAt st n).map D.str) := .inl ⟨_, .inr n, h, rfl, (kinds_val st n).symm⟩
theorem getP {m : M} {a : Addr} {jo : List (End × End)} (h : m.mu a = some (.dit (partKV jo))) (e : End) : GetD m a (endD e) ((partAt jo e).map endD) := .inr ⟨_, endK e, h, rfl, (part_val jo e).symm⟩
theorem optS_get (o : Option Str) : (o.map D.str).getD .non = optS o := by cases o <;> rfl
theorem optE_get (o : Option End) : (o.map endD).getD .non = optE o := by cases o <;> rfl
theorem partAt_in {jo : List (End × End)} {e f : End} (h : partAt jo e = some f) : ∃ j ∈ jo, (j.2 = e ∧ j.1 = f) ∨ (j.1 = e ∧ j.2 = f) := by
  have key : ∀ (l : List (End × End)) (o : Option End), l.foldl (fun acc j => if j.2 = e then some j.1 else if j.1 = e then some j.2 else acc) o = some f → o = some f ∨ ∃ j ∈ l, (j.2 = e ∧ j.1 = f) ∨ (j.1 = e ∧ j.2 = f) := by
    intro l
    induction l with
    | nil => exact fun _ h => .inl h
    | cons x l ih =>
      intro o h
      rw [List.foldl_cons] at h
      rcases ih _ h with z | ⟨j, hj, z⟩
      · by_cases e2 : x.2 = e
        · rw [if_pos e2] at z; cases z
          exact .inr ⟨x, List.mem_cons_self, .inl ⟨e2, rfl⟩⟩
        · rw [if_neg e2] at z
          by_cases e1 : x.1 = e
          · rw [if_pos e1] at z; cases z
            exact .inr ⟨x, List.mem_cons_self, .inr ⟨e1, rfl⟩⟩
          · rw [if_neg e1] at z; exact .inl z
      · exact .inr ⟨j, List.mem_cons_of_mem _ hj, z⟩
  rcases key jo none h with z | z
  · cases z
  · exact z
theorem partAt_ok {p : Pln} (hp : p.Ok) {e f : End} (h : partAt p.jo e = some f) : endOk f := by
  obtain ⟨j, hj, z⟩ := partAt_in h
  rcases z with ⟨_, rfl⟩ | ⟨_, rfl⟩
  · exact (hp.jo j hj).1
  · exact (hp.jo j hj).2
end PL
namespace PL
open PySem PySem.Spec PyProof.Rows L2 GA GxR DL TM
def kfS : D → Key
  | .tup (.str s :: _) => .inr s
  | _ => .inl 0
def vfS : D → D
  | .tup [_, v] => v
  | d => d
/-! ### items by name -/
def nmD (z : Str × List D) : D := .tup (.str z.1 :: z.2)
def allI (p : Pln) : List (Str × List D) := p.st.map (fun s => (s.1, [D.str s.2])) ++ p.ga.map (fun g => (g.1, [endD g.2])) ++ p.si.map fun s => (s.1, [endD s.2.1, ovD s.2.2])
theorem allI_d (p : Pln) : (allI p).map nmD = p.st.map strD ++ p.ga.map gaD ++ p.si.map siD := by
  unfold allI; rw [List.map_append, List.map_append, List.map_map, List.map_map, List.map_map]; rfl
theorem allI_1 (p : Pln) : (allI p).map (·.1) = p.nms := by
  unfold allI Pln.nms; rw [List.map_append, List.map_append, List.map_map, List.map_map, List.map_map]; rfl
theorem its_1 (p : Pln) : (gaI p.ga ++ siI p.si).map (·.1) = p.gs := by rw [List.map_append, gaI_1, siI_1]; rfl
theorem nm_ix0 {z : Str × List D} {m : M} {Q : DK} (q : Q (.str z.1) m) : rdIx (nmD z) (.int 0) m Q := ⟨.str z.1, by
  have : (0 : Int) < ((D.str z.1 :: z.2).length : Int) := by simp only [List.length_cons]; omega
  unfold atI ixN
  rw [if_pos (by decide), if_pos this]; rfl, q⟩
theorem drop_get {α : Type} {l : List α} {i : Nat} {x : α} (h : l[i]? = some x) : l.drop i = x :: l.drop (i + 1) := by
  obtain ⟨hi, e⟩ := List.getElem?_eq_some_iff.mp h
  rw [List.drop_eq_getElem_cons hi, e]
theorem drop_map {α β : Type} {l : List α} {f : α → β} {i : Nat} {x : α} (h : l[i]? = some x) : (l.map f).drop i = f x :: (l.map f).drop (i + 1) := drop_get (by rw [List.getElem?_map, h]; rfl)
theorem mem_inr {n : Str} {ks : List Str} (h : hasS (.inr n) (ks.map Sum.inr) = true) : n ∈ ks := by
  obtain ⟨y, hy, e⟩ := List.mem_map.mp (hasS_iff.mp h)
  rw [← key_str_inj e]; exact hy
theorem inr_mem {n : Str} {ks : List Str} (h : n ∈ ks) : hasS (.inr n) (ks.map Sum.inr) = true := hasS_iff.mpr (List.mem_map.mpr ⟨n, h, rfl⟩)
theorem mem_endK {e : End} {ks : List End} (h : hasL (endK e) (ks.map endK) = true) : e ∈ ks := by
  obtain ⟨y, hy, e'⟩ := List.mem_map.mp (hasL_iff.mp h)
  rw [← endK_inj e']; exact hy
theorem endK_mem {e : End} {ks : List End} (h : e ∈ ks) : hasL (endK e) (ks.map endK) = true := hasL_iff.mpr (List.mem_map.mpr ⟨e, h, rfl⟩)
theorem gaI_ok {p : Pln} (h : p.Ok) : ∀ z ∈ gaI p.ga, nameS z.1.1 = true ∧ endOk z.1.2 := fun z hz => by
  obtain ⟨g, hg, rfl⟩ := List.mem_map.mp hz
  exact h.ga g hg
theorem siI_ok {p : Pln} (h : p.Ok) : ∀ z ∈ siI p.si, nameS z.1.1 = true ∧ endOk z.1.2 := fun z hz => by
  obtain ⟨g, hg, rfl⟩ := List.mem_map.mp hz
  exact ⟨(h.si g hg).1, (h.si g hg).2.1⟩
def tagD (z : Str × Option Str) : D := .tup [.str z.1, optS z.2]
/-- asked of a plan, where the tables stand beside the store -/
def spPlT (Ok : M → Prop) (f : Pln → D) : DSp := fun ds m Q => ∃ p : Pln, ds = [p.d] ∧ (p.Ok ∧ Ok m) ∧ ∀ m', Ext m m' → Q (f p) m'
end PL
namespace PL
open PySem PySem.Spec PyProof.Rows L2 GA GxR DL TM
theorem dupGo_hit {ks l : List Str} {x : Str} (h : x ∈ ks) : dupGo ks (x :: l) = some x := by rw [dupGo]; exact if_pos h
theorem dupGo_miss {ks l : List Str} {x : Str} (h : x ∉ ks) : dupGo ks (x :: l) = dupGo (x :: ks) l := by rw [dupGo]; exact if_neg h
theorem wjGo_hit {ks : List End} {j : End × End} {l : List (End × End)} (h : j.1.1 = j.2.1 ∨ j.1 ∈ ks ∨ j.2 ∈ ks) : wjGo ks (j :: l) = some j.1.1 := by rw [wjGo]; exact if_pos h
theorem wjGo_miss {ks : List End} {j : End × End} {l : List (End × End)} (h : ¬ (j.1.1 = j.2.1 ∨ j.1 ∈ ks ∨ j.2 ∈ ks)) : wjGo ks (j :: l) = wjGo (j.2 :: j.1 :: ks) l := by rw [wjGo]; exact if_neg h
theorem wpGo_hit {st : List (Str × Str)} {jo : List (End × End)} {b : Bool} {ks : List End} {g : Str × End} {l : List (Str × End)} (h : (partAt jo g.2).isSome ≠ b ∨ g.2 ∈ ks ∨ kindAt st g.2.1 ≠ some ("plain" : Str)) : wpGo st jo b ks (g :: l) = some g.1 := by rw [wpGo]; exact if_pos h
theorem wpGo_miss {st : List (Str × Str)} {jo : List (End × End)} {b : Bool} {ks : List End} {g : Str × End} {l : List (Str × End)} (h : ¬ ((partAt jo g.2).isSome ≠ b ∨ g.2 ∈ ks ∨ kindAt st g.2.1 ≠ some ("plain" : Str))) : wpGo st jo b ks (g :: l) = wpGo st jo b (g.2 :: ks) l := by rw [wpGo]; exact if_neg h
theorem step_cut {t : Step} {m : M} {Q : DK} (q : Q (endD (t.1, t.2.1)) m) : rdSlA (stepD t) none (some 2) m Q := q
end PL

namespace PL
open PySem PySem.Spec PyProof.Rows L2 GA GxR DL TM
/-! ### plans without fault -/
def jends (jo : List (End × End)) : List End := jo.flatMap fun j => [j.1, j.2]
theorem mem_jends {jo : List (End × End)} {e : End} : e ∈ jends jo ↔ ∃ j ∈ jo, e = j.1 ∨ e = j.2 := by simp [jends]
theorem jends_cons (j : End × End) (l : List (End × End)) : jends (j :: l) = j.1 :: j.2 :: jends l := rfl
theorem jends_app (a b : List (End × End)) : jends (a ++ b) = jends a ++ jends b := by simp [jends]
structure Chk (p : Pln) : Prop where
  nd : p.nms.Nodup
  jex : ∀ j ∈ p.jo, endEx p.st j.1 = true ∧ endEx p.st j.2 = true
  gex : ∀ g ∈ p.gs, endEx p.st g.2 = true
  jne : ∀ j ∈ p.jo, j.1.1 ≠ j.2.1
  jnd : (jends p.jo).Nodup
  gend : ∀ g ∈ p.ga, g.2 ∉ jends p.jo ∧ kindAt p.st g.2.1 = some ("plain" : Str)
  gnd : (p.ga.map (·.2)).Nodup
  send : ∀ g ∈ p.gs2, g.2 ∈ jends p.jo ∧ kindAt p.st g.2.1 = some ("plain" : Str)
  snd : (p.gs2.map (·.2)).Nodup
  ov : ∀ s ∈ p.si, badOv p s = false
theorem dup_none {ks l : List Str} : dupGo ks l = none ↔ l.Nodup ∧ ∀ x ∈ l, x ∉ ks := by
  induction l generalizing ks with
  | nil => simp [dupGo]
  | cons x l ih =>
    by_cases h : x ∈ ks
    · rw [dupGo_hit h]; simp [h]
    · rw [dupGo_miss h, ih, List.nodup_cons]
      constructor
      · rintro ⟨h1, h2⟩
        refine ⟨⟨fun z => (h2 x z) List.mem_cons_self, h1⟩, fun y hy => ?_⟩
        rcases List.mem_cons.mp hy with rfl | hy
        · exact h
        · exact fun z => h2 y hy (List.mem_cons_of_mem _ z)
      · rintro ⟨⟨h1, h2⟩, h3⟩
        refine ⟨h2, fun y hy z => ?_⟩
        rcases List.mem_cons.mp z with rfl | z
        · exact h1 hy
        · exact h3 y (List.mem_cons_of_mem _ hy) z
theorem wj_none {ks : List End} {l : List (End × End)} : wjGo ks l = none ↔ (∀ j ∈ l, j.1.1 ≠ j.2.1) ∧ (jends l).Nodup ∧ ∀ e ∈ jends l, e ∉ ks := by
  induction l generalizing ks with
  | nil => simp [wjGo, jends]
  | cons j l ih =>
    by_cases h : j.1.1 = j.2.1 ∨ j.1 ∈ ks ∨ j.2 ∈ ks
    · rw [wjGo_hit h, jends_cons]
      refine ⟨fun z => (by cases z), fun ⟨h1, _, h3⟩ => ?_⟩
      rcases h with h | h | h
      · exact absurd h (h1 j List.mem_cons_self)
      · exact absurd h (h3 _ List.mem_cons_self)
      · exact absurd h (h3 _ (List.mem_cons_of_mem _ List.mem_cons_self))
    · rw [wjGo_miss h, ih, jends_cons]
      have n1 : j.1.1 ≠ j.2.1 := fun z => h (.inl z)
      have n2 : j.1 ∉ ks := fun z => h (.inr (.inl z))
      have n3 : j.2 ∉ ks := fun z => h (.inr (.inr z))
      have n4 : j.1 ≠ j.2 := fun z => n1 (by rw [z])
      simp only [List.forall_mem_cons]
      simp only [List.nodup_cons, List.mem_cons, not_or]
      constructor
      · rintro ⟨h1, h2, h3⟩
        exact ⟨⟨n1, h1⟩, ⟨⟨n4, fun z => (h3 _ z).2.1 rfl⟩, fun z => (h3 _ z).1 rfl, h2⟩, n2, n3, fun e he => (h3 e he).2.2⟩
      · rintro ⟨⟨_, h1⟩, ⟨⟨_, h2⟩, h3, h4⟩, _, _, h5⟩
        exact ⟨h1, h4, fun e he => ⟨fun z => h3 (z ▸ he), fun z => h2 (z ▸ he), h5 e he⟩⟩
theorem wp_none {st : List (Str × Str)} {jo : List (End × End)} {b : Bool} {ks : List End} {l : List (Str × End)} : wpGo st jo b ks l = none ↔ (∀ g ∈ l, (partAt jo g.2).isSome = b ∧ kindAt st g.2.1 = some ("plain" : Str)) ∧ (l.map (·.2)).Nodup ∧ ∀ g ∈ l, g.2 ∉ ks := by
  induction l generalizing ks with
  | nil => simp [wpGo]
  | cons g l ih =>
    by_cases h : (partAt jo g.2).isSome ≠ b ∨ g.2 ∈ ks ∨ kindAt st g.2.1 ≠ some ("plain" : Str)
    · rw [wpGo_hit h]
      refine ⟨fun z => (by cases z), fun ⟨h1, _, h3⟩ => ?_⟩
      rcases h with h | h | h
      · exact absurd (h1 g List.mem_cons_self).1 h
      · exact absurd h (h3 _ List.mem_cons_self)
      · exact absurd (h1 g List.mem_cons_self).2 h
    · rw [wpGo_miss h, ih]
      have n1 : (partAt jo g.2).isSome = b := Classical.byContradiction fun z => h (.inl z)
      have n2 : g.2 ∉ ks := fun z => h (.inr (.inl z))
      have n3 : kindAt st g.2.1 = some ("plain" : Str) := Classical.byContradiction fun z => h (.inr (.inr z))
      rw [List.map_cons, List.nodup_cons]
      constructor
      · rintro ⟨h1, h2, h3⟩
        refine ⟨fun x hx => ?_, ⟨fun z => ?_, h2⟩, fun x hx => ?_⟩
        · rcases List.mem_cons.mp hx with rfl | hx
          · exact ⟨n1, n3⟩
          · exact h1 x hx
        · obtain ⟨x, hx, e⟩ := List.mem_map.mp z
          exact h3 x hx (by rw [e]; exact List.mem_cons_self)
        · rcases List.mem_cons.mp hx with rfl | hx
          · exact n2
          · exact fun z => h3 x hx (List.mem_cons_of_mem _ z)
      · rintro ⟨h1, ⟨h2, h3⟩, h4⟩
        refine ⟨fun x hx => h1 x (List.mem_cons_of_mem _ hx), h3, fun x hx z => ?_⟩
        rcases List.mem_cons.mp z with z | z
        · exact h2 (List.mem_map.mpr ⟨x, hx, z⟩)
        · exact h4 x (List.mem_cons_of_mem _ hx) z
theorem part_some {jo : List (End × End)} {e : End} : (partAt jo e).isSome = true ↔ e ∈ jends jo := by
  have key : ∀ (l : List (End × End)) (o : Option End), (l.foldl (fun acc j => if j.2 = e then some j.1 else if j.1 = e then some j.2 else acc) o).isSome = true ↔ o.isSome = true ∨ e ∈ jends l := by
    intro l
    induction l with
    | nil => intro o; simp [jends]
    | cons j l ih =>
      intro o
      rw [List.foldl_cons, ih, jends_cons, List.mem_cons, List.mem_cons]
      by_cases h2 : j.2 = e
      · rw [if_pos h2]; simp [h2]
      · rw [if_neg h2]
        by_cases h1 : j.1 = e
        · rw [if_pos h1]; simp [h1]
        · rw [if_neg h1]
          have h1' : ¬ e = j.1 := fun z => h1 z.symm
          have h2' : ¬ e = j.2 := fun z => h2 z.symm
          simp [h1', h2']
  have := key jo none
  simpa [partAt] using this
theorem part_none {jo : List (End × End)} {e : End} : (partAt jo e).isSome = false ↔ e ∉ jends jo := by
  rw [← part_some (jo := jo)]; simp
theorem or_none {α : Type} {a b : Option α} : a.or b = none ↔ a = none ∧ b = none := by cases a <;> simp
theorem miss_none {p : Pln} : missEnd p = none ↔ (∀ j ∈ p.jo, endEx p.st j.1 = true ∧ endEx p.st j.2 = true) ∧ ∀ g ∈ p.gs, endEx p.st g.2 = true := by
  unfold missEnd
  rw [or_none, Option.map_eq_none_iff, Option.map_eq_none_iff, List.find?_eq_none, List.find?_eq_none]
  simp
theorem ov_none {p : Pln} : wrongOv p = none ↔ ∀ s ∈ p.si, badOv p s = false := by
  unfold wrongOv
  rw [Option.map_eq_none_iff, List.find?_eq_none]; simp
theorem fault_none {p : Pln} : faultP p = none ↔ dupGo [] p.nms = none ∧ missEnd p = none ∧ wjGo [] p.jo = none ∧ wpGo p.st p.jo false [] p.ga = none ∧ wpGo p.st p.jo true [] p.gs2 = none ∧ wrongOv p = none := by
  unfold faultP
  cases dupGo [] p.nms with
  | some _ => simp [firstTag]
  | none =>
    cases missEnd p with
    | some _ => simp [firstTag]
    | none =>
      cases wjGo [] p.jo with
      | some _ => simp [firstTag]
      | none =>
        cases wpGo p.st p.jo false [] p.ga with
        | some _ => simp [firstTag]
        | none =>
          cases wpGo p.st p.jo true [] p.gs2 with
          | some _ => simp [firstTag]
          | none => cases wrongOv p <;> simp [firstTag]
theorem chk_iff {p : Pln} : faultP p = none ↔ Chk p := by
  rw [fault_none, dup_none, miss_none, wj_none, wp_none, wp_none, ov_none]
  constructor
  · rintro ⟨⟨a1, _⟩, ⟨b1, b2⟩, ⟨c1, c2, _⟩, ⟨d1, d2, _⟩, ⟨e1, e2, _⟩, f⟩
    exact ⟨a1, b1, b2, c1, c2, fun g hg => ⟨part_none.mp (d1 g hg).1, (d1 g hg).2⟩, d2, fun g hg => ⟨part_some.mp (e1 g hg).1, (e1 g hg).2⟩, e2, f⟩
  · rintro ⟨a1, b1, b2, c1, c2, d1, d2, e1, e2, f⟩
    exact ⟨⟨a1, by simp⟩, ⟨b1, b2⟩, ⟨c1, c2, by simp⟩, ⟨fun g hg => ⟨part_none.mpr (d1 g hg).1, (d1 g hg).2⟩, d2, by simp⟩, ⟨fun g hg => ⟨part_some.mpr (e1 g hg).1, (e1 g hg).2⟩, e2, by simp⟩, f⟩
/-! ### the fault is of the first kind that has one -/
theorem f_name {p : Pln} {n : Str} (h : dupGo [] p.nms = some n) : faultP p = some (("name" : Str), n) := by unfold faultP; rw [h]; rfl
theorem f_end {p : Pln} {n : Str} (h0 : dupGo [] p.nms = none) (h : missEnd p = some n) : faultP p = some (("end" : Str), n) := by unfold faultP; rw [h0, h]; rfl
theorem f_joint {p : Pln} {n : Str} (h0 : dupGo [] p.nms = none) (h1 : missEnd p = none) (h : wjGo [] p.jo = some n) : faultP p = some (("joint" : Str), n) := by unfold faultP; rw [h0, h1, h]; rfl
theorem f_gate {p : Pln} {n : Str} (h0 : dupGo [] p.nms = none) (h1 : missEnd p = none) (h2 : wjGo [] p.jo = none) (h : wpGo p.st p.jo false [] p.ga = some n) : faultP p = some (("gate" : Str), n) := by unfold faultP; rw [h0, h1, h2, h]; rfl
theorem f_signal {p : Pln} {n : Str} (h0 : dupGo [] p.nms = none) (h1 : missEnd p = none) (h2 : wjGo [] p.jo = none) (h3 : wpGo p.st p.jo false [] p.ga = none) (h : wpGo p.st p.jo true [] p.gs2 = some n) : faultP p = some (("signal" : Str), n) := by unfold faultP; rw [h0, h1, h2, h3, h]; rfl
theorem f_overlap {p : Pln} {n : Str} (h0 : dupGo [] p.nms = none) (h1 : missEnd p = none) (h2 : wjGo [] p.jo = none) (h3 : wpGo p.st p.jo false [] p.ga = none) (h4 : wpGo p.st p.jo true [] p.gs2 = none) (h : wrongOv p = some n) : faultP p = some (("overlap" : Str), n) := by unfold faultP; rw [h0, h1, h2, h3, h4, h]; rfl
/-! ### walks over what has something more -/
theorem wp_app {st : List (Str × Str)} {jo : List (End × End)} {b : Bool} {l1 l2 : List (Str × End)} : ∀ {ks : List End}, wpGo st jo b ks l1 = none → wpGo st jo b ks (l1 ++ l2) = wpGo st jo b ((l1.map (·.2)).reverse ++ ks) l2 := by
  induction l1 with
  | nil => intro ks _; rfl
  | cons g l ih =>
    intro ks h
    by_cases hc : (partAt jo g.2).isSome ≠ b ∨ g.2 ∈ ks ∨ kindAt st g.2.1 ≠ some ("plain" : Str)
    · rw [wpGo_hit hc] at h; cases h
    · rw [wpGo_miss hc] at h
      rw [List.cons_append, wpGo_miss hc, ih h, List.map_cons, List.reverse_cons, List.append_assoc]; rfl
theorem wp_more {st : List (Str × Str)} {jo : List (End × End)} {b : Bool} {e : End} {l : List (Str × End)} : ∀ {ks : List End}, wpGo st jo b ks l = none → ∀ ks' : List End, (∀ x, x ∈ ks' ↔ x = e ∨ x ∈ ks) → wpGo st jo b ks' l = (l.find? fun g => decide (g.2 = e)).map (·.1) := by
  induction l with
  | nil => intro ks _ ks' _; rfl
  | cons g l ih =>
    intro ks h ks' hk
    by_cases hc : (partAt jo g.2).isSome ≠ b ∨ g.2 ∈ ks ∨ kindAt st g.2.1 ≠ some ("plain" : Str)
    · rw [wpGo_hit hc] at h; cases h
    · rw [wpGo_miss hc] at h
      by_cases he : g.2 = e
      · rw [wpGo_hit (.inr (.inl ((hk _).mpr (.inl he)))), List.find?_cons, decide_eq_true he]; rfl
      · have hc' : ¬ ((partAt jo g.2).isSome ≠ b ∨ g.2 ∈ ks' ∨ kindAt st g.2.1 ≠ some ("plain" : Str)) := by
          rintro (z | z | z)
          · exact hc (.inl z)
          · rcases (hk _).mp z with z | z
            · exact he z
            · exact hc (.inr (.inl z))
          · exact hc (.inr (.inr z))
        rw [wpGo_miss hc', List.find?_cons, decide_eq_false he]
        refine ih h _ fun x => ?_
        simp only [List.mem_cons, hk]
        constructor
        · rintro (z | z | z)
          · exact .inr (.inl z)
          · exact .inl z
          · exact .inr (.inr z)
        · rintro (z | z | z)
          · exact .inr (.inl z)
          · exact .inl z
          · exact .inr (.inr z)
/-- one more at place k -/
def insA {α : Type} (l : List α) (k : Nat) (x : α) : List α := l.take k ++ x :: l.drop k
theorem insA_mem {α : Type} {l : List α} {k : Nat} {x y : α} : y ∈ insA l k x ↔ y = x ∨ y ∈ l := by
  unfold insA
  rw [List.mem_append, List.mem_cons]
  constructor
  · rintro (h | h | h)
    · exact .inr (List.mem_of_mem_take h)
    · exact .inl h
    · exact .inr (List.mem_of_mem_drop h)
  · rintro (h | h)
    · exact .inr (.inl h)
    · have h : y ∈ l.take k ++ l.drop k := by rw [List.take_append_drop]; exact h
      rcases List.mem_append.mp h with h | h
      · exact .inl h
      · exact .inr (.inr h)
theorem insA_perm {α : Type} (l : List α) (k : Nat) (x : α) : (insA l k x).Perm (x :: l) := by
  have h : (l.take k ++ x :: l.drop k).Perm (x :: (l.take k ++ l.drop k)) := List.perm_middle
  rw [List.take_append_drop] at h; exact h
theorem insA_map {α β : Type} (f : α → β) (l : List α) (k : Nat) (x : α) : (insA l k x).map f = insA (l.map f) k (f x) := by
  unfold insA; rw [List.map_append, List.map_cons, List.map_take, List.map_drop]
theorem insA_len {α : Type} (l : List α) (k : Nat) (x : α) : (insA l k x).length = l.length + 1 := (insA_perm l k x).length_eq
theorem wp_ins {st : List (Str × Str)} {jo : List (End × End)} {b : Bool} {l : List (Str × End)} (h : wpGo st jo b [] l = none) (k : Nat) (n : Str) (e : End) :
    wpGo st jo b [] (insA l k (n, e)) = if (partAt jo e).isSome ≠ b ∨ e ∈ (l.take k).map (·.2) ∨ kindAt st e.1 ≠ some ("plain" : Str) then some n else ((l.drop k).find? fun g => decide (g.2 = e)).map (·.1) := by
  have h1 : wpGo st jo b [] (l.take k) = none := by
    rw [wp_none] at h ⊢
    exact ⟨fun g hg => h.1 g (List.mem_of_mem_take hg), by rw [List.map_take]; exact h.2.1.sublist (List.take_sublist _ _), by simp⟩
  have h2 : wpGo st jo b (((l.take k).map (·.2)).reverse ++ []) (l.drop k) = none := by
    rw [← wp_app h1, List.take_append_drop]; exact h
  unfold insA
  rw [wp_app h1]
  by_cases hc : (partAt jo e).isSome ≠ b ∨ e ∈ (l.take k).map (·.2) ∨ kindAt st e.1 ≠ some ("plain" : Str)
  · rw [if_pos hc, wpGo_hit]
    simpa using hc
  · rw [if_neg hc, wpGo_miss (by simpa using hc)]
    exact wp_more (e := e) h2 _ fun x => by simp
theorem wj_app {l1 l2 : List (End × End)} : ∀ {ks : List End}, wjGo ks l1 = none → ∃ ks', (∀ x, x ∈ ks' ↔ x ∈ jends l1 ∨ x ∈ ks) ∧ wjGo ks (l1 ++ l2) = wjGo ks' l2 := by
  induction l1 with
  | nil => intro ks _; exact ⟨ks, by simp [jends], rfl⟩
  | cons j l ih =>
    intro ks h
    by_cases hc : j.1.1 = j.2.1 ∨ j.1 ∈ ks ∨ j.2 ∈ ks
    · rw [wjGo_hit hc] at h; cases h
    · rw [wjGo_miss hc] at h
      obtain ⟨ks', h1, h2⟩ := ih h
      refine ⟨ks', fun x => ?_, by rw [List.cons_append, wjGo_miss hc, h2]⟩
      rw [h1, jends_cons]
      simp only [List.mem_cons]
      constructor
      · rintro (z | z | z | z)
        · exact .inl (.inr (.inr z))
        · exact .inl (.inr (.inl z))
        · exact .inl (.inl z)
        · exact .inr z
      · rintro ((z | z | z) | z)
        · exact .inr (.inr (.inl z))
        · exact .inr (.inl z)
        · exact .inl z
        · exact .inr (.inr (.inr z))
theorem wj_more {a b : End} {l : List (End × End)} : ∀ {ks : List End}, wjGo ks l = none → ∀ ks' : List End, (∀ x, x ∈ ks' ↔ x = a ∨ x = b ∨ x ∈ ks) → wjGo ks' l = (l.find? fun j => decide (j.1 = a ∨ j.2 = a ∨ j.1 = b ∨ j.2 = b)).map fun j => j.1.1 := by
  induction l with
  | nil => intro ks _ ks' _; rfl
  | cons j l ih =>
    intro ks h ks' hk
    by_cases hc : j.1.1 = j.2.1 ∨ j.1 ∈ ks ∨ j.2 ∈ ks
    · rw [wjGo_hit hc] at h; cases h
    · rw [wjGo_miss hc] at h
      by_cases he : j.1 = a ∨ j.2 = a ∨ j.1 = b ∨ j.2 = b
      · rw [wjGo_hit, List.find?_cons, decide_eq_true he]
        · rfl
        · rcases he with z | z | z | z
          · exact .inr (.inl ((hk _).mpr (.inl z)))
          · exact .inr (.inr ((hk _).mpr (.inl z)))
          · exact .inr (.inl ((hk _).mpr (.inr (.inl z))))
          · exact .inr (.inr ((hk _).mpr (.inr (.inl z))))
      · have hc' : ¬ (j.1.1 = j.2.1 ∨ j.1 ∈ ks' ∨ j.2 ∈ ks') := by
          rintro (z | z | z)
          · exact hc (.inl z)
          · rcases (hk _).mp z with z | z | z
            · exact he (.inl z)
            · exact he (.inr (.inr (.inl z)))
            · exact hc (.inr (.inl z))
          · rcases (hk _).mp z with z | z | z
            · exact he (.inr (.inl z))
            · exact he (.inr (.inr (.inr z)))
            · exact hc (.inr (.inr z))
        rw [wjGo_miss hc', List.find?_cons, decide_eq_false he]
        refine ih h _ fun x => ?_
        simp only [List.mem_cons, hk]
        constructor
        · rintro (z | z | z | z | z)
          · exact .inr (.inr (.inl z))
          · exact .inr (.inr (.inr (.inl z)))
          · exact .inl z
          · exact .inr (.inl z)
          · exact .inr (.inr (.inr (.inr z)))
        · rintro (z | z | z | z | z)
          · exact .inr (.inr (.inl z))
          · exact .inr (.inr (.inr (.inl z)))
          · exact .inl z
          · exact .inr (.inl z)
          · exact .inr (.inr (.inr (.inr z)))
theorem wj_ins {l : List (End × End)} (h : wjGo [] l = none) (k : Nat) (a b : End) :
    wjGo [] (insA l k (a, b)) = if a.1 = b.1 ∨ a ∈ jends (l.take k) ∨ b ∈ jends (l.take k) then some a.1 else ((l.drop k).find? fun j => decide (j.1 = a ∨ j.2 = a ∨ j.1 = b ∨ j.2 = b)).map fun j => j.1.1 := by
  have e : jends l = jends (l.take k) ++ jends (l.drop k) := by rw [← jends_app, List.take_append_drop]
  have h1 : wjGo [] (l.take k) = none := by
    rw [wj_none] at h ⊢
    rw [e] at h
    exact ⟨fun g hg => h.1 g (List.mem_of_mem_take hg), (List.nodup_append.mp h.2.1).1, by simp⟩
  obtain ⟨ks', k1, k2⟩ := wj_app (l2 := l.drop k) h1
  obtain ⟨ks2, k3, k4⟩ := wj_app (l2 := (a, b) :: l.drop k) h1
  rw [List.take_append_drop, h] at k2
  unfold insA
  rw [k4]
  by_cases hc : a.1 = b.1 ∨ a ∈ jends (l.take k) ∨ b ∈ jends (l.take k)
  · rw [if_pos hc, wjGo_hit]
    rcases hc with z | z | z
    · exact .inl z
    · exact .inr (.inl ((k3 _).mpr (.inl z)))
    · exact .inr (.inr ((k3 _).mpr (.inl z)))
  · rw [if_neg hc, wjGo_miss]
    · refine wj_more (a := a) (b := b) k2.symm _ fun x => ?_
      simp only [List.mem_cons, k3, k1]
      constructor
      · rintro (z | z | z | z)
        · exact .inr (.inl z)
        · exact .inl z
        · exact .inr (.inr (.inl z))
        · cases z
      · rintro (z | z | z | z)
        · exact .inr (.inl z)
        · exact .inl z
        · exact .inr (.inr (.inl z))
        · cases z
    · rintro (z | z | z)
      · exact hc (.inl z)
      · rcases (k3 _).mp z with z | z
        · exact hc (.inr (.inl z))
        · cases z
      · rcases (k3 _).mp z with z | z
        · exact hc (.inr (.inr z))
        · cases z
end PL

namespace PL
open PySem PySem.Spec PyProof.Rows L2 GA GxR DL TM
theorem Chk.stnd {p : Pln} (h : Chk p) : (p.st.map (·.1)).Nodup := by
  have := h.nd
  unfold Pln.nms at this
  rw [List.append_assoc] at this
  exact (List.nodup_append.mp this).1
theorem kind_iff {st : List (Str × Str)} (nd : (st.map (·.1)).Nodup) {n k : Str} : kindAt st n = some k ↔ (n, k) ∈ st := by
  refine ⟨kindAt_ok, fun h => ?_⟩
  have key : ∀ (l : List (Str × Str)) (o : Option Str), (l.map (·.1)).Nodup → (n, k) ∈ l → l.foldl (fun acc x => if x.1 = n then some x.2 else acc) o = some k := by
    intro l
    induction l with
    | nil => intro o _ h; cases h
    | cons x l ih =>
      intro o nd h
      rw [List.map_cons, List.nodup_cons] at nd
      rw [List.foldl_cons]
      rcases List.mem_cons.mp h with h | h
      · subst h
        rw [if_pos rfl]
        have : ∀ (l : List (Str × Str)) (o : Option Str), n ∉ l.map (·.1) → l.foldl (fun acc x => if x.1 = n then some x.2 else acc) o = o := by
          intro l
          induction l with
          | nil => intro o _; rfl
          | cons y l ih =>
            intro o hn
            rw [List.map_cons, List.mem_cons, not_or] at hn
            rw [List.foldl_cons, if_neg fun z => hn.1 z.symm]
            exact ih _ hn.2
        exact this l _ nd.1
      · exact ih _ nd.2 h
  exact key st none nd h
theorem kind_congr {st st' : List (Str × Str)} (nd : (st.map (·.1)).Nodup) (nd' : (st'.map (·.1)).Nodup) {n : Str} (h : ∀ k, (n, k) ∈ st ↔ (n, k) ∈ st') : kindAt st n = kindAt st' n := by
  apply Option.ext
  intro k
  rw [kind_iff nd, kind_iff nd', h]
theorem endEx_congr {st st' : List (Str × Str)} {e : End} (h : kindAt st e.1 = kindAt st' e.1) : endEx st e = endEx st' e := by unfold endEx; rw [h]
theorem gs_eq (p : Pln) : p.gs = p.ga ++ p.gs2 := rfl
theorem gs2_map (p : Pln) : p.gs2.map (·.1) = p.si.map (·.1) := by unfold Pln.gs2; rw [List.map_map]; rfl
/-! ### fewer gates, fewer signals -/
theorem Chk.sub {p : Pln} (h : Chk p) {ga' : List (Str × End)} {si' : List (Str × End × Option Step)} (h1 : ga'.Sublist p.ga) (h2 : si'.Sublist p.si) : Chk ⟨p.st, p.jo, ga', si'⟩ where
  nd := h.nd.sublist ((List.Sublist.append ((List.Sublist.refl _).append (h1.map _)) (h2.map _)))
  jex := h.jex
  gex := fun g hg => h.gex g ((h1.append (h2.map fun s => (s.1, s.2.1))).subset hg)
  jne := h.jne
  jnd := h.jnd
  gend := fun g hg => h.gend g (h1.subset hg)
  gnd := h.gnd.sublist (h1.map _)
  send := fun g hg => h.send g ((h2.map fun s => (s.1, s.2.1)).subset hg)
  snd := h.snd.sublist ((h2.map fun s : Str × End × Option Step => (s.1, s.2.1)).map _)
  ov := fun s hs => h.ov s (h2.subset hs)
/-! ### a joint less -/
theorem jends_erase {jo : List (End × End)} {i : Nat} {j : End × End} (hj : jo[i]? = some j) (nd : (jends jo).Nodup) {e : End} : e ∈ jends (jo.eraseIdx i) ↔ e ∈ jends jo ∧ e ≠ j.1 ∧ e ≠ j.2 := by
  obtain ⟨hi, ej⟩ := List.getElem?_eq_some_iff.mp hj
  have e1 : jo = jo.take i ++ j :: jo.drop (i + 1) := by
    conv => lhs; rw [← List.take_append_drop i jo, List.drop_eq_getElem_cons hi, ej]
  have e2 : jo.eraseIdx i = jo.take i ++ jo.drop (i + 1) := List.eraseIdx_eq_take_drop_succ ..
  rw [e2]
  have e3 : jends jo = jends (jo.take i) ++ (j.1 :: j.2 :: jends (jo.drop (i + 1))) := by conv => lhs; rw [e1, jends_app, jends_cons]
  rw [e3] at nd ⊢
  rw [jends_app]
  obtain ⟨n1, n2, n3⟩ := List.nodup_append.mp nd
  rw [List.nodup_cons, List.nodup_cons, List.mem_cons, not_or] at n2
  simp only [List.mem_append, List.mem_cons]
  constructor
  · rintro (h | h)
    · exact ⟨.inl h, n3 e h _ List.mem_cons_self, n3 e h _ (List.mem_cons_of_mem _ List.mem_cons_self)⟩
    · exact ⟨.inr (.inr (.inr h)), fun z => n2.1.2 (z ▸ h), fun z => n2.2.1 (z ▸ h)⟩
  · rintro ⟨h | h | h | h, h1, h2⟩
    · exact .inl h
    · exact (h1 h).elim
    · exact (h2 h).elim
    · exact .inr h
theorem part_iff {jo : List (End × End)} (nd : (jends jo).Nodup) {e f : End} : partAt jo e = some f ↔ ∃ j ∈ jo, (j.2 = e ∧ j.1 = f) ∨ (j.1 = e ∧ j.2 = f) := by
  refine ⟨partAt_in, fun ⟨j, hj, hz⟩ => ?_⟩
  have hs : (partAt jo e).isSome = true := part_some.mpr (mem_jends.mpr ⟨j, hj, by rcases hz with ⟨z, _⟩ | ⟨z, _⟩ <;> simp [z]⟩)
  obtain ⟨f', hf⟩ := Option.isSome_iff_exists.mp hs
  obtain ⟨j', hj', hz'⟩ := partAt_in hf
  have uniq : ∀ (l : List (End × End)), (jends l).Nodup → j ∈ l → j' ∈ l → ∀ x : End, (x = j.1 ∨ x = j.2) → (x = j'.1 ∨ x = j'.2) → j = j' := by
    intro l
    induction l with
    | nil => intro _ h; cases h
    | cons y l ih =>
      intro nd h1 h2 x x1 x2
      rw [jends_cons, List.nodup_cons, List.nodup_cons, List.mem_cons, not_or] at nd
      have notin : ∀ z ∈ l, ∀ x : End, (x = y.1 ∨ x = y.2) → (x = z.1 ∨ x = z.2) → False := fun z hz x a b => by
        have : x ∈ jends l := mem_jends.mpr ⟨z, hz, b⟩
        rcases a with rfl | rfl
        · exact nd.1.2 this
        · exact nd.2.1 this
      rcases List.mem_cons.mp h1 with e1 | k1
      · rcases List.mem_cons.mp h2 with e2 | k2
        · rw [e1, e2]
        · exact (notin j' k2 x (by rw [← e1]; exact x1) x2).elim
      · rcases List.mem_cons.mp h2 with e2 | k2
        · exact (notin j k1 x (by rw [← e2]; exact x2) x1).elim
        · exact ih nd.2.2 k1 k2 x x1 x2
  have ej : j = j' := uniq jo nd hj hj' e (by rcases hz with ⟨z, _⟩ | ⟨z, _⟩ <;> simp [z]) (by rcases hz' with ⟨z, _⟩ | ⟨z, _⟩ <;> simp [z])
  subst ej
  have hne : j.1 ≠ j.2 := by
    intro z
    have : ∀ l : List (End × End), (jends l).Nodup → j ∈ l → False := by
      intro l
      induction l with
      | nil => intro _ h; cases h
      | cons y l ih =>
        intro nd h
        rw [jends_cons, List.nodup_cons, List.nodup_cons, List.mem_cons, not_or] at nd
        rcases List.mem_cons.mp h with h | h
        · subst h; exact nd.1.1 z
        · exact ih nd.2.2 h
    exact this jo nd hj
  rw [hf]
  rcases hz with ⟨a, b⟩ | ⟨a, b⟩ <;> rcases hz' with ⟨c, d⟩ | ⟨c, d⟩
  · rw [← d, b]
  · exact (hne (c.trans a.symm)).elim
  · exact (hne (a.trans c.symm)).elim
  · rw [← d, b]
theorem jends_sub {jo jo' : List (End × End)} (h : ∀ j ∈ jo', j ∈ jo) {e : End} (he : e ∈ jends jo') : e ∈ jends jo := by
  obtain ⟨j, hj, z⟩ := mem_jends.mp he
  exact mem_jends.mpr ⟨j, h j hj, z⟩
theorem part_sub {jo jo' : List (End × End)} (nd : (jends jo).Nodup) (nd' : (jends jo').Nodup) (h : ∀ j ∈ jo', j ∈ jo) {e : End} (he : e ∈ jends jo') : partAt jo e = partAt jo' e := by
  obtain ⟨f, hf⟩ := Option.isSome_iff_exists.mp (part_some.mpr he)
  rw [hf, part_iff nd]
  obtain ⟨j, hj, z⟩ := (part_iff nd').mp hf
  exact ⟨j, h j hj, z⟩
theorem jends_subl {jo jo' : List (End × End)} (h : jo'.Sublist jo) : (jends jo').Sublist (jends jo) := by
  unfold jends
  induction h with
  | slnil => exact List.Sublist.refl _
  | cons a h ih => rw [List.flatMap_cons]; exact ih.trans (List.sublist_append_right _ _)
  | cons_cons a h ih => rw [List.flatMap_cons, List.flatMap_cons]; exact (List.Sublist.refl _).append ih
theorem jends_nodup_sub {jo jo' : List (End × End)} (h : jo'.Sublist jo) (nd : (jends jo).Nodup) : (jends jo').Nodup := nd.sublist (jends_subl h)
theorem badOv_congr {p p' : Pln} {s : Str × End × Option Step} (h1 : ∀ t, s.2.2 = some t → kindAt p.st t.1 = kindAt p'.st t.1) (h2 : partAt p.jo s.2.1 = partAt p'.jo s.2.1) : badOv p s = badOv p' s := by
  unfold badOv
  cases h : s.2.2 with
  | none => rfl
  | some t => dsimp only; unfold fitsOv; rw [h1 t h, h2]
theorem wp_find {st : List (Str × Str)} {jo jo' : List (End × End)} {l : List (Str × End)} (bad : Str × End → Bool) : ∀ {ks : List End}, wpGo st jo true ks l = none → (∀ g ∈ l, (partAt jo' g.2).isSome = !bad g) → wpGo st jo' true ks l = (l.find? bad).map (·.1) := by
  induction l with
  | nil => intro ks _ _; rfl
  | cons g l ih =>
    intro ks h hb
    by_cases hc : (partAt jo g.2).isSome ≠ true ∨ g.2 ∈ ks ∨ kindAt st g.2.1 ≠ some ("plain" : Str)
    · rw [wpGo_hit hc] at h; cases h
    · rw [wpGo_miss hc] at h
      have hg := hb g List.mem_cons_self
      cases e : bad g with
      | true =>
        rw [e] at hg
        rw [wpGo_hit (.inl (by rw [hg]; decide)), List.find?_cons, e]; rfl
      | false =>
        rw [e] at hg
        rw [wpGo_miss, List.find?_cons, e]
        · exact ih h fun x hx => hb x (List.mem_cons_of_mem _ hx)
        · rintro (z | z | z)
          · exact z (by rw [hg]; rfl)
          · exact hc (.inr (.inl z))
          · exact hc (.inr (.inr z))
def tag (w : Str) (o : Option Str) : Option (Str × Str) := o.map fun n => (w, n)
theorem Chk.cutj {p : Pln} (h : Chk p) {i : Nat} {j : End × End} (hj : p.jo[i]? = some j) :
    faultP ⟨p.st, p.jo.eraseIdx i, p.ga, p.si⟩ = tag "signal" ((p.gs2.find? fun g => decide (g.2 = j.1 ∨ g.2 = j.2)).map (·.1)) := by
  have hsub : (p.jo.eraseIdx i).Sublist p.jo := List.eraseIdx_sublist _ _
  have hf := fault_none.mp (chk_iff.mpr h)
  have nd' := jends_nodup_sub hsub h.jnd
  have f1 : missEnd ⟨p.st, p.jo.eraseIdx i, p.ga, p.si⟩ = none := miss_none.mpr ⟨fun x hx => h.jex x (hsub.subset hx), h.gex⟩
  have f2 : wjGo [] (p.jo.eraseIdx i) = none := wj_none.mpr ⟨fun x hx => h.jne x (hsub.subset hx), nd', by simp⟩
  have f3 : wpGo p.st (p.jo.eraseIdx i) false [] p.ga = none := wp_none.mpr ⟨fun g hg => ⟨part_none.mpr fun z => (h.gend g hg).1 (jends_sub (fun x hx => hsub.subset hx) z), (h.gend g hg).2⟩, h.gnd, by simp⟩
  have f4 := wp_find (jo' := p.jo.eraseIdx i) (fun g => decide (g.2 = j.1 ∨ g.2 = j.2)) hf.2.2.2.2.1 fun g hg => by
    have m := (h.send g hg).1
    by_cases z : g.2 = j.1 ∨ g.2 = j.2
    · rw [decide_eq_true z, Bool.not_true, part_none, jends_erase hj h.jnd]
      rintro ⟨_, a, b⟩
      exact z.elim a b
    · rw [decide_eq_false z, Bool.not_false, part_some, jends_erase hj h.jnd]
      exact ⟨m, fun y => z (.inl y), fun y => z (.inr y)⟩
  cases e : p.gs2.find? fun g => decide (g.2 = j.1 ∨ g.2 = j.2) with
  | some g => rw [e] at f4; exact f_signal hf.1 f1 f2 f3 f4
  | none =>
    rw [e] at f4
    refine fault_none.mpr ⟨hf.1, f1, f2, f3, f4, ov_none.mpr fun s hs => ?_⟩
    have hg : (s.1, s.2.1) ∈ p.gs2 := List.mem_map.mpr ⟨s, hs, rfl⟩
    have hn := List.find?_eq_none.mp e _ hg
    have hn : ¬ (s.2.1 = j.1 ∨ s.2.1 = j.2) := by simpa using hn
    rw [← h.ov s hs]
    refine badOv_congr (p := ⟨p.st, p.jo.eraseIdx i, p.ga, p.si⟩) (p' := p) (fun _ _ => rfl) ?_
    refine (part_sub h.jnd nd' (fun x hx => hsub.subset hx) ?_).symm
    rw [jends_erase hj h.jnd]
    exact ⟨(h.send _ hg).1, fun y => hn (.inl y), fun y => hn (.inr y)⟩
/-! ### a stretch less -/
theorem endEx_kind {st : List (Str × Str)} {e : End} (h : endEx st e = true) : ∃ k, kindAt st e.1 = some k := by
  unfold endEx at h
  cases z : kindAt st e.1 with
  | none => rw [z] at h; cases h
  | some k => exact ⟨k, rfl⟩
theorem find_map {α β : Type} (f : α → β) (p : α → Bool) (l : List α) : (l.find? p).map f = ((l.filter p).map f).head? := by
  rw [List.head?_map, List.head?_filter]
theorem fits_kind {st : List (Str × Str)} {o : Option End} {t : Step} (h : fitsOv st o t = true) : o = some (t.1, t.2.1) := by
  unfold fitsOv at h
  simp only [Bool.and_eq_true, decide_eq_true_eq] at h
  exact h.1
theorem Chk.cuts {p : Pln} (h : Chk p) {i : Nat} {s : Str × Str} (hs : p.st[i]? = some s) :
    faultP ⟨p.st.eraseIdx i, p.jo, p.ga, p.si⟩ = tag "end" (((p.jo.filter fun j => decide (s.1 = j.1.1 ∨ s.1 = j.2.1)).map (fun j => j.1.1) ++ (p.ga.filter fun g => decide (g.2.1 = s.1)).map (·.1)).head?) := by
  have hsub : (p.st.eraseIdx i).Sublist p.st := List.eraseIdx_sublist _ _
  have hf := fault_none.mp (chk_iff.mpr h)
  have nd := h.stnd
  have nd' : ((p.st.eraseIdx i).map (·.1)).Nodup := nd.sublist (hsub.map _)
  have mem : ∀ x : Str × Str, x ∈ p.st.eraseIdx i ↔ x ∈ p.st ∧ x.1 ≠ s.1 := by
    obtain ⟨hi, es⟩ := List.getElem?_eq_some_iff.mp hs
    have e1 : p.st = p.st.take i ++ s :: p.st.drop (i + 1) := by
      conv => lhs; rw [← List.take_append_drop i p.st, List.drop_eq_getElem_cons hi, es]
    have e2 : p.st.eraseIdx i = p.st.take i ++ p.st.drop (i + 1) := List.eraseIdx_eq_take_drop_succ ..
    intro x
    rw [e1, List.map_append, List.map_cons] at nd
    obtain ⟨_, n2, n3⟩ := List.nodup_append.mp nd
    rw [List.nodup_cons] at n2
    rw [e2]
    conv => rhs; rw [e1]
    simp only [List.mem_append, List.mem_cons]
    constructor
    · rintro (z | z)
      · exact ⟨.inl z, n3 _ (List.mem_map.mpr ⟨x, z, rfl⟩) _ List.mem_cons_self⟩
      · exact ⟨.inr (.inr z), fun y => n2.1 (y ▸ List.mem_map.mpr ⟨x, z, rfl⟩)⟩
    · rintro ⟨z | z | z, y⟩
      · exact .inl z
      · exact (y (by rw [z])).elim
      · exact .inr z
  have kn : ∀ n, n ≠ s.1 → kindAt (p.st.eraseIdx i) n = kindAt p.st n := fun n hn => kind_congr nd' nd fun k => by
    rw [mem]; exact ⟨fun z => z.1, fun z => ⟨z, hn⟩⟩
  have ks : kindAt (p.st.eraseIdx i) s.1 = none := by
    cases z : kindAt (p.st.eraseIdx i) s.1 with
    | none => rfl
    | some k => exact (((mem _).mp (kindAt_ok z)).2 rfl).elim
  have ex : ∀ e : End, endEx p.st e = true → endEx (p.st.eraseIdx i) e = !decide (e.1 = s.1) := fun e he => by
    by_cases z : e.1 = s.1
    · rw [decide_eq_true z]; unfold endEx; rw [z, ks]; rfl
    · rw [decide_eq_false z, endEx_congr (kn _ z), he]; rfl
  have f0 : dupGo [] (Pln.nms ⟨p.st.eraseIdx i, p.jo, p.ga, p.si⟩) = none := dup_none.mpr ⟨h.nd.sublist (((hsub.map _).append (List.Sublist.refl _)).append (List.Sublist.refl _)), by simp⟩
  have fj : (p.jo.find? fun j => !endEx (p.st.eraseIdx i) j.1 || !endEx (p.st.eraseIdx i) j.2) = p.jo.find? fun j => decide (s.1 = j.1.1 ∨ s.1 = j.2.1) := by
    refine find_congr fun j hj => ?_
    have := h.jex j hj
    rw [ex _ this.1, ex _ this.2]
    rw [Bool.not_not, Bool.not_not, Bool.eq_iff_iff]
    simp only [Bool.or_eq_true, decide_eq_true_eq]
    exact ⟨fun z => z.imp Eq.symm Eq.symm, fun z => z.imp Eq.symm Eq.symm⟩
  have fme : missEnd ⟨p.st.eraseIdx i, p.jo, p.ga, p.si⟩ = ((p.jo.find? fun j => decide (s.1 = j.1.1 ∨ s.1 = j.2.1)).map fun j => j.1.1).or ((p.gs.find? fun g => decide (g.2.1 = s.1)).map (·.1)) := by
    unfold missEnd
    dsimp only
    rw [fj]
    congr 2
    refine find_congr fun g hg => ?_
    rw [ex _ (h.gex g hg), Bool.not_not]
  cases ej : p.jo.find? fun j => decide (s.1 = j.1.1 ∨ s.1 = j.2.1) with
  | some j =>
    rw [ej] at fme
    rw [f_end f0 (show missEnd _ = some j.1.1 from fme)]
    have := find_map (fun j : End × End => j.1.1) (fun j => decide (s.1 = j.1.1 ∨ s.1 = j.2.1)) p.jo
    rw [ej] at this
    rw [List.head?_append, ← this]; rfl
  | none =>
    rw [ej] at fme
    have hnoj := List.find?_eq_none.mp ej
    have hno : ∀ e ∈ jends p.jo, e.1 ≠ s.1 := fun e he z => by
      obtain ⟨j, hj, w⟩ := mem_jends.mp he
      refine hnoj j hj (decide_eq_true ?_)
      rcases w with rfl | rfl
      · exact .inl z.symm
      · exact .inr z.symm
    have e0 := find_map (fun j : End × End => j.1.1) (fun j => decide (s.1 = j.1.1 ∨ s.1 = j.2.1)) p.jo
    rw [ej] at e0
    rw [List.head?_append, ← e0]
    show _ = tag "end" ((p.ga.filter fun g => decide (g.2.1 = s.1)).map (·.1)).head?
    rw [← find_map]
    have egs : p.gs.find? (fun g => decide (g.2.1 = s.1)) = p.ga.find? fun g => decide (g.2.1 = s.1) := by
      rw [gs_eq, List.find?_append]
      have : p.gs2.find? (fun g => decide (g.2.1 = s.1)) = none := List.find?_eq_none.mpr fun g hg => by
        have := hno _ (h.send g hg).1
        simpa using this
      rw [this, Option.or_none]
    rw [egs] at fme
    cases eg : p.ga.find? fun g => decide (g.2.1 = s.1) with
    | some g =>
      rw [eg] at fme
      exact f_end f0 fme
    | none =>
      rw [eg] at fme
      have hnog := List.find?_eq_none.mp eg
      refine fault_none.mpr ⟨f0, fme, hf.2.2.1, wp_none.mpr ⟨fun g hg => ⟨part_none.mpr (h.gend g hg).1, ?_⟩, h.gnd, by simp⟩, wp_none.mpr ⟨fun g hg => ⟨part_some.mpr (h.send g hg).1, ?_⟩, h.snd, by simp⟩, ov_none.mpr fun x hx => ?_⟩
      · have : g.2.1 ≠ s.1 := by simpa using hnog g hg
        show kindAt (p.st.eraseIdx i) _ = _
        rw [kn _ this]; exact (h.gend g hg).2
      · show kindAt (p.st.eraseIdx i) _ = _
        rw [kn _ (hno _ (h.send g hg).1)]; exact (h.send g hg).2
      · have hb := h.ov x hx
        cases ho : x.2.2 with
        | none => unfold badOv; rw [ho]
        | some t =>
          rw [← hb]
          refine badOv_congr (p := ⟨p.st.eraseIdx i, p.jo, p.ga, p.si⟩) (p' := p) (fun t' ht' => ?_) rfl
          rw [ho] at ht'; cases ht'
          unfold badOv at hb
          rw [ho] at hb
          have hb : fitsOv p.st (partAt p.jo x.2.1) t = true := by simpa using hb
          obtain ⟨j, hj, z⟩ := partAt_in (fits_kind hb)
          have : ((t.1, t.2.1) : End) ∈ jends p.jo := mem_jends.mpr ⟨j, hj, by rcases z with ⟨_, z⟩ | ⟨_, z⟩ <;> simp [z]⟩
          exact kn _ (hno _ this)
where
  find_congr {α : Type} {l : List α} {f g : α → Bool} (h : ∀ x ∈ l, f x = g x) : l.find? f = l.find? g := by
    induction l with
    | nil => rfl
    | cons x l ih =>
      rw [List.find?_cons, List.find?_cons, h x List.mem_cons_self, ih fun y hy => h y (List.mem_cons_of_mem _ hy)]
end PL

namespace PL
open PySem PySem.Spec PyProof.Rows L2 GA GxR DL TM
/-! ### a name that stands twice -/
theorem dup_at {l : List Str} : ∀ {ks : List Str} {y : Str}, dupGo ks l = some y → y ∈ ks ∧ y ∈ l ∨ 2 ≤ l.count y := by
  induction l with
  | nil => intro ks y h; cases h
  | cons x l ih =>
    intro ks y h
    by_cases hx : x ∈ ks
    · rw [dupGo_hit hx] at h; cases h
      exact .inl ⟨hx, List.mem_cons_self⟩
    · rw [dupGo_miss hx] at h
      rcases ih h with ⟨a, b⟩ | c
      · rcases List.mem_cons.mp a with rfl | a
        · refine .inr ?_
          rw [List.count_cons_self]
          have := List.one_le_count_iff.mpr b
          omega
        · exact .inl ⟨a, List.mem_cons_of_mem _ b⟩
      · refine .inr ?_
        rw [List.count_cons]; omega
theorem dup_ins {l l' : List Str} {x : Str} (nd : l.Nodup) (hp : l'.Perm (x :: l)) (hx : x ∈ l) : dupGo [] l' = some x := by
  cases e : dupGo [] l' with
  | none =>
    have := (dup_none.mp e).1
    rw [hp.nodup_iff, List.nodup_cons] at this
    exact (this.1 hx).elim
  | some y =>
    rcases dup_at e with ⟨a, _⟩ | c
    · cases a
    · rw [hp.count_eq, List.count_cons] at c
      have h1 := List.nodup_iff_count.mp nd y
      by_cases z : x = y
      · rw [z]
      · have : (x == y) = false := by simpa using z
        rw [this] at c
        simp at c; omega
theorem nms_perm0 (p : Pln) (k : Nat) (s : Str × Str) : (Pln.nms ⟨insA p.st k s, p.jo, p.ga, p.si⟩).Perm (s.1 :: p.nms) := by
  unfold Pln.nms
  exact (((insA_perm p.st k s).map (·.1)).append_right _).append_right _
theorem nms_perm2 (p : Pln) (k : Nat) (s : Str × End) : (Pln.nms ⟨p.st, p.jo, insA p.ga k s, p.si⟩).Perm (s.1 :: p.nms) := by
  unfold Pln.nms
  have h := (((insA_perm p.ga k s).map (·.1)).append_left (p.st.map (·.1)))
  refine (h.append_right (p.si.map (·.1))).trans ?_
  rw [List.map_cons, List.append_assoc, List.cons_append]
  exact List.perm_middle.trans (by rw [List.append_assoc])
theorem nms_perm3 (p : Pln) (k : Nat) (s : Str × End × Option Step) : (Pln.nms ⟨p.st, p.jo, p.ga, insA p.si k s⟩).Perm (s.1 :: p.nms) := by
  unfold Pln.nms
  refine (((insA_perm p.si k s).map (·.1)).append_left _).trans ?_
  rw [List.map_cons]
  exact List.perm_middle
theorem Chk.newN {p : Pln} (h : Chk p) {n : Str} (hn : n ∉ p.nms) {l : List Str} (hp : l.Perm (n :: p.nms)) : dupGo [] l = none := dup_none.mpr ⟨hp.nodup_iff.mpr (List.nodup_cons.mpr ⟨hn, h.nd⟩), by simp⟩
theorem Chk.oldN {p : Pln} (h : Chk p) {n : Str} (hn : n ∈ p.nms) {l : List Str} (hp : l.Perm (n :: p.nms)) : dupGo [] l = some n := dup_ins h.nd hp hn
/-! ### a stretch more -/
theorem Chk.inst {p : Pln} (h : Chk p) {n : Str} (hn : n ∉ p.nms) (kd : Str) (k : Nat) : Chk ⟨insA p.st k (n, kd), p.jo, p.ga, p.si⟩ := by
  have f0 := h.newN hn (nms_perm0 p k (n, kd))
  have nd' : ((insA p.st k (n, kd)).map (·.1)).Nodup := by
    have := (dup_none.mp f0).1
    unfold Pln.nms at this
    rw [List.append_assoc] at this
    exact (List.nodup_append.mp this).1
  have hf := fault_none.mp (chk_iff.mpr h)
  have ne_of : ∀ {m kk : Str}, kindAt p.st m = some kk → m ≠ n := fun {m kk} hm z => hn (by
    subst z
    unfold Pln.nms
    exact List.mem_append_left _ (List.mem_append_left _ (List.mem_map.mpr ⟨_, kindAt_ok hm, rfl⟩)))
  have kn : ∀ {m kk : Str}, kindAt p.st m = some kk → kindAt (insA p.st k (n, kd)) m = kindAt p.st m := fun {m kk} hm => kind_congr nd' h.stnd fun y => by
    rw [insA_mem]
    exact ⟨fun z => z.elim (fun z => (ne_of hm (by cases z; rfl)).elim) id, .inr⟩
  have ex : ∀ e : End, endEx p.st e = true → endEx (insA p.st k (n, kd)) e = true := fun e he => by
    obtain ⟨kk, hk⟩ := endEx_kind he
    rw [endEx_congr (kn hk)]; exact he
  refine chk_iff.mp (fault_none.mpr ⟨f0, miss_none.mpr ⟨fun j hj => ⟨ex _ (h.jex j hj).1, ex _ (h.jex j hj).2⟩, fun g hg => ex _ (h.gex g hg)⟩, hf.2.2.1, wp_none.mpr ⟨fun g hg => ⟨part_none.mpr (h.gend g hg).1, ?_⟩, h.gnd, by simp⟩, wp_none.mpr ⟨fun g hg => ⟨part_some.mpr (h.send g hg).1, ?_⟩, h.snd, by simp⟩, ov_none.mpr fun x hx => ?_⟩)
  · exact (kn (h.gend g hg).2).trans (h.gend g hg).2
  · exact (kn (h.send g hg).2).trans (h.send g hg).2
  · have hb := h.ov x hx
    cases ho : x.2.2 with
    | none => unfold badOv; rw [ho]
    | some t =>
      rw [← hb]
      refine badOv_congr (p := ⟨insA p.st k (n, kd), p.jo, p.ga, p.si⟩) (p' := p) (fun t' ht' => ?_) rfl
      rw [ho] at ht'; cases ht'
      unfold badOv at hb
      rw [ho] at hb
      have hb : fitsOv p.st (partAt p.jo x.2.1) t = true := by simpa using hb
      unfold fitsOv at hb
      cases hk : kindAt p.st t.1 with
      | none => rw [hk] at hb; simp at hb
      | some kk => exact (kn hk).trans hk
/-! ### a joint more -/
theorem jends_ins (l : List (End × End)) (k : Nat) (a b : End) {e : End} : e ∈ jends (insA l k (a, b)) ↔ e = a ∨ e = b ∨ e ∈ jends l := by
  simp only [mem_jends, insA_mem]
  constructor
  · rintro ⟨j, rfl | hj, z⟩
    · exact z.elim .inl fun z => .inr (.inl z)
    · exact .inr (.inr ⟨j, hj, z⟩)
  · rintro (rfl | rfl | ⟨j, hj, z⟩)
    · exact ⟨_, .inl rfl, .inl rfl⟩
    · exact ⟨_, .inl rfl, .inr rfl⟩
    · exact ⟨j, .inr hj, z⟩
def joinFault (p : Pln) (k : Nat) (a b : End) : Option (Str × Str) :=
  if a.1 = b.1 ∨ a ∈ jends (p.jo.take k) ∨ b ∈ jends (p.jo.take k) then some (("joint" : Str), a.1)
  else match (p.jo.drop k).find? fun j => decide (j.1 = a ∨ j.2 = a ∨ j.1 = b ∨ j.2 = b) with
    | some j => some (("joint" : Str), j.1.1)
    | none => tag "gate" ((p.ga.find? fun g => decide (g.2 = a ∨ g.2 = b)).map (·.1))
theorem wp_findF {st : List (Str × Str)} {jo jo' : List (End × End)} {l : List (Str × End)} (bad : Str × End → Bool) : ∀ {ks : List End}, wpGo st jo false ks l = none → (∀ g ∈ l, (partAt jo' g.2).isSome = bad g) → wpGo st jo' false ks l = (l.find? bad).map (·.1) := by
  induction l with
  | nil => intro ks _ _; rfl
  | cons g l ih =>
    intro ks h hb
    by_cases hc : (partAt jo g.2).isSome ≠ false ∨ g.2 ∈ ks ∨ kindAt st g.2.1 ≠ some ("plain" : Str)
    · rw [wpGo_hit hc] at h; cases h
    · rw [wpGo_miss hc] at h
      have hg := hb g List.mem_cons_self
      cases e : bad g with
      | true =>
        rw [e] at hg
        rw [wpGo_hit (.inl (by rw [hg]; decide)), List.find?_cons, e]; rfl
      | false =>
        rw [e] at hg
        rw [wpGo_miss, List.find?_cons, e]
        · exact ih h fun x hx => hb x (List.mem_cons_of_mem _ hx)
        · rintro (z | z | z)
          · exact z hg
          · exact hc (.inr (.inl z))
          · exact hc (.inr (.inr z))
theorem Chk.injo {p : Pln} (h : Chk p) (k : Nat) {a b : End} (ha : endEx p.st a = true) (hb : endEx p.st b = true) : faultP ⟨p.st, insA p.jo k (a, b), p.ga, p.si⟩ = joinFault p k a b := by
  have hf := fault_none.mp (chk_iff.mpr h)
  have f1 : missEnd ⟨p.st, insA p.jo k (a, b), p.ga, p.si⟩ = none := miss_none.mpr ⟨fun j hj => by
    rcases insA_mem.mp hj with rfl | hj
    · exact ⟨ha, hb⟩
    · exact h.jex j hj, h.gex⟩
  have f2 := wj_ins hf.2.2.1 k a b
  unfold joinFault
  by_cases hc : a.1 = b.1 ∨ a ∈ jends (p.jo.take k) ∨ b ∈ jends (p.jo.take k)
  · rw [if_pos hc] at f2 ⊢
    exact f_joint hf.1 f1 f2
  · rw [if_neg hc] at f2 ⊢
    cases e : (p.jo.drop k).find? fun j => decide (j.1 = a ∨ j.2 = a ∨ j.1 = b ∨ j.2 = b) with
    | some j => rw [e] at f2; exact f_joint hf.1 f1 f2
    | none =>
      rw [e] at f2
      have hab : a ∉ jends p.jo ∧ b ∉ jends p.jo := by
        have key : ∀ x : End, x = a ∨ x = b → x ∉ jends p.jo := fun x hx z => by
          have e2 : jends p.jo = jends (p.jo.take k) ++ jends (p.jo.drop k) := by rw [← jends_app, List.take_append_drop]
          rw [e2] at z
          rcases List.mem_append.mp z with z | z
          · rcases hx with rfl | rfl
            · exact hc (.inr (.inl z))
            · exact hc (.inr (.inr z))
          · obtain ⟨j, hj, w⟩ := mem_jends.mp z
            refine List.find?_eq_none.mp e j hj (decide_eq_true ?_)
            rcases hx with rfl | rfl <;> rcases w with w | w <;> simp [w]
        exact ⟨key a (.inl rfl), key b (.inr rfl)⟩
      have f3 := wp_findF (jo' := insA p.jo k (a, b)) (fun g => decide (g.2 = a ∨ g.2 = b)) hf.2.2.2.1 fun g hg => by
        rw [Bool.eq_iff_iff, part_some, jends_ins, decide_eq_true_eq]
        exact ⟨fun z => z.elim .inl fun z => z.elim .inr fun z => ((h.gend g hg).1 z).elim, fun z => z.elim .inl fun z => .inr (.inl z)⟩
      dsimp only
      cases eg : p.ga.find? fun g => decide (g.2 = a ∨ g.2 = b) with
      | some g => rw [eg] at f3; exact f_gate hf.1 f1 f2 f3
      | none =>
        rw [eg] at f3
        have nd' : (jends (insA p.jo k (a, b))).Nodup := (wj_none.mp f2).2.1
        refine fault_none.mpr ⟨hf.1, f1, f2, f3, wp_none.mpr ⟨fun g hg => ⟨part_some.mpr ((jends_ins ..).mpr (.inr (.inr (h.send g hg).1))), (h.send g hg).2⟩, h.snd, by simp⟩, ov_none.mpr fun x hx => ?_⟩
        rw [← h.ov x hx]
        exact badOv_congr (p := ⟨p.st, insA p.jo k (a, b), p.ga, p.si⟩) (p' := p) (fun _ _ => rfl) (part_sub nd' h.jnd (fun j hj => insA_mem.mpr (.inr hj)) (h.send _ (List.mem_map.mpr ⟨x, hx, rfl⟩)).1)
/-! ### a gate more -/
def gateFault (p : Pln) (k : Nat) (n : Str) (e : End) : Option (Str × Str) :=
  if e ∈ jends p.jo ∨ e ∈ (p.ga.take k).map (·.2) ∨ kindAt p.st e.1 ≠ some ("plain" : Str) then some (("gate" : Str), n)
  else tag "gate" (((p.ga.drop k).find? fun g => decide (g.2 = e)).map (·.1))
theorem Chk.inga {p : Pln} (h : Chk p) (k : Nat) {n : Str} {e : End} (hn : n ∉ p.nms) (he : endEx p.st e = true) : faultP ⟨p.st, p.jo, insA p.ga k (n, e), p.si⟩ = gateFault p k n e := by
  have hf := fault_none.mp (chk_iff.mpr h)
  have f0 := h.newN hn (nms_perm2 p k (n, e))
  have f1 : missEnd ⟨p.st, p.jo, insA p.ga k (n, e), p.si⟩ = none := miss_none.mpr ⟨h.jex, fun g hg => by
    have hg : g ∈ insA p.ga k (n, e) ++ p.gs2 := hg
    rcases List.mem_append.mp hg with hg | hg
    · rcases insA_mem.mp hg with rfl | hg
      · exact he
      · exact h.gex g (List.mem_append_left _ hg)
    · exact h.gex g (List.mem_append_right _ hg)⟩
  have f3 := wp_ins hf.2.2.2.1 k n e
  have hc' : ((partAt p.jo e).isSome ≠ false ∨ e ∈ (p.ga.take k).map (·.2) ∨ kindAt p.st e.1 ≠ some ("plain" : Str)) ↔ (e ∈ jends p.jo ∨ e ∈ (p.ga.take k).map (·.2) ∨ kindAt p.st e.1 ≠ some ("plain" : Str)) := by
    have : (partAt p.jo e).isSome ≠ false ↔ e ∈ jends p.jo := by rw [← part_some]; cases partAt p.jo e <;> simp
    rw [this]
  unfold gateFault
  by_cases hc : e ∈ jends p.jo ∨ e ∈ (p.ga.take k).map (·.2) ∨ kindAt p.st e.1 ≠ some ("plain" : Str)
  · rw [if_pos (hc'.mpr hc)] at f3
    rw [if_pos hc]
    exact f_gate f0 f1 hf.2.2.1 f3
  · rw [if_neg fun z => hc (hc'.mp z)] at f3
    rw [if_neg hc]
    cases eg : (p.ga.drop k).find? fun g => decide (g.2 = e) with
    | some g => rw [eg] at f3; exact f_gate f0 f1 hf.2.2.1 f3
    | none =>
      rw [eg] at f3
      exact fault_none.mpr ⟨f0, f1, hf.2.2.1, f3, hf.2.2.2.2.1, hf.2.2.2.2.2⟩
/-! ### a signal more -/
def signalFault (p : Pln) (k : Nat) (n : Str) (e : End) (o : Option Step) : Option (Str × Str) :=
  if e ∉ jends p.jo ∨ e ∈ (p.gs2.take k).map (·.2) ∨ kindAt p.st e.1 ≠ some ("plain" : Str) then some (("signal" : Str), n)
  else match (p.gs2.drop k).find? fun g => decide (g.2 = e) with
    | some g => some (("signal" : Str), g.1)
    | none => if badOv p (n, e, o) = true then some (("overlap" : Str), n) else none
theorem Chk.insi {p : Pln} (h : Chk p) (k : Nat) {n : Str} {e : End} (o : Option Step) (hn : n ∉ p.nms) (he : endEx p.st e = true) : faultP ⟨p.st, p.jo, p.ga, insA p.si k (n, e, o)⟩ = signalFault p k n e o := by
  have hf := fault_none.mp (chk_iff.mpr h)
  have f0 := h.newN hn (nms_perm3 p k (n, e, o))
  have eg : (Pln.gs2 ⟨p.st, p.jo, p.ga, insA p.si k (n, e, o)⟩) = insA p.gs2 k (n, e) := insA_map (fun s : Str × End × Option Step => (s.1, s.2.1)) p.si k (n, e, o)
  have f1 : missEnd ⟨p.st, p.jo, p.ga, insA p.si k (n, e, o)⟩ = none := miss_none.mpr ⟨h.jex, fun g hg => by
    rw [gs_eq, eg] at hg
    rcases List.mem_append.mp hg with hg | hg
    · exact h.gex g (List.mem_append_left _ hg)
    · rcases insA_mem.mp hg with rfl | hg
      · exact he
      · exact h.gex g (List.mem_append_right _ hg)⟩
  have f3 := wp_ins hf.2.2.2.2.1 k n e
  have hc' : ((partAt p.jo e).isSome ≠ true ∨ e ∈ (p.gs2.take k).map (·.2) ∨ kindAt p.st e.1 ≠ some ("plain" : Str)) ↔ (e ∉ jends p.jo ∨ e ∈ (p.gs2.take k).map (·.2) ∨ kindAt p.st e.1 ≠ some ("plain" : Str)) := by
    have : (partAt p.jo e).isSome ≠ true ↔ e ∉ jends p.jo := by rw [← part_some]
    rw [this]
  rw [← eg] at f3
  unfold signalFault
  by_cases hc : e ∉ jends p.jo ∨ e ∈ (p.gs2.take k).map (·.2) ∨ kindAt p.st e.1 ≠ some ("plain" : Str)
  · rw [if_pos (hc'.mpr hc)] at f3
    rw [if_pos hc]
    exact f_signal f0 f1 hf.2.2.1 hf.2.2.2.1 f3
  · rw [if_neg fun z => hc (hc'.mp z)] at f3
    rw [if_neg hc]
    cases eg2 : (p.gs2.drop k).find? fun g => decide (g.2 = e) with
    | some g => rw [eg2] at f3; exact f_signal f0 f1 hf.2.2.1 hf.2.2.2.1 f3
    | none =>
      rw [eg2] at f3
      dsimp only
      have hbo : ∀ s, badOv ⟨p.st, p.jo, p.ga, insA p.si k (n, e, o)⟩ s = badOv p s := fun s => badOv_congr (p := ⟨p.st, p.jo, p.ga, insA p.si k (n, e, o)⟩) (p' := p) (fun _ _ => rfl) rfl
      by_cases hb : badOv p (n, e, o) = true
      · rw [if_pos hb]
        refine f_overlap f0 f1 hf.2.2.1 hf.2.2.2.1 f3 ?_
        unfold wrongOv
        dsimp only
        have : (insA p.si k (n, e, o)).find? (badOv ⟨p.st, p.jo, p.ga, insA p.si k (n, e, o)⟩) = some (n, e, o) := by
          unfold insA at hbo ⊢
          rw [List.find?_append, List.find?_eq_none.mpr, List.find?_cons, hbo, hb]
          · rfl
          · intro x hx
            rw [hbo, h.ov x (List.mem_of_mem_take hx)]; decide
        rw [this]; rfl
      · rw [if_neg hb]
        refine fault_none.mpr ⟨f0, f1, hf.2.2.1, hf.2.2.2.1, f3, ov_none.mpr fun s hs => ?_⟩
        rw [hbo]
        rcases insA_mem.mp hs with rfl | hs
        · simpa using hb
        · exact h.ov s hs
/-! ### the empty plan, and what is put into it -/
theorem Chk.empty {p : Pln} (h : Chk p) (hn : p.nms = []) : p = ⟨[], [], [], []⟩ := by
  unfold Pln.nms at hn
  rw [List.append_eq_nil_iff, List.append_eq_nil_iff, List.map_eq_nil_iff, List.map_eq_nil_iff, List.map_eq_nil_iff] at hn
  obtain ⟨⟨h1, h2⟩, h3⟩ := hn
  have h4 : p.jo = [] := by
    cases e : p.jo with
    | nil => rfl
    | cons j l =>
      have := (h.jex j (by rw [e]; exact List.mem_cons_self)).1
      rw [h1] at this; cases this
  obtain ⟨a, b, c, d⟩ := p
  dsimp only at h1 h2 h3 h4
  rw [h1, h2, h3, h4]
end PL

namespace PL
open PySem PySem.Spec PyProof.Rows L2 GA GxR DL TM
/-! ### drawn plans are without fault -/
def stEnds (kvs : List (Str × Str)) : List End := kvs.flatMap fun s => (List.range (nEnds s.2).toNat).map fun i : Nat => (s.1, (i : Int))
theorem stEnds_snoc (kvs : List (Str × Str)) (s k : Str) : stEnds (kvs ++ [(s, k)]) = stEnds kvs ++ (List.range (nEnds k).toNat).map fun i : Nat => (s, (i : Int)) := by simp [stEnds]
theorem mem_stEnds {kvs : List (Str × Str)} {e : End} : e ∈ stEnds kvs ↔ ∃ s ∈ kvs, e.1 = s.1 ∧ 0 ≤ e.2 ∧ e.2 < nEnds s.2 := by
  unfold stEnds
  rw [List.mem_flatMap]
  constructor
  · rintro ⟨s, hs, h⟩
    obtain ⟨i, hi, rfl⟩ := List.mem_map.mp h
    have := List.mem_range.mp hi
    exact ⟨s, hs, rfl, by dsimp only; omega, by dsimp only; omega⟩
  · rintro ⟨s, hs, h1, h2, h3⟩
    refine ⟨s, hs, List.mem_map.mpr ⟨e.2.toNat, List.mem_range.mpr (by omega), ?_⟩⟩
    obtain ⟨a, b⟩ := e
    dsimp only at h1 h2 h3 ⊢
    rw [h1, show ((b.toNat : Nat) : Int) = b by omega]
theorem stEnds_nd : ∀ {kvs : List (Str × Str)}, (kvs.map (·.1)).Nodup → (stEnds kvs).Nodup
  | [], _ => List.nodup_nil
  | s :: kvs, nd => by
    rw [List.map_cons, List.nodup_cons] at nd
    have ih := stEnds_nd nd.2
    have e : stEnds (s :: kvs) = ((List.range (nEnds s.2).toNat).map fun i : Nat => (s.1, (i : Int))) ++ stEnds kvs := rfl
    rw [e]
    refine List.nodup_append.mpr ⟨?_, ih, fun a ha b hb z => ?_⟩
    · refine List.Nodup.map_on' (fun i _ j _ h => ?_) List.nodup_range
      have h2 := congrArg Prod.snd h
      dsimp only at h2; omega
    · obtain ⟨i, _, rfl⟩ := List.mem_map.mp ha
      obtain ⟨t, ht, h1, _⟩ := mem_stEnds.mp hb
      refine nd.1 (List.mem_map.mpr ⟨t, ht, ?_⟩)
      rw [← h1, ← z]
where
  List.Nodup.map_on' {α β : Type} {f : α → β} : ∀ {l : List α}, (∀ x ∈ l, ∀ y ∈ l, f x = f y → x = y) → l.Nodup → (l.map f).Nodup
    | [], _, _ => List.nodup_nil
    | a :: l, H, nd => by
      rw [List.nodup_cons] at nd
      rw [List.map_cons, List.nodup_cons]
      refine ⟨fun z => ?_, map_on' (fun x hx y hy => H x (List.mem_cons_of_mem _ hx) y (List.mem_cons_of_mem _ hy)) nd.2⟩
      obtain ⟨b, hb, e⟩ := List.mem_map.mp z
      have := H b (List.mem_cons_of_mem _ hb) a List.mem_cons_self e
      exact nd.1 (this ▸ hb)
  map_on' {α β : Type} {f : α → β} : ∀ {l : List α}, (∀ x ∈ l, ∀ y ∈ l, f x = f y → x = y) → l.Nodup → (l.map f).Nodup := fun {l} H nd => by
    have h : l.Pairwise (fun x y => f x ≠ f y) := by
      refine List.Pairwise.imp_of_mem ?_ nd
      intro x y hx hy hne e
      exact hne (H x hx y hy e)
    exact List.pairwise_map.mpr h
theorem stEnds_ex {kvs : List (Str × Str)} (nd : (kvs.map (·.1)).Nodup) {e : End} (h : e ∈ stEnds kvs) : endEx kvs e = true := by
  obtain ⟨s, hs, h1, h2, h3⟩ := mem_stEnds.mp h
  have : kindAt kvs e.1 = some s.2 := (kind_iff nd).mpr (by rw [h1]; exact hs)
  unfold endEx
  rw [this]; exact decide_eq_true h3
theorem perm_erase {α : Type} {l : List α} {i : Nat} {x : α} (h : l[i]? = some x) : (x :: l.eraseIdx i).Perm l := by
  obtain ⟨hi, e⟩ := List.getElem?_eq_some_iff.mp h
  have e1 : l = l.take i ++ x :: l.drop (i + 1) := by
    conv => lhs; rw [← List.take_append_drop i l, List.drop_eq_getElem_cons hi, e]
  have e2 : l.eraseIdx i = l.take i ++ l.drop (i + 1) := List.eraseIdx_eq_take_drop_succ ..
  rw [e2]
  conv => rhs; rw [e1]
  exact List.perm_middle.symm
/-- names drawn one by one -/
structure NV (us0 us l : List Str) : Prop where
  eq : us = us0 ++ l
  nd : l.Nodup
  new : ∀ n ∈ l, n ∉ us0
theorem NV.init (us0 : List Str) : NV us0 us0 [] := ⟨by simp, List.nodup_nil, fun n h => nomatch h⟩
theorem NV.step {us0 us l : List Str} (h : NV us0 us l) {s : Str} (hs : s ∉ us) : NV us0 (us ++ [s]) (l ++ [s]) where
  eq := by rw [h.eq, List.append_assoc]
  nd := List.nodup_append.mpr ⟨h.nd, by simp, fun a ha b hb e => by
    have hb : b = s := by simpa using hb
    rw [h.eq] at hs
    exact hs (List.mem_append_right _ (by rw [← hb, ← e]; exact ha))⟩
  new := fun n hn => by
    rcases List.mem_append.mp hn with hn | hn
    · exact h.new n hn
    · have hn : n = s := by simpa using hn
      subst hn
      rw [h.eq] at hs
      exact fun z => hs (List.mem_append_left _ z)
theorem many_val2 {kind : Str} (h : kindS kind = true) : ∃ n : Int, n = nEnds kind ∧ valD manyD (.inr kind) = some (.int n) ∧ 0 < n ∧ n ≤ 4 ∧ (kind = "plain" → n ≤ 2) := by
  rcases kind3 h with rfl | rfl | rfl
  · exact ⟨2, rfl, by with_unfolding_all rfl, by decide, by decide, fun _ => by decide⟩
  · exact ⟨3, rfl, by with_unfolding_all rfl, by decide, by decide, fun z => absurd z (by decide)⟩
  · exact ⟨4, rfl, by with_unfolding_all rfl, by decide, by decide, fun z => absurd z (by decide)⟩
/-! ### joints -/
def jpairs (js : List (End × End)) : List (End × End) := js.flatMap fun x => [(x.1, x.2), (x.2, x.1)]
theorem jpairs_keys (js : List (End × End)) : (jpairs js).map (·.1) = jends js := by
  induction js with
  | nil => rfl
  | cons x l ih =>
    have e : jpairs (x :: l) = (x.1, x.2) :: (x.2, x.1) :: jpairs l := rfl
    rw [e, jends_cons, List.map_cons, List.map_cons, ih]
theorem jpairs_snoc (js : List (End × End)) (a b : End) : jpairs (js ++ [(a, b)]) = jpairs js ++ [(a, b)] ++ [(b, a)] := by simp [jpairs]
theorem mem_jpairs {js : List (End × End)} {e f : End} : (e, f) ∈ jpairs js ↔ ∃ j ∈ js, (j.2 = e ∧ j.1 = f) ∨ (j.1 = e ∧ j.2 = f) := by
  unfold jpairs
  simp only [List.mem_flatMap, List.mem_cons, List.not_mem_nil, or_false, Prod.mk.injEq]
  constructor
  · rintro ⟨j, hj, ⟨rfl, rfl⟩ | ⟨rfl, rfl⟩⟩
    · exact ⟨j, hj, .inr ⟨rfl, rfl⟩⟩
    · exact ⟨j, hj, .inl ⟨rfl, rfl⟩⟩
  · rintro ⟨j, hj, ⟨rfl, rfl⟩ | ⟨rfl, rfl⟩⟩
    · exact ⟨j, hj, .inr ⟨rfl, rfl⟩⟩
    · exact ⟨j, hj, .inl ⟨rfl, rfl⟩⟩
structure JX (es : List End) (js : List (End × End)) (es' : List End) (kvs : List (End × End)) : Prop where
  kv : kvs = jpairs js
  pm : (es' ++ jends js).Perm es
  ne : ∀ x ∈ js, x.1.1 ≠ x.2.1
theorem JX.init (es : List End) : JX es [] es [] := ⟨rfl, by simp [jends], fun x h => nomatch h⟩
theorem JX.nd {es : List End} {js : List (End × End)} {es' : List End} {kvs : List (End × End)} (h : JX es js es' kvs) (nd : es.Nodup) : es'.Nodup ∧ (jends js).Nodup ∧ ∀ e ∈ es', e ∉ jends js := by
  have := h.pm.nodup_iff.mpr nd
  obtain ⟨n1, n2, n3⟩ := List.nodup_append.mp this
  exact ⟨n1, n2, fun e he z => n3 e he e z rfl⟩
theorem JX.keys {es : List End} {js : List (End × End)} {es' : List End} {kvs : List (End × End)} (h : JX es js es' kvs) : kvs.map (·.1) = jends js := by rw [h.kv, jpairs_keys]
theorem JX.sub {es : List End} {js : List (End × End)} {es' : List End} {kvs : List (End × End)} (h : JX es js es' kvs) {e : End} (he : e ∈ jends js) : e ∈ es := h.pm.mem_iff.mp (List.mem_append_right _ he)
theorem JX.step {es : List End} {js : List (End × End)} {es' : List End} {kvs : List (End × End)} (h : JX es js es' kvs) {a b : End} {i1 i2 : Nat} (h1 : es'[i1]? = some a) (h2 : (es'.eraseIdx i1)[i2]? = some b) (hne : a.1 ≠ b.1) :
    JX es (js ++ [(a, b)]) ((es'.eraseIdx i1).eraseIdx i2) (kvs ++ [(a, b)] ++ [(b, a)]) where
  kv := by rw [h.kv, jpairs_snoc]
  pm := by
    refine List.Perm.trans ?_ h.pm
    have p1 := perm_erase h1
    have p2 := perm_erase h2
    rw [jends_app]
    have e : jends [(a, b)] = [a, b] := rfl
    rw [e, ← List.append_assoc]
    refine List.perm_append_comm.trans ?_
    show ([a, b] ++ (((es'.eraseIdx i1).eraseIdx i2) ++ jends js)).Perm _
    rw [← List.append_assoc]
    refine List.Perm.append_right _ ?_
    show (a :: b :: (es'.eraseIdx i1).eraseIdx i2).Perm es'
    exact (p2.cons a).trans p1
  ne := fun x hx => by
    rcases List.mem_append.mp hx with hx | hx
    · exact h.ne x hx
    · have hx : x = (a, b) := by simpa using hx
      rw [hx]; exact hne
theorem putJo2 {e e' : End} {kvs : List (End × End)} (h : e ∉ kvs.map (·.1)) : ∃ kvs', putD (joKV kvs) (eKey e) (endD e') = joKV kvs' ∧ (∀ p ∈ kvs', p ∈ kvs ∨ p = (e, e')) ∧ kvs'.length ≤ kvs.length + 1 ∧ kvs' = kvs ++ [(e, e')] := by
  refine ⟨kvs ++ [(e, e')], ?_, fun p hp => ?_, by rw [List.length_append]; exact Nat.le_refl _, rfl⟩
  · unfold putD
    have : ((joKV kvs).any fun kv => decide (kv.1 = eKey e)) = false := by
      rw [Bool.eq_false_iff]
      intro z
      obtain ⟨p, hp, hq⟩ := List.any_eq_true.mp z
      obtain ⟨x, hx, rfl⟩ := List.mem_map.mp hp
      have hq : eKey x.1 = eKey e := of_decide_eq_true hq
      exact h (List.mem_map.mpr ⟨x, hx, eKey_inj hq⟩)
    rw [this, if_neg Bool.false_ne_true]
    unfold joKV; rw [List.map_append]; rfl
  · rcases List.mem_append.mp hp with hp | hp
    · exact .inl hp
    · exact .inr (List.mem_singleton.mp hp)
def spJoints2 : DSp := fun ds m Q => ∃ (Pe : End → Prop) (d : D) (f j : Addr) (es : List End), ds = [d, .ref f, .ref j] ∧ Dk m d ∧ f ≠ j ∧ m.mu f = some (.lst (es.map endD)) ∧ m.mu j = some (.dit []) ∧ es.length ≤ 100 ∧ es.Nodup ∧ (∀ e ∈ es, Pe e) ∧ (∀ e, Pe e → endOk e) ∧
  ∀ (a : Addr) (m' : M) (js : List (End × End)) (es' : List End) (kvs : List (End × End)), Chg2 f j m m' → m.mu a = none → m'.mu f = some (.lst (es'.map endD)) → m'.mu j = some (.dit (joKV kvs)) → m'.mu a = some (.lst (js.map joD)) → (∀ x ∈ js, joOk x) → js.length ≤ 16 → (∀ e ∈ es', Pe e) → es'.length ≤ es.length → (∀ p ∈ kvs, Pe p.1 ∧ Pe p.2) → kvs.length ≤ 32 → JX es js es' kvs → Q (.ref a) m'
/-! ### overlaps -/
def ovOk (kvs : List (Str × Str)) (e : End) (t : Step) : Prop := t.1 = e.1 ∧ t.2.1 = e.2 ∧ ∃ kind, (e.1, kind) ∈ kvs ∧ (kind = "plain" ∨ kind = "crossing") ∧ (t.2.1, t.2.2) ∈ waysK kind
def spOver2 : DSp := fun ds m Q => ∃ (d : D) (k : Addr) (kvs : List (Str × Str)) (e : End), ds = [d, .ref k, endD e] ∧ Dk m d ∧ m.mu k = some (.dic (strKV kvs)) ∧ (kvs.map (·.1)).Nodup ∧ (endOk e ∧ ∃ kind, (e.1, kind) ∈ kvs ∧ kindS kind = true ∧ e.2 < nEnds kind) ∧ ∀ o, (∀ t, o = some t → stepOk t ∧ ovOk kvs e t) → Q (ovD o) m
theorem way_plain {i : Int} (h0 : 0 ≤ i) (h1 : i < nEnds "plain") : (i, 1 - i) ∈ waysK "plain" := by
  have e : nEnds "plain" = 2 := rfl
  have : i = 0 ∨ i = 1 := by omega
  rcases this with rfl | rfl <;> decide
theorem way_cross {i : Int} (h0 : 0 ≤ i) (h1 : i ≤ 3) : (i, Builtin.bitXor i 1) ∈ waysK "crossing" := by
  have : i = 0 ∨ i = 1 ∨ i = 2 ∨ i = 3 := by omega
  rcases this with rfl | rfl | rfl | rfl <;> decide +kernel
/-! ### the drawn plan -/
def plainAt (kvs : List (Str × Str)) (e : End) : Bool := decide (kindAt kvs e.1 = some ("plain" : Str))
def spChecked2 : DSp := fun ds m Q => ∃ (d : D) (u : Addr) (us : List Str) (k : Nat), ds = [d, .ref u, .int k] ∧ Dk m d ∧ m.mu u = some (.lst (us.map D.str)) ∧ us.length ≤ 20 ∧ k ≤ 12 ∧
  ∀ (p : Pln) m', p.Ok → Chk p → p.st.length ≤ k → (∀ n ∈ p.nms, n ∉ us) → Chg u m m' → m'.mu u = some (.lst ((us ++ p.nms).map D.str)) → Q p.d m'
theorem Outs.filterOf {α : Type} {f : α → D} {P : α → Prop} {b : α → Bool} (inj : ∀ a b, f a = f b → a = b) : ∀ {l : List α} {ys : List D}, Outs (fun d o => ∃ a, d = f a ∧ P a ∧ o = if b a = true then some (f a) else none) (l.map f) ys → ys = (l.filter b).map f
  | [], _, o => by cases o; rfl
  | a :: l, _, o => by
    cases o with
    | keep r t =>
      obtain ⟨c, e, _, e2⟩ := r
      have := inj _ _ e
      subst this
      by_cases z : b a = true
      · rw [if_pos z] at e2; cases e2
        rw [List.filter_cons_of_pos z, Outs.filterOf inj t]; rfl
      · rw [if_neg z] at e2; cases e2
    | skip r t =>
      obtain ⟨c, e, _, e2⟩ := r
      have := inj _ _ e
      subst this
      by_cases z : b a = true
      · rw [if_pos z] at e2; cases e2
      · rw [List.filter_cons_of_neg z, Outs.filterOf inj t]
theorem chk_drawn {kvs : List (Str × Str)} {js : List (End × End)} {es2 : List End} {jkv : List (End × End)} {ga : List (Str × End)} {ss : List (Str × End × Option Step)} {fs fs' : List End} (nd : (kvs.map (·.1) ++ ga.map (·.1) ++ ss.map (·.1)).Nodup)
    (J : JX (stEnds kvs) js es2 jkv) (hg : (ga.map (·.2) ++ fs).Perm (es2.filter (plainAt kvs))) (hs : (ss.map (·.2.1) ++ fs').Perm ((jkv.map (·.1)).filter (plainAt kvs))) (ho : ∀ s ∈ ss, ∀ t, s.2.2 = some t → ∃ e', (s.2.1, e') ∈ jkv ∧ ovOk kvs e' t) : Chk ⟨kvs, js, ga, ss⟩ := by
  have nk : (kvs.map (·.1)).Nodup := by rw [List.append_assoc] at nd; exact (List.nodup_append.mp nd).1
  obtain ⟨n1, n2, n3⟩ := J.nd (stEnds_nd nk)
  have ex : ∀ e ∈ es2 ++ jends js, endEx kvs e = true := fun e he => stEnds_ex nk (J.pm.mem_iff.mp he)
  have gm : ∀ g ∈ ga, g.2 ∈ es2 ∧ plainAt kvs g.2 = true := fun g hgm => by
    have := hg.mem_iff.mp (List.mem_append_left _ (List.mem_map.mpr ⟨g, hgm, rfl⟩))
    exact List.mem_filter.mp this
  have sm : ∀ s ∈ ss, s.2.1 ∈ jends js ∧ plainAt kvs s.2.1 = true := fun s hsm => by
    have := hs.mem_iff.mp (List.mem_append_left _ (List.mem_map.mpr ⟨s, hsm, rfl⟩))
    rw [J.keys] at this
    exact List.mem_filter.mp this
  have g2 : ∀ g ∈ (Pln.mk kvs js ga ss).gs2, ∃ s ∈ ss, g = (s.1, s.2.1) := fun g h => by
    obtain ⟨s, h1, h2⟩ := List.mem_map.mp h
    exact ⟨s, h1, h2.symm⟩
  refine ⟨nd, fun j hj => ⟨ex _ (List.mem_append_right _ (mem_jends.mpr ⟨j, hj, .inl rfl⟩)), ex _ (List.mem_append_right _ (mem_jends.mpr ⟨j, hj, .inr rfl⟩))⟩, fun g hgm => ?_, J.ne, n2, fun g hgm => ⟨n3 _ (gm g hgm).1, of_decide_eq_true (gm g hgm).2⟩, ?_, fun g hgm => ?_, ?_, fun s hsm => ?_⟩
  · rcases List.mem_append.mp hgm with hgm | hgm
    · exact ex _ (List.mem_append_left _ (gm g hgm).1)
    · obtain ⟨s, h1, rfl⟩ := List.mem_map.mp hgm
      exact ex _ (List.mem_append_right _ (sm s h1).1)
  · have := hg.nodup_iff.mpr (n1.filter _)
    exact (List.nodup_append.mp this).1
  · obtain ⟨s, h1, rfl⟩ := g2 g hgm
    exact ⟨(sm s h1).1, of_decide_eq_true (sm s h1).2⟩
  · have := hs.nodup_iff.mpr (by rw [J.keys]; exact n2.filter _)
    have e : (Pln.mk kvs js ga ss).gs2.map (·.2) = ss.map (·.2.1) := by unfold Pln.gs2; rw [List.map_map]; rfl
    rw [e]
    exact (List.nodup_append.mp this).1
  · unfold badOv
    cases ht : s.2.2 with
    | none => rfl
    | some t =>
      obtain ⟨e', h1, h2, h3, kind, h4, h5, h6⟩ := ho s hsm t ht
      rw [J.kv, mem_jpairs] at h1
      have hp : partAt js s.2.1 = some e' := (part_iff n2).mpr h1
      have hk : kindAt kvs t.1 = some kind := (kind_iff nk).mpr (by rw [h2]; exact h4)
      have hee : e' = (t.1, t.2.1) := by rw [h2, h3]
      have : fitsOv kvs (partAt js s.2.1) t = true := by
        unfold fitsOv
        rw [hp, hk, hee]
        have hd : (decide (kind = "plain") || decide (kind = "crossing")) = true := by
          rcases h5 with rfl | rfl
          · rfl
          · rfl
        simp [hd, h6]
      show (!fitsOv kvs (partAt js s.2.1) t) = false
      rw [this]; rfl
end PL

namespace DL
open PySem PySem.Spec PyProof.Rows L2 GA GxR TM
section
variable {X : Cx}
/-! ### x in t, t a tuple of data -/
def rInDT (K : PySem.W.Frag) (neg : Bool) : R2 := fun x y H Q => ∃ d ds, Dp K H x d ∧ Dp K H y (.tuple ds) ∧ SeqAt.shaped d = true ∧ SeqAt.shaped (.tuple ds) = true ∧ Q (.bl (if neg then !ds.any fun z => PyData.eqv z d else ds.any fun z => PyData.eqv z d)) H
theorem op_inDT (hu : X.A.units + 65 < cLine) : OpR X (compareOp .In) (rInDT X.K false) := by
  intro pins s σ H x y v u Q I rx ry ⟨d, ds, hd, he, sd, se, q⟩
  obtain ⟨as, r1⟩ := Dp.reads I d x v hd rx
  obtain ⟨bs, r2⟩ := Dp.reads I (.tuple ds) y u he ry
  exact SeqAt.in_tuple_reads r2 r1 (SeqAt.canLay_of_shaped se) (SeqAt.canLay_of_shaped sd) (room_in_shaped sd hu) ⟨.bl _, H, I, rfl, q⟩
theorem op_notInDT (hu : X.A.units + 65 < cLine) : OpR X (compareOp .NotIn) (rInDT X.K true) := by
  intro pins s σ H x y v u Q I rx ry ⟨d, ds, hd, he, sd, se, q⟩
  obtain ⟨as, r1⟩ := Dp.reads I d x v hd rx
  obtain ⟨bs, r2⟩ := Dp.reads I (.tuple ds) y u he ry
  exact SeqAt.notIn_tuple_reads r2 r1 (SeqAt.canLay_of_shaped se) (SeqAt.canLay_of_shaped sd) (room_in_shaped sd hu) ⟨.bl _, H, I, rfl, q⟩
def rdInP (neg : Bool) : DR2 := fun x y m Q => ∃ ds, y = .tup ds ∧ D.pures ds = true ∧ x.pure = true ∧ SeqAt.shaped x.py = true ∧ SeqAt.shaped (.tuple (D.pys ds)) = true ∧ Q (.bl (if neg then !(D.pys ds).any fun z => PyData.eqv z x.py else (D.pys ds).any fun z => PyData.eqv z x.py)) m
theorem opl_inP {K : PySem.W.Frag} (neg : Bool) : OpL K (rInDT K neg) (rdInP neg) := fun x y vx vy H m Q' Q rx ry rh ⟨ds, ey, p1, p2, s1, s2, q⟩ f => by
  subst ey
  exact ⟨_, _, Rep.dp _ _ p2 rx, Rep.dp (.tup ds) _ p1 ry, s1, s2, f _ m q _ H (Ts.refl _ _) (.bl _) rh⟩
theorem dc_inP {k : Nat} (hr : Room k X.A) : DC X .In (rdInP false) := ⟨_, op_inDT (by have := hr.un; omega), opl_inP false⟩
theorem dc_notInP {k : Nat} (hr : Room k X.A) : DC X .NotIn (rdInP true) := ⟨_, op_notInDT (by have := hr.un; omega), opl_inP true⟩
/-! ### is True, is False -/
def rdIsB (neg : Bool) : DR2 := fun x y m Q => match x, y with
  | .bl a, .bl b => Q (.bl (if neg then !decide (a = b) else decide (a = b))) m
  | _, _ => False
theorem dc_isB : DC X .Is (rdIsB false) := ⟨_, op_isBl, fun x y vx vy H m Q' Q rx ry rh h f => by
  cases x <;> cases y <;> first | exact h.elim | skip
  cases rx; cases ry
  exact ⟨_, _, rfl, rfl, f _ m h _ H (Ts.refl _ _) (.bl _) rh⟩⟩
theorem dc_notB : DC X .IsNot (rdIsB true) := ⟨_, op_notBl, fun x y vx vy H m Q' Q rx ry rh h f => by
  cases x <;> cases y <;> first | exact h.elim | skip
  cases rx; cases ry
  exact ⟨_, _, rfl, rfl, f _ m h _ H (Ts.refl _ _) (.bl _) rh⟩⟩
end
end DL

namespace DL
open PySem PySem.Spec PyProof.Rows L2 GA GxR PL
/-- a part of a list that stands beside the store -/
def dSlG (K : PySem.W.Frag) (te : DTr) (tl th : DTO) : DTr := fun δ m Q => te δ m fun x m1 => tl δ m1 fun l m2 => th δ m2 fun h m3 => ∃ (a : Addr) (ns : List Int), x = .ref a ∧ (∀ H, m3.gh.inv H → SqL K H a (ns.map V.int)) ∧ ∀ p, m3.mu p = none → Q (.ref p) (m3.set p (.lst (cutL (ns.map D.int) l h)))
theorem de_sliceG {X : Cx} {e : Expr} {te : DTr} {pos : Pos} {lo hi : Option Expr} {tl th : DTO} {p2 : Pos} (he : DE X e te) (hl : DPo X lo tl) (hu : DPo X hi th) : DE X (.Subscript e (.Slice lo hi none p2) pos) (dSlG X.K te tl th) := by
  refine (pe_slice sl_list he hl hu).imp fun σ H Q ⟨δ, m, Q', rs, rh, q, f⟩ => ?_
  refine ⟨δ, m, _, rs, rh, q, fun x m1 q1 v H1 t1 r1 rh1 => ⟨δ, m1, _, rs.mono t1, rh1, q1, fun l m2 q2 H2 t2 rh2 => ⟨δ, m2, _, rs.mono (t1.trans t2), rh2, q2, fun h m3 q3 H3 t3 rh3 => ?_⟩⟩⟩
  have r3 := Rep.mono (t2.trans t3) _ _ r1
  have f3 := f.mono ((t1.trans t2).trans t3)
  obtain ⟨a, ns, rfl, hS, q⟩ := q3
  cases r3
  exact ⟨_, ns.map V.int, rfl, hS H3 rh3.inv, fun p hp => f3 _ _ (q p (rh3.fresh hp)) _ _ (Ts.new hp) (.ref p) (rh3.newO hp ⟨_, upd_same, cut_rep l h (rep_ints ns)⟩)⟩
/-- from here on the deck stands beside the store -/
def dHide (t : DTS) : DTS := fun E δ m => ∃ aD aC, DeckAt m aD aC ∧ (¬ m.gh.own aD → ¬ m.gh.own aC → aD ≠ aC → t E δ (PL.hide m aD aC))
theorem dss_hide {X : Cx} {st : List Stmt} {t : DTS} (h : DSs X st t) : DSs X st (dHide t) := PSs.imp h fun E σ H ⟨δ, m, E', rs, rh, ⟨aD, aC, hd, q⟩, f⟩ => by
  refine ⟨δ, PL.hide m aD aC, E', rs, PL.RelH.hide rh hd, q (fun z => ?_) (fun z => ?_) (fun z => ?_), f⟩
  · obtain ⟨x, k, ns, e1, e2, r⟩ := hd.ex
    rw [rh.sep _ z] at e1; cases e1
  · obtain ⟨x, k, ns, e1, e2, r⟩ := hd.ex
    rw [rh.sep _ z] at e2; cases e2
  · obtain ⟨x, k, ns, e1, e2, r⟩ := hd.ex
    subst z; rw [e1] at e2; cases e2
theorem Tab.gh {m m' : M} {P : Addr} (h : Tab m P) (e : m'.gh = m.gh) : Tab m' P := by
  obtain ⟨mu, g⟩ := m
  obtain ⟨mu', g'⟩ := m'
  cases e
  exact ⟨h.own, h.is, h.grow⟩
theorem Tab.hide {m : M} {P aD aC : Addr} (h : Tab m P) (h1 : ¬ m.gh.own aD) (h2 : ¬ m.gh.own aC) : Tab (PL.hide m aD aC) P where
  own := .inl h.own
  is := fun H i => h.is H i.1
  grow := fun H H2 i t => ⟨h.grow H H2 i.1 t, by
    obtain ⟨x, k, ns, e1, e2, r⟩ := i.2.ex
    have n1 : aD ≠ P := fun z => h1 (z ▸ h.own)
    have n2 : aC ≠ P := fun z => h2 (z ▸ h.own)
    exact ⟨x, k, ns, (t.2 _ n1).trans e1, (t.2 _ n2).trans e2, r⟩⟩
theorem Dk.hide {m : M} {aD aC : Addr} (h1 : ¬ m.gh.own aD) (h2 : ¬ m.gh.own aC) (ne : aD ≠ aC) : Dk (PL.hide m aD aC) (.ref aD) := ⟨aD, aC, m.gh, rfl, rfl, h1, h2, ne⟩
end DL

namespace PL
open PySem PySem.Spec PyProof.Rows L2 GA GxR DL
theorem outs4 {Rel : D → Option D → Prop} {a b c d : D} {ys : List D} (hn : ∀ x, ¬ Rel x none) (h : Outs Rel [a, b, c, d] ys) : ∃ a' b' c' d', ys = [a', b', c', d'] ∧ Rel a (some a') ∧ Rel b (some b') ∧ Rel c (some c') ∧ Rel d (some d') := by
  cases h with
  | skip h _ => exact (hn _ h).elim
  | keep h1 t =>
    cases t with
    | skip h _ => exact (hn _ h).elim
    | keep h2 t =>
      cases t with
      | skip h _ => exact (hn _ h).elim
      | keep h3 t =>
        cases t with
        | skip h _ => exact (hn _ h).elim
        | keep h4 t =>
          cases t
          exact ⟨_, _, _, _, rfl, h1, h2, h3, h4⟩
theorem subL {α : Type} {f : α → D} {l : List α} {ys : List D} (h : ∀ y ∈ ys, y ∈ l.map f) : ∃ l' : List α, ys = l'.map f ∧ ∀ a ∈ l', a ∈ l := listOf fun y hy => by
  obtain ⟨a, ha, e⟩ := List.mem_map.mp (h y hy)
  exact ⟨a, e.symm, ha⟩
def P0 : Pln := ⟨[], [], [], []⟩
theorem P0_ok : P0.Ok := ⟨(fun _ h => nomatch h), (fun _ h => nomatch h), (fun _ h => nomatch h), (fun _ h => nomatch h), Nat.zero_le _, Nat.zero_le _, Nat.zero_le _, Nat.zero_le _⟩
theorem P0_text : Txt.join "\n" P0.lines = "" := by decide +kernel
/-- the parts for which b holds -/
def Pln.part (p : Pln) (b0 b1 b2 b3 : Bool) : Pln := ⟨if b0 then p.st else [], if b1 then p.jo else [], if b2 then p.ga else [], if b3 then p.si else []⟩
theorem Pln.part_ok {p : Pln} (h : p.Ok) (b0 b1 b2 b3 : Bool) : (p.part b0 b1 b2 b3).Ok := by
  unfold Pln.part
  refine ⟨?_, ?_, ?_, ?_, ?_, ?_, ?_, ?_⟩
  · cases b0
    · intro s hs; cases hs
    · exact h.st
  · cases b1
    · intro s hs; cases hs
    · exact h.jo
  · cases b2
    · intro s hs; cases hs
    · exact h.ga
  · cases b3
    · intro s hs; cases hs
    · exact h.si
  · cases b0
    · exact Nat.zero_le _
    · exact h.n1
  · cases b1
    · exact Nat.zero_le _
    · exact h.n2
  · cases b2
    · exact Nat.zero_le _
    · exact h.n3
  · cases b3
    · exact Nat.zero_le _
    · exact h.n4
theorem Pln.part_d (p : Pln) (b0 b1 b2 b3 : Bool) : (p.part b0 b1 b2 b3).d = .tup [if b0 then .tup (p.st.map strD) else .tup [], if b1 then .tup (p.jo.map joD) else .tup [], if b2 then .tup (p.ga.map gaD) else .tup [], if b3 then .tup (p.si.map siD) else .tup []] := by
  cases b0 <;> cases b1 <;> cases b2 <;> cases b3 <;> rfl
theorem iEn_w {te : DTr} {δ : Sl} {m : M} {xs : List D} (h : ∀ R : DK, (R (.tup xs) m) → te δ m R) : WkS m (enumD 0 xs) (iEn te) δ := fun R hR => h _ ⟨xs, .inl rfl, hR _ m (Ext.refl m) fun _ _ => trivial⟩
def spLaw (K : PySem.W.Frag) (P1 P2 : Addr) : DSp := fun ds m Q => ∃ (aS : Addr) (ns : List Int), ds = [.ref aS] ∧ (∀ H, m.gh.inv H → SqL K H aS (ns.map V.int)) ∧ ns.length ≤ 63 ∧ Tab m P1 ∧ Tab m P2 ∧ ∀ m', Q (.bl true) m'
def spDeck (K : PySem.W.Frag) : DSp := fun ds m Q => ∃ (aS : Addr) (ns : List Int), ds = [.ref aS] ∧ (∀ H, m.gh.inv H → SqL K H aS (ns.map V.int)) ∧ ns.length ≤ 63 ∧ ∀ aD aC m', Ext m m' → m.mu aD = none → m.mu aC = none → aD ≠ aC → DeckAt m' aD aC → Q (.ref aD) m'
theorem dfn {P : Program} {w : World} {K : PySem.W.Frag} {mg : Str → Option Value} {base : Heap} {x : Str} {st : Stmt} {f : Addr} {fd : FuncData} {N ps : List Str} {k : Nat} {sp : DSp} (F : Fun K x x st f fd)
    (S : FnScope N ps (defScope st)) (hl : ∀ ds m Q, sp ds m Q → ds.length = ps.length)
    (hbody : ∀ (cdv : Value) (A : Around) (outer : List Env) (s : Shared) (H : Hp) (E : XK), Room k (A.deeper (envOfC x (defScope st) s.heap.objs.size f cdv)) →
      ∃ t, DSs (cxOf CX0 P w K mg base N x (defScope st) f cdv A outer s H E).nox (defBody st) t ∧ ∀ ds m Q, sp ds m Q → t { nx := fun _ m' => Q .non m', rt := Q } (startD N ds) m) : FnOk P w K mg base CX0 (k + 1) f fd ps (spUp K sp) :=
  F.ok S (fun vs H Q E ⟨ds, m, Q', r, rh, q, f⟩ => by rw [← r.length]; exact hl ds m Q' q) fun cdv A outer s H vs Q E hr hsp => by
    obtain ⟨ds, m, Q', r, rh, q, f⟩ := hsp
    obtain ⟨t, ht, h⟩ := hbody cdv A outer s H E hr
    exact ⟨_, ht, startD N ds, m, _, start_rel r, rh, h ds m Q' q, ⟨fun δ' m' q' σ' H' t' rs' rh' => f .non m' q' .non H' t' .non rh', f, fun _ _ z => z.elim, fun _ _ z => z.elim⟩⟩
end PL

namespace PL
open PySem PySem.Spec PyProof.Rows L2 GA GxR DL TM
/-! ### parts of tuples -/
theorem cut_take {α : Type} (xs : List α) (k : Nat) : cutL xs none (some (k : Int)) = xs.take k := by
  unfold cutL
  rw [HT.sIx_none, HT.sIx_nat, List.drop_zero, Nat.sub_zero]
  by_cases h : k ≤ xs.length
  · rw [Nat.min_eq_left h]
  · rw [Nat.min_eq_right (by omega), List.take_length, List.take_of_length_le (by omega)]
theorem cut_drop {α : Type} (xs : List α) (k : Nat) : cutL xs (some (k : Int)) none = xs.drop k := by
  unfold cutL
  rw [HT.sIx_none, HT.sIx_nat]
  by_cases h : k ≤ xs.length
  · rw [Nat.min_eq_left h, List.take_of_length_le (by rw [List.length_drop]; omega)]
  · rw [Nat.min_eq_right (by omega), List.drop_length, List.drop_of_length_le (by omega)]; simp
theorem set_cut {α : Type} {l : List α} {i : Nat} {x y : α} (h : l[i]? = some x) : l.take i ++ y :: l.drop (i + 1) = l.set i y := by
  obtain ⟨hi, _⟩ := List.getElem?_eq_some_iff.mp h
  rw [List.set_eq_take_append_cons_drop, if_pos hi]
theorem erase_cut {α : Type} (l : List α) (k : Nat) : l.take k ++ l.drop (k + 1) = l.eraseIdx k := (List.eraseIdx_eq_take_drop_succ ..).symm
def spPut : DSp := fun ds m Q => ∃ (L : List (List D)) (i k : Nat) (x : D), ds = [.tup (L.map D.tup), .int i, .int k, x] ∧ L.length = 4 ∧ (∀ l ∈ L, l.length ≤ 100) ∧ ∃ l, L[i]? = some l ∧ Q (.tup ((L.set i (insA l k x)).map D.tup)) m
def spWo : DSp := fun ds m Q => ∃ (L : List (List D)) (i k : Nat), ds = [.tup (L.map D.tup), .int i, .int k] ∧ L.length = 4 ∧ (∀ l ∈ L, l.length ≤ 100) ∧ ∃ l, L[i]? = some l ∧ Q (.tup ((L.set i (l.eraseIdx k)).map D.tup)) m
theorem ix_tups {L : List (List D)} {i : Nat} {l : List D} {m : M} {Q : DK} (h : L[i]? = some l) (q : Q (.tup l) m) : rdIx (.tup (L.map D.tup)) (.int (i : Int)) m Q := ⟨.tup l, by
  have hi := (List.getElem?_eq_some_iff.mp h).1
  unfold atI ixN
  rw [if_pos (by omega), if_pos (by rw [List.length_map]; omega)]
  show (L.map D.tup)[(i : Int).toNat]? = _
  rw [Int.toNat_natCast, List.getElem?_map, h]; rfl, q⟩
/-! ### repr of what is told -/
def okW (s : Str) : Prop := s.length ≤ 100 ∧ ∀ c ∈ s.cps.toList, c < 16 ^ 8
def okF (o : Option (Str × Str)) : Prop := ∀ f, o = some f → okW f.1 ∧ okW f.2
theorem nameS_okW {s : Str} (h : nameS s = true) : okW s := by
  refine ⟨by have := (nameS_len h).2; omega, fun c hc => ?_⟩
  unfold nameS at h
  simp only [Bool.and_eq_true] at h
  have h5 := List.all_eq_true.mp h.2 c hc
  have h6 : c ∈ lettersDS.cps.toList := by simpa using h5
  have h7 : lettersDS.cps.toList.all (fun c => decide (c < 16 ^ 8)) = true := by decide +kernel
  simpa using List.all_eq_true.mp h7 c h6
def pyF : Option (Str × Str) → PyData
  | none => .none
  | some f => .tuple [.str f.1, .str f.2]
theorem reprF {o : Option (Str × Str)} {m : M} {Q : DK} (h : okF o) (q : Q (.str (pyF o).shown) m) : rdRepr [optF o] m Q := by
  cases o with
  | none => exact ⟨_, .none, rfl, .non, rfl, by decide +kernel, by decide, q⟩
  | some f =>
    refine ⟨_, .tuple [.str f.1, .str f.2], rfl, .tup (.cons (.str _) (.cons (.str _) .nil)), rfl, ?_, Nat.le_trans (Nat.le_refl 1) (by decide), q⟩
    obtain ⟨⟨a1, a2⟩, b1, b2⟩ := h f rfl
    have h1 := StrLaws.reprText_len f.1 a2
    have h2 := StrLaws.reprText_len f.2 b2
    have e : (PyData.tuple [.str f.1, .str f.2]).shown = ("(" : Str) ++ (reprText f.1 ++ ", " ++ reprText f.2) ++ ")" := rfl
    rw [e, len_app, len_app, len_app, len_app]
    have e1 : ("(" : Str).length = 1 := rfl
    have e2 : (", " : Str).length = 2 := rfl
    have e3 : (")" : Str).length = 1 := rfl
    rw [e1, e2, e3, sizeLine_eq]
    omega
theorem okF_none : okF none := fun f h => nomatch h
theorem okF_some {w n : Str} (hw : okW w) (hn : nameS n = true) : okF (some (w, n)) := fun f h => by cases h; exact ⟨hw, nameS_okW hn⟩
theorem okW_of {s : Str} (h : (decide (s.length ≤ 100) && s.cps.toList.all fun c => decide (c < 16 ^ 8)) = true) : okW s := by
  simp only [Bool.and_eq_true, decide_eq_true_eq] at h
  exact ⟨h.1, fun c hc => by simpa using List.all_eq_true.mp h.2 c hc⟩
theorem okW_words : okW "name" ∧ okW "end" ∧ okW "joint" ∧ okW "gate" ∧ okW "signal" ∧ okW "overlap" := ⟨okW_of (by decide +kernel), okW_of (by decide +kernel), okW_of (by decide +kernel), okW_of (by decide +kernel), okW_of (by decide +kernel), okW_of (by decide +kernel)⟩
def spIs (Ok : M → Prop) : DSp := fun ds m Q => ∃ (p : Pln) (due : Option (Str × Str)), ds = [p.d, optF due] ∧ (p.Ok ∧ Ok m) ∧ okF due ∧ faultP p = due ∧ ∀ m', Ext m m' → Q (.bl true) m'
def spEnds : DSp := fun ds m Q => ∃ p : Pln, ds = [p.d] ∧ p.Ok ∧ ∀ a m', m.mu a = none → Ext m m' → m'.mu a = some (.lst ((stEnds p.st).map endD)) → Q (.ref a) m'
theorem stEnds_len {kvs : List (Str × Str)} (h : ∀ s ∈ kvs, kindS s.2 = true) : (stEnds kvs).length ≤ 4 * kvs.length := by
  induction kvs with
  | nil => exact Nat.le_refl _
  | cons s l ih =>
    have e : stEnds (s :: l) = ((List.range (nEnds s.2).toNat).map fun i : Nat => (s.1, (i : Int))) ++ stEnds l := rfl
    have h1 := ih fun x hx => h x (List.mem_cons_of_mem _ hx)
    obtain ⟨n, hn, _, _, h4, _⟩ := many_val2 (h s List.mem_cons_self)
    rw [e, List.length_append, List.length_map, List.length_range, List.length_cons]
    omega
/-- asked of a plan without fault -/
def spAll (Ok : M → Prop) : DSp := fun ds m Q => ∃ p : Pln, ds = [p.d] ∧ p.Ok ∧ Chk p ∧ Ok m ∧ ∀ m', Ext m m' → Q (.bl true) m'
/-! ### ends among ends -/
theorem eqv_ends {e : End} : ∀ {l : List End}, ((D.pys (l.map endD)).any fun z => PyData.eqv z (endD e).py) = decide (e ∈ l)
  | [] => by simp [D.pys]
  | a :: l => by
    show (PyData.eqv (endD a).py (endD e).py || (D.pys (l.map endD)).any fun z => PyData.eqv z (endD e).py) = _
    rw [eqv_ends, eqv_end]
    by_cases z : a = e
    · subst z; simp
    · have : ¬ e = a := fun y => z y.symm
      simp [z, this]
theorem inEnds {e : End} {l : List End} {m : M} {Q : DK} (he : endOk e) (hl : ∀ x ∈ l, endOk x) (q : Q (.bl (decide (e ∈ l))) m) : rdInP false (endD e) (.tup (l.map endD)) m Q := by
  have hf : ∀ d ∈ l.map endD, Fine d := fun d hd => by
    obtain ⟨x, hx, rfl⟩ := List.mem_map.mp hd
    exact end_fine (hl x hx)
  have h1 : ∀ d ∈ l.map endD, d.dep ≤ 50 := fun d hd => by
    obtain ⟨x, hx, rfl⟩ := List.mem_map.mp hd
    exact Nat.le_trans (Nat.le_refl 1) (by decide)
  refine ⟨_, rfl, pures_of fun d hd => (hf d hd).pure, rfl, shaped_d (end_fine he), shaped_d (Fine.tup hf h1), ?_⟩
  show Q (.bl ((D.pys (l.map endD)).any fun z => PyData.eqv z (endD e).py)) m
  rw [eqv_ends]; exact q
theorem inPair {e a b : End} {m : M} {Q : DK} (he : endOk e) (ha : endOk a) (hb : endOk b) (q : Q (.bl (decide (e = a ∨ e = b))) m) : rdInP false (endD e) (.tup [endD a, endD b]) m Q :=
  inEnds (l := [a, b]) he (fun x hx => by
    simp only [List.mem_cons, List.not_mem_nil, or_false] at hx
    rcases hx with rfl | rfl
    · exact ha
    · exact hb) (by
    have : decide (e ∈ [a, b]) = decide (e = a ∨ e = b) := by simp
    rw [this]; exact q)
/-- xs != [] with a new list -/
theorem Fine.ofStr {s : Str} (h : nameS s = true) : Fine (.str s) := Fine.str (name_sok h)
/-! ### walks over the items with their places -/
theorem enumD_map {α : Type} (f : α → D) : ∀ (n : Nat) (l : List α), enumD n (l.map f) = (l.zipIdx n).map fun z => D.tup [.int (z.2 : Int), f z.1]
  | _, [] => rfl
  | n, a :: l => by
    rw [List.map_cons, List.zipIdx_cons, List.map_cons]
    show D.tup [.int (n : Int), f a] :: enumD (n + 1) (l.map f) = _
    rw [enumD_map f (n + 1) l]
/-- the places of the items for which b holds -/
def ixs {α : Type} (b : α → Bool) : Nat → List α → List Nat
  | _, [] => []
  | n, a :: l => if b a = true then n :: ixs b (n + 1) l else ixs b (n + 1) l
theorem Outs.ixs {α : Type} {f : α → D} {b : α → Bool} (inj : ∀ x y, f x = f y → x = y) : ∀ {l : List α} {n : Nat} {ys : List D}, Outs (fun d o => ∃ (j : Nat) (a : α), d = D.tup [.int (j : Int), f a] ∧ o = if b a = true then some (D.int (j : Int)) else none) (enumD n (l.map f)) ys → ys = (PL.ixs b n l).map fun j : Nat => D.int (j : Int)
  | [], _, _, o => by cases o; rfl
  | a :: l, n, _, o => by
    have key : ∀ {o : Option D}, (∃ (j : Nat) (a' : α), D.tup [.int (n : Int), f a] = D.tup [.int (j : Int), f a'] ∧ o = if b a' = true then some (D.int (j : Int)) else none) → o = if b a = true then some (D.int (n : Int)) else none := fun ⟨j, a', e, e2⟩ => by
      injection e with e
      injection e with e1 e3
      injection e3 with e3 _
      rw [inj _ _ e3]
      injection e1 with e1
      rw [e2, e1]
    cases o with
    | keep r t =>
      have r := key r
      by_cases z : b a = true
      · rw [if_pos z] at r; cases r
        rw [Outs.ixs inj t]
        unfold PL.ixs
        conv => rhs; rw [PL.ixs.eq_def]
        simp [z]
      · rw [if_neg z] at r; cases r
    | skip r t =>
      have r := key r
      by_cases z : b a = true
      · rw [if_pos z] at r; cases r
      · rw [Outs.ixs inj t]
        conv => rhs; rw [PL.ixs.eq_def]
        simp [z]
end PL
namespace PL
open PySem PySem.Spec PyProof.Rows L2 GA GxR DL TM
theorem Ext.fr {x y : M} {p : Addr} (hE : Ext x y) (hp : y.mu p = none) : x.mu p = none := by
  cases e : x.mu p with
  | none => rfl
  | some o => rw [hE.old _ _ e] at hp; cases hp
theorem iR_new {te : DTr} {δ : Sl} {m : M} {j : Int} (h : ∀ R : DK, (∀ m1, Ext m m1 → R (.int j) m1) → te δ m R) (h1 : -(2 ^ 62) ≤ j) (h2 : j < 2 ^ 62) : WkS m (rangeD j.toNat) (iR1 te) δ := fun R hR => h _ fun m1 hE => ⟨j, rfl, h1, h2, hR _ m1 hE fun _ _ => trivial⟩
theorem slT_take {ds : List D} {k : Nat} {m : M} {Q : DK} (q : Q (.tup (ds.take k)) m) : rdSlA (.tup ds) none (some (k : Int)) m Q := by
  show Q (.tup (cutL ds none (some (k : Int)))) m
  rw [cut_take]; exact q
theorem slT_drop {ds : List D} {k : Nat} {m : M} {Q : DK} (q : Q (.tup (ds.drop k)) m) : rdSlA (.tup ds) (some (k : Int)) none m Q := by
  show Q (.tup (cutL ds (some (k : Int)) none)) m
  rw [cut_drop]; exact q
theorem slT_drop1 {ds : List D} {k : Nat} {m : M} {Q : DK} (q : Q (.tup (ds.drop (k + 1))) m) : rdSlA (.tup ds) (some ((k : Int) + 1)) none m Q := slT_drop (k := k + 1) q
theorem adT {xs ys : List D} {m : M} {Q : DK} (h : xs.length + ys.length ≤ 1000) (q : Q (.tup (xs ++ ys)) m) : rdAddA (.tup xs) (.tup ys) m Q := ⟨slk h, q⟩
theorem put_eq {L : List (List D)} {i : Nat} {l l2 : List D} (h : L[i]? = some l) : ((L.map D.tup).take i ++ [D.tup l2]) ++ (L.map D.tup).drop (i + 1) = (L.set i l2).map D.tup := by
  have h2 : (L.map D.tup)[i]? = some (D.tup l) := by rw [List.getElem?_map, h]; rfl
  rw [List.append_assoc, List.map_set]
  exact set_cut h2
end PL

namespace PL
open PySem PySem.Spec PyProof.Rows L2 GA GxR DL TM
/-! ### loops whose steps keep a condition -/
theorem dFor_T {te : DTr} {g : Tg} {tb : DTS} {E : DEnds} {δ : Sl} {m : M} {xs : List D} (hw : ∀ R : DK, R (.tup xs) m → te δ m R) (P : Nat → Sl → M → Prop) (h0 : P 0 δ m)
    (hs : ∀ i d δ m', xs[i]? = some d → P i δ m' → gD g d δ fun δ2 => tb { E with nx := P (i + 1), ct := P (i + 1), bk := E.nx } δ2 m') (hd : ∀ δ m', P xs.length δ m' → E.nx δ m') : dFor (iT te) g tb E δ m :=
  hw _ ⟨xs, .inl rfl, P, h0, fun _ _ _ _ => trivial, hs, hd⟩
theorem dFor_En {te : DTr} {g : Tg} {tb : DTS} {E : DEnds} {δ : Sl} {m : M} {α : Type} {f : α → D} {l : List α} (hw : ∀ R : DK, R (.tup (l.map f)) m → te δ m R) (P : Nat → Sl → M → Prop) (h0 : P 0 δ m)
    (hs : ∀ (i : Nat) (x : α) δ m', l[i]? = some x → P i δ m' → gD g (.tup [.int (i : Int), f x]) δ fun δ2 => tb { E with nx := P (i + 1), ct := P (i + 1), bk := E.nx } δ2 m') (hd : ∀ δ m', P l.length δ m' → E.nx δ m') : dFor (iEn te) g tb E δ m :=
  hw _ ⟨l.map f, .inl rfl, P, h0, fun _ _ _ _ => trivial, fun i d δ2 m' h hP => by
    have hi := (List.getElem?_eq_some_iff.mp h).1
    rw [enumD_len, List.length_map] at hi
    have hx : l[i]? = some l[i] := List.getElem?_eq_getElem hi
    have h2 := enumD_get (n := 0) (i := i) (ds := l.map f) (d := f l[i]) (by rw [List.getElem?_map, hx]; rfl)
    rw [h2] at h; cases h
    rw [Nat.zero_add]
    exact hs i _ δ2 m' hx hP, fun δ m' h => hd δ m' (by rw [enumD_len, List.length_map] at h; exact h)⟩
theorem dFor_R {te : DTr} {g : Tg} {tb : DTS} {E : DEnds} {δ : Sl} {m : M} {n : Nat} (hw : ∀ R : DK, R (.int (n : Int)) m → te δ m R) (hn : n ≤ 1000) (P : Nat → Sl → M → Prop) (h0 : P 0 δ m)
    (hs : ∀ (i : Nat) δ m', i < n → P i δ m' → gD g (.int (i : Int)) δ fun δ2 => tb { E with nx := P (i + 1), ct := P (i + 1), bk := E.nx } δ2 m') (hd : ∀ δ m', P n δ m' → E.nx δ m') : dFor (iR1 te) g tb E δ m :=
  hw _ ⟨(n : Int), rfl, by omega, by omega, P, h0, fun _ _ _ _ => trivial, fun i d δ2 m' h hP => by
    have hi := (List.getElem?_eq_some_iff.mp h).1
    rw [rangeD_len, Int.toNat_natCast] at hi
    rw [Int.toNat_natCast, rangeD_get hi] at h; cases h
    exact hs i δ2 m' hi hP, fun δ m' h => hd δ m' (by rw [rangeD_len, Int.toNat_natCast] at h; exact h)⟩
/-! ### Chosen among -/
theorem Outs.mapFilter {α : Type} {f h : α → D} {b : α → Bool} (inj : ∀ x y, f x = f y → x = y) : ∀ {l : List α} {ys : List D}, Outs (fun d o => ∃ a, d = f a ∧ o = if b a = true then some (h a) else none) (l.map f) ys → ys = (l.filter b).map h
  | [], _, o => by cases o; rfl
  | a :: l, _, o => by
    cases o with
    | keep r t =>
      obtain ⟨c, e, e2⟩ := r
      have := inj _ _ e
      subst this
      by_cases z : b a = true
      · rw [if_pos z] at e2; cases e2
        rw [List.filter_cons_of_pos z, Outs.mapFilter inj t]; rfl
      · rw [if_neg z] at e2; cases e2
    | skip r t =>
      obtain ⟨c, e, e2⟩ := r
      have := inj _ _ e
      subst this
      by_cases z : b a = true
      · rw [if_pos z] at e2; cases e2
      · rw [List.filter_cons_of_neg z, Outs.mapFilter inj t]
/-- [h x for x in xs if ..], xs a tuple of data -/
theorem lcT {te te2 : DTr} {tt : DTT} {g : Tg} {ow : List Nat} {δ : Sl} {m : M} {Q : DK} {α : Type} {f h : α → D} {l : List α} (b : α → Bool) (inj : ∀ x y, f x = f y → x = y) (hw : ∀ R : DK, R (.tup (l.map f)) m → te δ m R) (hl : l.length ≤ 1000)
    (he : ∀ x ∈ l, ∀ m', Ext m m' → ∀ (Ry : D → M → Prop) (Rn : M → Prop), (∀ m4, Ext m' m4 → if b x = true then Ry (h x) m4 else Rn m4) → gD g (f x) (wipeD δ ow) fun δ2 => tt δ2 m' fun c m3 => if c = true then te2 δ2 m3 Ry else Rn m3)
    (hq : ∀ p m', m.mu p = none → Ext m m' → m'.mu p = some (.lst ((l.filter b).map h)) → Q (.ref p) m') : dLC (iT te) g tt te2 ow δ m Q := by
  refine dLC_gen (I := fun _ => True) (Rel := fun d o => ∃ a, d = f a ∧ o = if b a = true then some (h a) else none) trivial (fun _ _ _ _ => trivial) (iT_w (xs := l.map f) hw) (slk (by rw [List.length_map]; exact hl)) (fun d hd m' hE _ Ry Rn hy hn => ?_) (fun p m' ys hp hE _ hm ho => ?_)
  · obtain ⟨x, hx, rfl⟩ := List.mem_map.mp hd
    refine he x hx m' hE Ry Rn fun m4 hE4 => ?_
    by_cases z : b x = true
    · rw [if_pos z]; exact hy _ _ ⟨x, rfl, by rw [if_pos z]⟩ hE4
    · rw [if_neg z]; exact hn _ ⟨x, rfl, by rw [if_neg z]⟩ hE4
  · rw [Outs.mapFilter inj ho] at hm
    exact hq p m' hp hE hm
theorem ixs_lt {α : Type} {b : α → Bool} : ∀ {n : Nat} {l : List α}, ∀ i ∈ ixs b n l, n ≤ i ∧ i < n + l.length
  | _, [], i, h => by cases h
  | n, a :: l, i, h => by
    unfold ixs at h
    rw [List.length_cons]
    by_cases z : b a = true
    · rw [if_pos z] at h
      rcases List.mem_cons.mp h with rfl | h
      · exact ⟨Nat.le_refl _, by omega⟩
      · have := ixs_lt i h; omega
    · rw [if_neg z] at h
      have := ixs_lt i h; omega
theorem ixs_len {α : Type} {b : α → Bool} : ∀ {n : Nat} {l : List α}, (ixs b n l).length ≤ l.length
  | _, [] => Nat.le_refl _
  | n, a :: l => by
    unfold ixs
    have := ixs_len (b := b) (n := n + 1) (l := l)
    by_cases z : b a = true
    · rw [if_pos z, List.length_cons, List.length_cons]; omega
    · rw [if_neg z, List.length_cons]; omega
/-- the first place: what stands ahead of it, and what from a place on -/
theorem ixs_head {α : Type} {b : α → Bool} : ∀ {n : Nat} {l : List α}, match (ixs b n l).head? with
    | none => ∀ x ∈ l, b x = false
    | some i => n ≤ i ∧ ∃ x, l[i - n]? = some x ∧ b x = true ∧ ∀ k, (k ≤ i - n → (l.take k).all (fun y => !b y) = true ∧ (l.drop k).find? b = some x) ∧ (i - n < k → (l.take k).any b = true)
  | _, [] => by intro x hx; cases hx
  | n, a :: l => by
    unfold ixs
    by_cases z : b a = true
    · rw [if_pos z]
      refine ⟨Nat.le_refl _, a, by rw [Nat.sub_self]; rfl, z, fun k => ⟨fun h => ?_, fun h => ?_⟩⟩
      · have : k = 0 := by omega
        subst this
        exact ⟨rfl, by rw [List.drop_zero, List.find?_cons, z]⟩
      · obtain ⟨j, rfl⟩ : ∃ j, k = j + 1 := ⟨k - 1, by omega⟩
        rw [List.take_succ_cons, List.any_cons, z]; rfl
    · rw [if_neg z]
      have zf : b a = false := by simpa using z
      have ih := ixs_head (b := b) (n := n + 1) (l := l)
      cases e : (ixs b (n + 1) l).head? with
      | none =>
        rw [e] at ih
        intro x hx
        rcases List.mem_cons.mp hx with rfl | hx
        · exact zf
        · exact ih x hx
      | some i =>
        rw [e] at ih
        obtain ⟨h1, x, h2, h3, h4⟩ := ih
        have e1 : i - n = (i - (n + 1)) + 1 := by omega
        refine ⟨by omega, x, by rw [e1, List.getElem?_cons_succ]; exact h2, h3, fun k => ⟨fun h => ?_, fun h => ?_⟩⟩
        · cases k with
          | zero =>
            have := (h4 0).1 (Nat.zero_le _)
            exact ⟨rfl, by rw [List.drop_zero, List.find?_cons, zf]; exact this.2⟩
          | succ k =>
            have := (h4 k).1 (by omega)
            rw [List.take_succ_cons, List.all_cons, zf, this.1, List.drop_succ_cons, this.2]; exact ⟨rfl, rfl⟩
        · obtain ⟨j, rfl⟩ : ∃ j, k = j + 1 := ⟨k - 1, by omega⟩
          rw [List.take_succ_cons, List.any_cons, (h4 j).2 (by omega), Bool.or_true]
/-- [at for at, x in enumerate(xs) if ..] -/
theorem lcE {te te2 : DTr} {tt : DTT} {g : Tg} {ow : List Nat} {δ : Sl} {m : M} {Q : DK} {α : Type} {f : α → D} {l : List α} (b : α → Bool) (inj : ∀ x y, f x = f y → x = y) (hw : ∀ R : DK, R (.tup (l.map f)) m → te δ m R) (hl : l.length ≤ 1000)
    (he : ∀ x ∈ l, ∀ (j : Nat) m', Ext m m' → ∀ (Ry : D → M → Prop) (Rn : M → Prop), (∀ m4, Ext m' m4 → if b x = true then Ry (.int (j : Int)) m4 else Rn m4) → gD g (.tup [.int (j : Int), f x]) (wipeD δ ow) fun δ2 => tt δ2 m' fun c m3 => if c = true then te2 δ2 m3 Ry else Rn m3)
    (hq : ∀ p m', m.mu p = none → Ext m m' → m'.mu p = some (.lst ((ixs b 0 l).map fun j : Nat => D.int (j : Int))) → Q (.ref p) m') : dLC (iEn te) g tt te2 ow δ m Q := by
  refine dLC_gen (I := fun _ => True) (xs := enumD 0 (l.map f)) (Rel := fun d o => ∃ (j : Nat) (a : α), d = D.tup [.int (j : Int), f a] ∧ o = if b a = true then some (D.int (j : Int)) else none) trivial (fun _ _ _ _ => trivial) (iEn_w (xs := l.map f) hw) (slk (by rw [enumD_len, List.length_map]; exact hl)) (fun d hd m' hE _ Ry Rn hy hn => ?_) (fun p m' ys hp hE _ hm ho => ?_)
  · rw [enumD_map] at hd
    obtain ⟨⟨x, j⟩, hx, rfl⟩ := List.mem_map.mp hd
    have hx2 : x ∈ l := List.fst_mem_of_mem_zipIdx hx
    refine he x hx2 j m' hE Ry Rn fun m4 hE4 => ?_
    by_cases z : b x = true
    · rw [if_pos z]; exact hy _ _ ⟨j, x, rfl, by rw [if_pos z]⟩ hE4
    · rw [if_neg z]; exact hn _ ⟨j, x, rfl, by rw [if_neg z]⟩ hE4
  · rw [Outs.ixs inj ho] at hm
    exact hq p m' hp hE hm
/-! ### asked of plans with something put in or taken out -/
theorem isOk {Ok : M → Prop} {tx ty : DTr} {E : DEnds} {δ : Sl} {m : M} {p : Pln} {due : Option (Str × Str)} (hx : ∀ R : DK, R p.d m → tx δ m R) (hy : ∀ R : DK, (∀ m1, Ext m m1 → R (optF due) m1) → ty δ m R) (hp : p.Ok) (hO : ∀ m1, Ext m m1 → Ok m1) (hok : okF due) (hf : faultP p = due)
    (q : ∀ m', Ext m m' → E.nx δ m') : dIfS (dNot (dB (dCall (spIs Ok) (dCons tx (dCons ty dNil))))) (dRet (dC (.bl false))) dNext E δ m := by
  dsimp only [dIfS, dNot, dB, dCall, dCons, dNil, dRet, dC, dNext]
  refine hx _ (hy _ fun m1 E1 => ⟨p, due, rfl, ⟨hp, hO m1 E1⟩, hok, hf, fun m2 E2 => ⟨true, rfl, ?_⟩⟩)
  exact ifF rfl (q m2 (E1.trans E2))
/-- (w, xs[0]) if xs != [] else None -/
theorem firstI {δ : Sl} {m : M} {Q : DK} {i : Nat} {a : Addr} {l : List Str} {w : Str} (hv : δ[i]? = some (some (.ref a))) (ha : m.mu a = some (.lst (l.map D.str))) (hl : ∀ s ∈ l, nameS s = true) (q : ∀ m', Ext m m' → Q (optF (tag w l.head?)) m') :
    dIf (dB (dOp (rdEq true) (dVar i) (dLst dNil))) (dTup (dCons (dC (.str w)) (dCons (dOp rdIx (dVar i) (dC (.int 0))) dNil))) (dC .non) δ m Q := by
  dsimp only [dIf, dB, dOp, dLst, dNil, dTup, dCons, dC]
  refine dVar_at hv ⟨slk (by simp), fun p hp => ne_nil ((Ext.new hp).old _ _ ha) M.set_same (fun d hd => ?_) ⟨_, rfl, ?_⟩⟩
  · obtain ⟨s, hs, rfl⟩ := List.mem_map.mp hd
    exact Fine.ofStr (hl s hs)
  · cases l with
    | nil => exact ifF rfl (q _ (Ext.new hp))
    | cons x l =>
      exact ifT rfl (dVar_at hv ⟨_, D.str x, (Ext.new hp).old _ _ ha, by unfold atI ixN; rw [if_pos (by decide), if_pos (by simp only [List.map_cons, List.length_cons]; omega)]; rfl, slk (by simp), q _ (Ext.new hp)⟩)
theorem okF_tag {w : Str} (hw : okW w) {l : List Str} (hl : ∀ s ∈ l, nameS s = true) : okF (tag w l.head?) := by
  cases l with
  | nil => exact okF_none
  | cons x l => exact okF_some hw (hl x List.mem_cons_self)
theorem find_head {α : Type} {b : α → Bool} : ∀ {l : List α}, l.find? b = (l.filter b).head?
  | [] => rfl
  | a :: l => by
    by_cases z : b a = true
    · rw [List.find?_cons, z, List.filter_cons_of_pos z]; rfl
    · rw [List.find?_cons, List.filter_cons_of_neg z, show b a = false by simpa using z]; exact find_head
theorem cutj_head (p : Pln) (j : End × End) : (p.gs2.find? fun g => decide (g.2 = j.1 ∨ g.2 = j.2)).map (·.1) = ((p.si.filter fun s => decide (s.2.1 = j.1 ∨ s.2.1 = j.2)).map (·.1)).head? := by
  unfold Pln.gs2
  rw [List.find?_map, find_head, List.head?_map, Option.map_map]; rfl
theorem inTwo {s a b : Str} {m : M} {Q : DK} (q : Q (.bl (decide (s = a ∨ s = b))) m) : rdIn false (.str s) (.tup [.str a, .str b]) m Q := by
  refine ⟨_, .inl rfl, rfl, rfl, ?_⟩
  have e : ∀ x : Str, (x == s) = decide (s = x) := fun x => by
    by_cases z : s = x
    · subst z; simp
    · have : ¬ x = s := fun y => z y.symm
      simp [z, this]
  have : ([D.str a, D.str b].any fun d => eqFl d (.str s)) = decide (s = a ∨ s = b) := by
    simp only [List.any_cons, List.any_nil, Bool.or_false, eqFl_str]
    rw [e, e]; simp
  show Q (.bl ([D.str a, D.str b].any fun d => eqFl d (.str s))) m
  rw [this]; exact q
/-! ### the four parts -/
theorem Pln.Ok.sub {p : Pln} (h : p.Ok) {a : List (Str × Str)} {b : List (End × End)} {c : List (Str × End)} {d : List (Str × End × Option Step)} (h1 : a.Sublist p.st) (h2 : b.Sublist p.jo) (h3 : c.Sublist p.ga) (h4 : d.Sublist p.si) : Pln.Ok ⟨a, b, c, d⟩ :=
  ⟨fun s x => h.st s (h1.subset x), fun s x => h.jo s (h2.subset x), fun s x => h.ga s (h3.subset x), fun s x => h.si s (h4.subset x), Nat.le_trans h1.length_le h.n1, Nat.le_trans h2.length_le h.n2, Nat.le_trans h3.length_le h.n3, Nat.le_trans h4.length_le h.n4⟩
def Pln.L (p : Pln) : List (List D) := [p.st.map strD, p.jo.map joD, p.ga.map gaD, p.si.map siD]
theorem L_ok {p : Pln} (h : p.Ok) : ∀ l ∈ p.L, l.length ≤ 100 := fun l hl => by
  have b1 := h.n1; have b2 := h.n2; have b3 := h.n3; have b4 := h.n4
  unfold Pln.L at hl
  simp only [List.mem_cons, List.not_mem_nil, or_false] at hl
  rcases hl with rfl | rfl | rfl | rfl <;> rw [List.length_map] <;> omega
theorem erase_mapG {α : Type} (f : α → D) : ∀ {l : List α} {k : Nat}, (l.map f).eraseIdx k = (l.eraseIdx k).map f
  | [], _ => rfl
  | _ :: _, 0 => rfl
  | a :: l, k + 1 => by rw [List.map_cons, List.eraseIdx_cons_succ, List.eraseIdx_cons_succ, List.map_cons, erase_mapG f]
theorem wo0 {p : Pln} (h : p.Ok) {k : Nat} {m : M} {Q : DK} (q : Q (Pln.d ⟨p.st.eraseIdx k, p.jo, p.ga, p.si⟩) m) : spWo [p.d, .int 0, .int (k : Int)] m Q := ⟨p.L, 0, k, rfl, rfl, L_ok h, _, rfl, by rw [erase_mapG]; exact q⟩
theorem wo1 {p : Pln} (h : p.Ok) {k : Nat} {m : M} {Q : DK} (q : Q (Pln.d ⟨p.st, p.jo.eraseIdx k, p.ga, p.si⟩) m) : spWo [p.d, .int 1, .int (k : Int)] m Q := ⟨p.L, 1, k, rfl, rfl, L_ok h, _, rfl, by rw [erase_mapG]; exact q⟩
theorem wo2 {p : Pln} (h : p.Ok) {k : Nat} {m : M} {Q : DK} (q : Q (Pln.d ⟨p.st, p.jo, p.ga.eraseIdx k, p.si⟩) m) : spWo [p.d, .int 2, .int (k : Int)] m Q := ⟨p.L, 2, k, rfl, rfl, L_ok h, _, rfl, by rw [erase_mapG]; exact q⟩
theorem wo3 {p : Pln} (h : p.Ok) {k : Nat} {m : M} {Q : DK} (q : Q (Pln.d ⟨p.st, p.jo, p.ga, p.si.eraseIdx k⟩) m) : spWo [p.d, .int 3, .int (k : Int)] m Q := ⟨p.L, 3, k, rfl, rfl, L_ok h, _, rfl, by rw [erase_mapG]; exact q⟩
theorem put0 {p : Pln} (h : p.Ok) {k : Nat} {x : Str × Str} {m : M} {Q : DK} (q : Q (Pln.d ⟨insA p.st k x, p.jo, p.ga, p.si⟩) m) : spPut [p.d, .int 0, .int (k : Int), strD x] m Q := ⟨p.L, 0, k, strD x, rfl, rfl, L_ok h, _, rfl, by rw [← insA_map]; exact q⟩
theorem put1 {p : Pln} (h : p.Ok) {k : Nat} {x : End × End} {m : M} {Q : DK} (q : Q (Pln.d ⟨p.st, insA p.jo k x, p.ga, p.si⟩) m) : spPut [p.d, .int 1, .int (k : Int), joD x] m Q := ⟨p.L, 1, k, joD x, rfl, rfl, L_ok h, _, rfl, by rw [← insA_map]; exact q⟩
theorem put2 {p : Pln} (h : p.Ok) {k : Nat} {x : Str × End} {m : M} {Q : DK} (q : Q (Pln.d ⟨p.st, p.jo, insA p.ga k x, p.si⟩) m) : spPut [p.d, .int 2, .int (k : Int), gaD x] m Q := ⟨p.L, 2, k, gaD x, rfl, rfl, L_ok h, _, rfl, by rw [← insA_map]; exact q⟩
theorem put3 {p : Pln} (h : p.Ok) {k : Nat} {x : Str × End × Option Step} {m : M} {Q : DK} (q : Q (Pln.d ⟨p.st, p.jo, p.ga, insA p.si k x⟩) m) : spPut [p.d, .int 3, .int (k : Int), siD x] m Q := ⟨p.L, 3, k, siD x, rfl, rfl, L_ok h, _, rfl, by rw [← insA_map]; exact q⟩
theorem Pln.Ok.put0 {p : Pln} (h : p.Ok) {k : Nat} {x : Str × Str} (hx : strOk' x) (hl : p.st.length < 12) : Pln.Ok ⟨insA p.st k x, p.jo, p.ga, p.si⟩ :=
  { h with st := fun s hs => (insA_mem.mp hs).elim (fun z => z ▸ hx) (h.st s), n1 := by rw [insA_len]; exact hl }
theorem Pln.Ok.put1 {p : Pln} (h : p.Ok) {k : Nat} {x : End × End} (hx : joOk x) (hl : p.jo.length < 16) : Pln.Ok ⟨p.st, insA p.jo k x, p.ga, p.si⟩ :=
  { h with jo := fun s hs => (insA_mem.mp hs).elim (fun z => z ▸ hx) (h.jo s), n2 := by rw [insA_len]; exact hl }
theorem Pln.Ok.put2 {p : Pln} (h : p.Ok) {k : Nat} {x : Str × End} (hx : gaOk x) (hl : p.ga.length < 4) : Pln.Ok ⟨p.st, p.jo, insA p.ga k x, p.si⟩ :=
  { h with ga := fun s hs => (insA_mem.mp hs).elim (fun z => z ▸ hx) (h.ga s), n3 := by rw [insA_len]; exact hl }
theorem Pln.Ok.put3 {p : Pln} (h : p.Ok) {k : Nat} {x : Str × End × Option Step} (hx : siOk x) (hl : p.si.length < 10) : Pln.Ok ⟨p.st, p.jo, p.ga, insA p.si k x⟩ :=
  { h with si := fun s hs => (insA_mem.mp hs).elim (fun z => z ▸ hx) (h.si s), n4 := by rw [insA_len]; exact hl }
end PL
namespace PL
open PySem PySem.Spec PyProof.Rows L2 GA GxR DL TM
def spNames (Ok : M → Prop) : DSp := fun ds m Q => ∃ (d : D) (p : Pln) (n : Str), ds = [d, p.d, .str n] ∧ Dk m d ∧ p.Ok ∧ Chk p ∧ Ok m ∧ nameS n = true ∧ n ∉ p.nms ∧ p.st.length ≤ 8 ∧ p.ga.length ≤ 3 ∧ p.si.length ≤ 9 ∧ ∀ m', Ext m m' → Q (.bl true) m'
def spJns (Ok : M → Prop) : DSp := fun ds m Q => ∃ (d : D) (p : Pln), ds = [d, p.d] ∧ Dk m d ∧ p.Ok ∧ Chk p ∧ Ok m ∧ ∀ m', Ext m m' → Q (.bl true) m'
def spPuts (Ok : M → Prop) : DSp := fun ds m Q => ∃ (d : D) (p : Pln) (n : Str), ds = [d, p.d, .str n] ∧ Dk m d ∧ p.Ok ∧ Chk p ∧ Ok m ∧ nameS n = true ∧ n ∉ p.nms ∧ p.ga.length ≤ 3 ∧ p.si.length ≤ 9 ∧ ∀ m', Ext m m' → Q (.bl true) m'
def spSig (Ok : M → Prop) : DSp := fun ds m Q => ∃ (d : D) (p : Pln) (n : Str) (e : End), ds = [d, p.d, .str n, endD e, .bl (plainAt p.st e), optE (partAt p.jo e)] ∧ Dk m d ∧ p.Ok ∧ Chk p ∧ Ok m ∧ nameS n = true ∧ n ∉ p.nms ∧ p.si.length ≤ 9 ∧ e ∈ stEnds p.st ∧ ∀ m', Ext m m' → Q (.bl true) m'
theorem nmD_inj {a b : Str × List D} (h : nmD a = nmD b) : a = b := by
  obtain ⟨a1, a2⟩ := a; obtain ⟨b1, b2⟩ := b
  unfold nmD at h
  injection h with h
  injection h with h1 h2
  injection h1 with h1
  exact Prod.ext h1 h2
end PL
namespace PL
open PySem PySem.Spec PyProof.Rows L2 GA GxR DL TM
theorem seqI {a b : DTS} {E : DEnds} {δ : Sl} {m : M} (h : a { E with nx := fun δ' m' => b E δ' m' } δ m) : dSeq a b E δ m := h
theorem pickL {ds : List D} {d : D} {m : M} {Q : DK} {p : Addr} (hd : Dk m d) (h0 : ds ≠ []) (hl : ds.length ≤ 100) (q : ∀ y ∈ ds, Q y (m.set p (.lst ds))) : spPick [d, .ref p] (m.set p (.lst ds)) Q :=
  ⟨d, .ref p, ds, rfl, hd.ext rfl, .inr (.inr ⟨p, rfl, M.set_same⟩), h0, by omega, q⟩
def sgI (p : Pln) : List (Str × List D) := p.st.map (fun s => (s.1, [D.str s.2])) ++ p.ga.map (fun g => (g.1, [endD g.2]))
theorem sgI_d (p : Pln) : (sgI p).map nmD = p.st.map strD ++ p.ga.map gaD := by unfold sgI; rw [List.map_append, List.map_map, List.map_map]; rfl
theorem sgI_1 (p : Pln) : (sgI p).map (·.1) = p.st.map (·.1) ++ p.ga.map (·.1) := by unfold sgI; rw [List.map_append, List.map_map, List.map_map]; rfl
theorem fT {α : Type} (l : List α) : (l.filter fun _ => true) = l := List.filter_eq_self.mpr fun _ _ => rfl
theorem nms_ok {p : Pln} (h : p.Ok) : ∀ n ∈ p.nms, nameS n = true := fun n hn => by
  unfold Pln.nms at hn
  rcases List.mem_append.mp hn with hn | hn
  · rcases List.mem_append.mp hn with hn | hn
    · obtain ⟨s, hs, rfl⟩ := List.mem_map.mp hn; exact (h.st s hs).1
    · obtain ⟨s, hs, rfl⟩ := List.mem_map.mp hn; exact (h.ga s hs).1
  · obtain ⟨s, hs, rfl⟩ := List.mem_map.mp hn; exact (h.si s hs).1
theorem nms_len {p : Pln} (h : p.Ok) : p.nms.length ≤ 100 := by
  have b1 := h.n1; have b3 := h.n3; have b4 := h.n4
  unfold Pln.nms
  rw [List.length_append, List.length_append, List.length_map, List.length_map, List.length_map]; omega
theorem fine_names {l : List Str} (h : ∀ s ∈ l, nameS s = true) : ∀ d ∈ l.map D.str, Fine d := fun d hd => by
  obtain ⟨s, hs, rfl⟩ := List.mem_map.mp hd
  exact Fine.ofStr (h s hs)
theorem fine_nats (l : List Nat) : ∀ d ∈ l.map (fun j : Nat => D.int (j : Int)), Fine d := fun d hd => by
  obtain ⟨s, hs, rfl⟩ := List.mem_map.mp hd
  exact Fine.int _
theorem nil_of {α : Type} {f : α → D} {l : List α} (h : (!(l.map f).isEmpty) = false) : l = [] := by cases l with
  | nil => rfl
  | cons _ _ => cases h
theorem ne_of' {α : Type} {f : α → D} {l : List α} (h : (!(l.map f).isEmpty) = true) : l ≠ [] := fun z => by subst z; cases h
/-- what is due to a name put in -/
def dueN (p : Pln) (pt : Int) (o : Str) : Option (Str × Str) := if p.nms ≠ [] then some (("name" : Str), o) else if pt = 0 then none else some (("end" : Str), o)
theorem dueN_st {p : Pln} (hc : Chk p) {o kd : Str} {k : Nat} (h1 : p.nms ≠ [] → o ∈ p.nms) : faultP ⟨insA p.st k (o, kd), p.jo, p.ga, p.si⟩ = dueN p 0 o := by
  unfold dueN
  by_cases z : p.nms ≠ []
  · rw [if_pos z]; exact f_name (hc.oldN (h1 z) (nms_perm0 p k (o, kd)))
  · rw [if_neg z, if_pos rfl]
    exact chk_iff.mpr (hc.inst (by rw [show p.nms = [] from Classical.byContradiction z]; simp) kd k)
theorem dueN_ga {p : Pln} (hc : Chk p) {o n : Str} {k : Nat} (h1 : p.nms ≠ [] → o ∈ p.nms) : faultP ⟨p.st, p.jo, insA p.ga k (o, (n, 0)), p.si⟩ = dueN p 2 o := by
  unfold dueN
  by_cases z : p.nms ≠ []
  · rw [if_pos z]; exact f_name (hc.oldN (h1 z) (nms_perm2 p k (o, (n, 0))))
  · rw [if_neg z, if_neg (by decide)]
    have z : p.nms = [] := Classical.byContradiction z
    have e := hc.empty z
    subst e
    refine f_end (hc.newN (n := o) (by rw [z]; simp) (nms_perm2 _ k (o, (n, 0)))) ?_
    unfold insA missEnd Pln.gs endEx kindAt
    simp
theorem dueN_si {p : Pln} (hc : Chk p) {o n : Str} {k : Nat} (h1 : p.nms ≠ [] → o ∈ p.nms) : faultP ⟨p.st, p.jo, p.ga, insA p.si k (o, (n, 0), none)⟩ = dueN p 3 o := by
  unfold dueN
  by_cases z : p.nms ≠ []
  · rw [if_pos z]; exact f_name (hc.oldN (h1 z) (nms_perm3 p k (o, (n, 0), none)))
  · rw [if_neg z, if_neg (by decide)]
    have z : p.nms = [] := Classical.byContradiction z
    have e := hc.empty z
    subst e
    refine f_end (hc.newN (n := o) (by rw [z]; simp) (nms_perm3 _ k (o, (n, 0), none))) ?_
    unfold insA missEnd Pln.gs endEx kindAt
    simp
theorem dueN_ok {p : Pln} {pt : Int} {o : Str} (ho : nameS o = true) : okF (dueN p pt o) := by
  unfold dueN
  by_cases z : p.nms ≠ []
  · rw [if_pos z]; exact okF_some okW_words.1 ho
  · rw [if_neg z]
    by_cases z2 : pt = 0
    · rw [if_pos z2]; exact okF_none
    · rw [if_neg z2]; exact okF_some okW_words.2.1 ho
end PL
namespace PL
open PySem PySem.Spec PyProof.Rows L2 GA GxR DL TM
theorem num0 : numOk 0 := ⟨by decide, by decide⟩
theorem end0 {n : Str} (h : nameS n = true) : endOk (n, 0) := ⟨h, num0⟩
theorem used_e (p : Pln) : (sgI p).map (fun z => D.str z.1) ++ p.si.map (fun s => D.str s.1) = p.nms.map D.str := by
  have e1 : (sgI p).map (fun z => D.str z.1) = ((sgI p).map (·.1)).map D.str := by rw [List.map_map]; rfl
  have e2 : p.si.map (fun s => D.str s.1) = (p.si.map (·.1)).map D.str := by rw [List.map_map]; rfl
  rw [e1, e2, sgI_1, ← List.map_append]; rfl
end PL
namespace PL
open PySem PySem.Spec PyProof.Rows L2 GA GxR DL TM
theorem dFor_RE {te : DTr} {g : Tg} {tb : DTS} {E : DEnds} {δ : Sl} {m : M} {n : Nat} (hw : ∀ R : DK, (∀ m1, Ext m m1 → R (.int (n : Int)) m1) → te δ m R) (hn : n ≤ 1000) (P : Nat → Sl → M → Prop) (h0 : ∀ m1, Ext m m1 → P 0 δ m1)
    (hs : ∀ (i : Nat) δ m', i < n → P i δ m' → gD g (.int (i : Int)) δ fun δ2 => tb { E with nx := P (i + 1), ct := P (i + 1), bk := E.nx } δ2 m') (hd : ∀ δ m', P n δ m' → E.nx δ m') : dFor (iR1 te) g tb E δ m :=
  hw _ fun m1 hE => ⟨(n : Int), rfl, by omega, by omega, P, h0 m1 hE, fun _ _ _ _ => trivial, fun i d δ2 m' h hP => by
    have hi := (List.getElem?_eq_some_iff.mp h).1
    rw [rangeD_len, Int.toNat_natCast] at hi
    rw [Int.toNat_natCast, rangeD_get hi] at h; cases h
    exact hs i δ2 m' hi hP, fun δ m' h => hd δ m' (by rw [rangeD_len, Int.toNat_natCast] at h; exact h)⟩
def shB (a b : End) (j : End × End) : Bool := decide (a = j.1 ∨ a = j.2) || decide (b = j.1 ∨ b = j.2)
theorem shB_iff {a b : End} {j : End × End} : shB a b j = true ↔ (j.1 = a ∨ j.2 = a ∨ j.1 = b ∨ j.2 = b) := by
  unfold shB
  rw [Bool.or_eq_true, decide_eq_true_eq, decide_eq_true_eq]
  constructor
  · rintro ((h | h) | (h | h)) <;> simp [h]
  · rintro (h | h | h | h) <;> simp [h]
theorem shB_eq (a b : End) : (fun j : End × End => decide (j.1 = a ∨ j.2 = a ∨ j.1 = b ∨ j.2 = b)) = shB a b := by
  funext j
  rw [Bool.eq_iff_iff, shB_iff, decide_eq_true_eq]
theorem sh_none {a b : End} {l : List (End × End)} (h : ∀ j ∈ l, shB a b j = false) : a ∉ jends l ∧ b ∉ jends l := by
  constructor <;> intro z <;> obtain ⟨j, hj, w⟩ := mem_jends.mp z <;> have := h j hj <;> rw [Bool.eq_false_iff] at this <;> refine this (shB_iff.mpr ?_) <;> rcases w with w | w <;> simp [w]
theorem sh_any {a b : End} {l : List (End × End)} (h : l.any (shB a b) = true) : a ∈ jends l ∨ b ∈ jends l := by
  obtain ⟨j, hj, w⟩ := List.any_eq_true.mp h
  rcases shB_iff.mp w with w | w | w | w
  · exact .inl (mem_jends.mpr ⟨j, hj, .inl w.symm⟩)
  · exact .inl (mem_jends.mpr ⟨j, hj, .inr w.symm⟩)
  · exact .inr (mem_jends.mpr ⟨j, hj, .inl w.symm⟩)
  · exact .inr (mem_jends.mpr ⟨j, hj, .inr w.symm⟩)
theorem joinF1 {p : Pln} {k : Nat} {a b : End} (h : a.1 = b.1) : joinFault p k a b = some (("joint" : Str), a.1) := by unfold joinFault; rw [if_pos (.inl h)]
theorem joinF2 {p : Pln} {k i : Nat} {a b : End} {r : List Nat} (h : ixs (shB a b) 0 p.jo = i :: r) (hi : i < k) : joinFault p k a b = some (("joint" : Str), a.1) := by
  have z := ixs_head (b := shB a b) (n := 0) (l := p.jo)
  rw [h] at z
  obtain ⟨_, x, _, _, h4⟩ := z
  unfold joinFault
  rw [if_pos]
  exact .inr (sh_any ((h4 k).2 (by omega)))
theorem joinF3 {p : Pln} {k i : Nat} {a b : End} {r : List Nat} (h0 : a.1 ≠ b.1) (h : ixs (shB a b) 0 p.jo = i :: r) (hi : ¬ i < k) : ∃ j, p.jo[i]? = some j ∧ joinFault p k a b = some (("joint" : Str), j.1.1) := by
  have z := ixs_head (b := shB a b) (n := 0) (l := p.jo)
  rw [h] at z
  obtain ⟨_, x, h2, _, h4⟩ := z
  obtain ⟨h5, h6⟩ := (h4 k).1 (by omega)
  refine ⟨x, h2, ?_⟩
  unfold joinFault
  rw [if_neg]
  · rw [shB_eq, h6]
  · have h7 := sh_none (a := a) (b := b) (l := p.jo.take k) fun j hj => by
      have := List.all_eq_true.mp h5 j hj
      simpa using this
    rintro (z | z | z)
    · exact h0 z
    · exact h7.1 z
    · exact h7.2 z
theorem joinF4 {p : Pln} {k : Nat} {a b : End} (h0 : a.1 ≠ b.1) (h : ixs (shB a b) 0 p.jo = []) : joinFault p k a b = tag "gate" ((p.ga.filter fun g => decide (g.2 = a ∨ g.2 = b)).map (·.1)).head? := by
  have z := ixs_head (b := shB a b) (n := 0) (l := p.jo)
  rw [h] at z
  have z : ∀ j ∈ p.jo, shB a b j = false := z
  unfold joinFault
  rw [if_neg, shB_eq, List.find?_eq_none.mpr, List.head?_map, ← find_head]
  · intro j hj; rw [z j (List.mem_of_mem_drop hj)]; decide
  · have h7 := sh_none (a := a) (b := b) (l := p.jo.take k) fun j hj => z j (List.mem_of_mem_take hj)
    rintro (y | y | y)
    · exact h0 y
    · exact h7.1 y
    · exact h7.2 y
theorem ix_nat {l : List Nat} {i : Nat} {r : List Nat} {a : Addr} {m : M} {Q : DK} (h : m.mu a = some (.lst (l.map fun j : Nat => D.int (j : Int)))) (hl : l = i :: r) (q : Q (.int (i : Int)) m) : rdIx (.ref a) (.int 0) m Q := ⟨_, .int (i : Int), h, by
  subst hl
  unfold atI ixN; rw [if_pos (by decide), if_pos (by simp only [List.map_cons, List.length_cons]; omega)]; rfl, q⟩
theorem ix_map {α : Type} {f : α → D} {l : List α} {i : Nat} {x : α} {m : M} {Q : DK} (h : l[i]? = some x) (q : Q (f x) m) : rdIx (.tup (l.map f)) (.int (i : Int)) m Q := ⟨f x, by
  have hi := (List.getElem?_eq_some_iff.mp h).1
  unfold atI ixN
  rw [if_pos (by omega), if_pos (by rw [List.length_map]; omega)]
  show (l.map f)[(i : Int).toNat]? = _
  rw [Int.toNat_natCast, List.getElem?_map, h]; rfl, q⟩
theorem stEnds_ok {p : Pln} (h : p.Ok) {e : End} (he : e ∈ stEnds p.st) : endOk e := by
  obtain ⟨s, hs, h1, h2, h3⟩ := mem_stEnds.mp he
  obtain ⟨n, hn, _, _, h4, _⟩ := many_val2 (h.st s hs).2
  exact ⟨by rw [h1]; exact (h.st s hs).1, by unfold numOk; omega⟩
theorem stEnds_le {p : Pln} (h : p.Ok) : (stEnds p.st).length ≤ 48 := by
  have := stEnds_len fun s hs => (h.st s hs).2
  have b1 := h.n1
  omega
theorem fine_ends {l : List End} (h : ∀ e ∈ l, endOk e) : ∀ d ∈ l.map endD, Fine d := fun d hd => by
  obtain ⟨e, he, rfl⟩ := List.mem_map.mp hd
  exact end_fine (h e he)
end PL
namespace PL
open PySem PySem.Spec PyProof.Rows L2 GA GxR DL TM
theorem isRet {Ok : M → Prop} {tx ty : DTr} {E : DEnds} {δ : Sl} {m : M} {p : Pln} {due : Option (Str × Str)} (hx : ∀ R : DK, R p.d m → tx δ m R) (hy : ∀ R : DK, (∀ m1, Ext m m1 → R (optF due) m1) → ty δ m R) (hp : p.Ok) (hO : ∀ m1, Ext m m1 → Ok m1) (hok : okF due) (hf : faultP p = due)
    (q : ∀ m', Ext m m' → E.rt (.bl true) m') : dRet (dCall (spIs Ok) (dCons tx (dCons ty dNil))) E δ m := by
  dsimp only [dRet, dCall, dCons, dNil]
  exact hx _ (hy _ fun m1 E1 => ⟨p, due, rfl, ⟨hp, hO m1 E1⟩, hok, hf, fun m2 E2 => q m2 (E1.trans E2)⟩)
theorem eqE {a b : End} {m : M} {Q : DK} (ha : endOk a) (hb : endOk b) (q : Q (.bl (decide (a = b))) m) : rdEq false (endD a) (endD b) m Q := eqG (end_fine ha) (end_fine hb) (by rw [eqv_end]; exact q)
theorem isN_E {o : Option End} {m : M} {Q : DK} (q : Q (.bl o.isNone) m) : rdIsN false (optE o) .non m Q := by cases o <;> exact q
theorem notN_E {o : Option End} {m : M} {Q : DK} (q : Q (.bl (!o.isNone)) m) : rdIsN true (optE o) .non m Q := by cases o <;> exact q
theorem isN_F {o : Option (Str × Str)} {m : M} {Q : DK} (q : Q (.bl o.isNone) m) : rdIsN false (optF o) .non m Q := by cases o <;> exact q
/-! ### the fault of a signal more -/
theorem gs2_take {p : Pln} {k : Nat} {e : End} : e ∈ (p.gs2.take k).map (·.2) ↔ (p.si.take k).any (fun s => decide (s.2.1 = e)) = true := by
  unfold Pln.gs2
  rw [← List.map_take, List.map_map, List.any_eq_true, List.mem_map]
  exact ⟨fun ⟨s, h1, h2⟩ => ⟨s, h1, decide_eq_true h2⟩, fun ⟨s, h1, h2⟩ => ⟨s, h1, of_decide_eq_true h2⟩⟩
theorem gs2_drop {p : Pln} {k : Nat} {e : End} : ((p.gs2.drop k).find? fun g => decide (g.2 = e)) = ((p.si.drop k).find? fun s => decide (s.2.1 = e)).map fun s => (s.1, s.2.1) := by
  unfold Pln.gs2
  rw [← List.map_drop, List.find?_map]; rfl
theorem all_not {α : Type} {b : α → Bool} {l : List α} (h : l.all (fun y => !b y) = true) : ¬ l.any b = true := fun z => by
  obtain ⟨x, hx, hb⟩ := List.any_eq_true.mp z
  have := List.all_eq_true.mp h x hx
  rw [hb] at this; cases this
def nearS (p : Pln) (e : End) : List Nat := ixs (fun s : Str × End × Option Step => decide (s.2.1 = e)) 0 p.si
theorem sigF1 {p : Pln} {k : Nat} {n : Str} {e : End} {o : Option Step} (h : plainAt p.st e = false ∨ partAt p.jo e = none) : signalFault p k n e o = some (("signal" : Str), n) := by
  unfold signalFault
  rw [if_pos]
  rcases h with h | h
  · exact .inr (.inr (of_decide_eq_false h))
  · exact .inl (part_none.mp (by rw [h]; rfl))
theorem sigF2 {p : Pln} {k i : Nat} {n : Str} {e : End} {o : Option Step} {r : List Nat} (h : nearS p e = i :: r) (hi : i < k) : signalFault p k n e o = some (("signal" : Str), n) := by
  have z := ixs_head (b := fun s : Str × End × Option Step => decide (s.2.1 = e)) (n := 0) (l := p.si)
  rw [show ixs (fun s : Str × End × Option Step => decide (s.2.1 = e)) 0 p.si = i :: r from h] at z
  obtain ⟨_, x, _, _, h4⟩ := z
  unfold signalFault
  rw [if_pos]
  exact .inr (.inl (gs2_take.mpr ((h4 k).2 (by omega))))
theorem sigF3 {p : Pln} {k i : Nat} {n : Str} {e f : End} {r : List Nat} (h0 : plainAt p.st e = true) (h1 : partAt p.jo e = some f) (h : nearS p e = i :: r) (hi : ¬ i < k) : ∃ s, p.si[i]? = some s ∧ ∀ o, signalFault p k n e o = some (("signal" : Str), s.1) := by
  have z := ixs_head (b := fun s : Str × End × Option Step => decide (s.2.1 = e)) (n := 0) (l := p.si)
  rw [show ixs (fun s : Str × End × Option Step => decide (s.2.1 = e)) 0 p.si = i :: r from h] at z
  obtain ⟨_, x, h2, _, h4⟩ := z
  obtain ⟨h5, h6⟩ := (h4 k).1 (by omega)
  refine ⟨x, h2, fun o => ?_⟩
  unfold signalFault
  rw [if_neg, gs2_drop, h6]; rfl
  rintro (y | y | y)
  · exact y (part_some.mp (by rw [h1]; rfl))
  · exact all_not h5 (gs2_take.mp y)
  · exact y (of_decide_eq_true h0)
theorem sigF4 {p : Pln} {k : Nat} {n : Str} {e f : End} (h0 : plainAt p.st e = true) (h1 : partAt p.jo e = some f) (h : nearS p e = []) (o : Option Step) : signalFault p k n e o = if badOv p (n, e, o) = true then some (("overlap" : Str), n) else none := by
  have z := ixs_head (b := fun s : Str × End × Option Step => decide (s.2.1 = e)) (n := 0) (l := p.si)
  rw [show ixs (fun s : Str × End × Option Step => decide (s.2.1 = e)) 0 p.si = [] from h] at z
  have z : ∀ s ∈ p.si, decide (s.2.1 = e) = false := z
  unfold signalFault
  rw [if_neg, gs2_drop, List.find?_eq_none.mpr]; rfl
  · intro s hs; rw [z s (List.mem_of_mem_drop hs)]; decide
  · rintro (y | y | y)
    · exact y (part_some.mp (by rw [h1]; rfl))
    · obtain ⟨s, hs, hb⟩ := List.any_eq_true.mp (gs2_take.mp y)
      rw [z s (List.mem_of_mem_take hs)] at hb; cases hb
    · exact y (of_decide_eq_true h0)
/-! ### the ways, as the law writes them -/
def waysS (k : Str) : List (Int × Int) := if k = "plain" then [(0, 1), (1, 0)] else if k = "points" then [] else [(0, 1), (1, 0), (2, 3), (3, 2)]
def wayD2 (w : Int × Int) : D := .tup [.int w.1, .int w.2]
def waysKV (a b c : Addr) : List (Key × D) := [(.inr "plain", .ref a), (.inr "points", .ref b), (.inr "crossing", .ref c)]
theorem dDisp_ways {δ : Sl} {m : M} {Q : DK} (h : ∀ p a b c m', Ext m m' → m'.mu p = some (.dic (waysKV a b c)) → m'.mu a = some (.lst ((waysS "plain").map wayD2)) → m'.mu b = some (.lst ((waysS "points").map wayD2)) → m'.mu c = some (.lst ((waysS "crossing").map wayD2)) → Q (.ref p) m') :
    dDisp [("plain", dLst (dCons (dTup (dCons (dC (.int 0)) (dCons (dC (.int 1)) dNil))) (dCons (dTup (dCons (dC (.int 1)) (dCons (dC (.int 0)) dNil))) dNil))), ("points", dLst dNil),
      ("crossing", dLst (dCons (dTup (dCons (dC (.int 0)) (dCons (dC (.int 1)) dNil))) (dCons (dTup (dCons (dC (.int 1)) (dCons (dC (.int 0)) dNil))) (dCons (dTup (dCons (dC (.int 2)) (dCons (dC (.int 3)) dNil))) (dCons (dTup (dCons (dC (.int 3)) (dCons (dC (.int 2)) dNil))) dNil)))))] δ m Q := fun p hp => by
  dsimp only [dPairs, dLst, dCons, dTup, dC, dNil]
  refine ⟨slk (by simp), slk (by simp), slk (by simp), fun a ha => ⟨slk (by simp), fun b hb => ⟨slk (by simp), slk (by simp), slk (by simp), slk (by simp), slk (by simp), fun c hc => ?_⟩⟩⟩
  have e1 := (Ext.new (o := .dic []) hp)
  have h1 : (m.set p (.dic [])).mu p = _ := M.set_same
  generalize m.set p (.dic []) = m1 at *
  have e2 := e1.trans (Ext.new (o := .lst ((waysS "plain").map wayD2)) ha)
  have h2 := (Ext.new (o := .lst ((waysS "plain").map wayD2)) ha).old _ _ h1
  have k2 : (m1.set a (.lst ((waysS "plain").map wayD2))).mu a = _ := M.set_same
  have q2 : m1.set a (.lst [.tup [.int 0, .int 1], .tup [.int 1, .int 0]]) = m1.set a (.lst ((waysS "plain").map wayD2)) := rfl
  rw [q2] at hb hc ⊢
  generalize m1.set a (.lst ((waysS "plain").map wayD2)) = m2 at *
  have e3 := e2.trans (Ext.new (o := .lst ((waysS "points").map wayD2)) hb)
  have h3 := (Ext.new (o := .lst ((waysS "points").map wayD2)) hb).old _ _ h2
  have k3 := (Ext.new (o := .lst ((waysS "points").map wayD2)) hb).old _ _ k2
  have j3 : (m2.set b (.lst ((waysS "points").map wayD2))).mu b = _ := M.set_same
  have q3 : m2.set b (.lst []) = m2.set b (.lst ((waysS "points").map wayD2)) := rfl
  rw [q3] at hc ⊢
  generalize m2.set b (.lst ((waysS "points").map wayD2)) = m3 at *
  have e4 := e3.trans (Ext.new (o := .lst ((waysS "crossing").map wayD2)) hc)
  have h4 := (Ext.new (o := .lst ((waysS "crossing").map wayD2)) hc).old _ _ h3
  have k4 := (Ext.new (o := .lst ((waysS "crossing").map wayD2)) hc).old _ _ k3
  have j4 := (Ext.new (o := .lst ((waysS "crossing").map wayD2)) hc).old _ _ j3
  have i4 : (m3.set c (.lst ((waysS "crossing").map wayD2))).mu c = _ := M.set_same
  have q4 : m3.set c (.lst [.tup [.int 0, .int 1], .tup [.int 1, .int 0], .tup [.int 2, .int 3], .tup [.int 3, .int 2]]) = m3.set c (.lst ((waysS "crossing").map wayD2)) := rfl
  rw [q4]
  generalize m3.set c (.lst ((waysS "crossing").map wayD2)) = m4 at *
  refine ⟨h4, ?_⟩
  have ne : ∀ {x : Addr} {l : List D}, m4.mu x = some (.lst l) → x ≠ p := fun {x l} hx z => by rw [z, h4] at hx; cases hx
  refine h p a b c _ (e4.set hp) (by rw [M.set_same]; with_unfolding_all rfl) ((M.set_ne (ne k4)).trans k4) ((M.set_ne (ne j4)).trans j4) ((M.set_ne (ne i4)).trans i4)
theorem ways_get {m : M} {p a b c : Addr} {kd : Str} (hk : kindS kd = true) (h : m.mu p = some (.dic (waysKV a b c))) (ha : m.mu a = some (.lst ((waysS "plain").map wayD2))) (hb : m.mu b = some (.lst ((waysS "points").map wayD2))) (hc : m.mu c = some (.lst ((waysS "crossing").map wayD2))) :
    ∃ x, GetD m p (.str kd) (some (.ref x)) ∧ m.mu x = some (.lst ((waysS kd).map wayD2)) := by
  rcases kind3 hk with rfl | rfl | rfl
  · exact ⟨a, .inl ⟨_, .inr "plain", h, rfl, by with_unfolding_all rfl⟩, ha⟩
  · exact ⟨b, .inl ⟨_, .inr "points", h, rfl, by with_unfolding_all rfl⟩, hb⟩
  · exact ⟨c, .inl ⟨_, .inr "crossing", h, rfl, by with_unfolding_all rfl⟩, hc⟩
theorem eqv_w2 {w : Int × Int} {i r : Int} : PyData.eqv (wayD2 w).py (D.tup [.int i, .int r]).py = decide (w = (i, r)) := by
  obtain ⟨w1, w2⟩ := w
  show ((w1 == i) && ((w2 == r) && true)) = _
  by_cases h1 : w1 = i
  · subst h1
    by_cases h2 : w2 = r
    · subst h2; simp
    · simp [h2]
  · simp [h1]
theorem w2_fine (w : Int × Int) : Fine (wayD2 w) := Fine.tup (fun d hd => by
  simp only [List.mem_cons, List.not_mem_nil, or_false] at hd
  rcases hd with rfl | rfl <;> exact Fine.int _) (fun d hd => by
  simp only [List.mem_cons, List.not_mem_nil, or_false] at hd
  rcases hd with rfl | rfl <;> exact Nat.zero_le _)
theorem inW2 {i r : Int} {l : List (Int × Int)} {a : Addr} {m : M} {Q : DK} (h : m.mu a = some (.lst (l.map wayD2))) (q : Q (.bl (!decide ((i, r) ∈ l))) m) : rdInD true (.tup [.int i, .int r]) (.ref a) m Q := by
  have hf : ∀ d ∈ l.map wayD2, Fine d := fun d hd => by
    obtain ⟨w, _, rfl⟩ := List.mem_map.mp hd
    exact w2_fine w
  refine ⟨a, _, rfl, h, pures_of fun d hd => (hf d hd).pure, rfl, shaped_d (w2_fine (i, r)), shaped_l hf, ?_⟩
  have key : ∀ l : List (Int × Int), ((D.pys (l.map wayD2)).any fun z => PyData.eqv z (D.tup [.int i, .int r]).py) = decide ((i, r) ∈ l) := by
    intro l
    induction l with
    | nil => simp [D.pys]
    | cons w l ih =>
      show (PyData.eqv (wayD2 w).py (D.tup [.int i, .int r]).py || (D.pys (l.map wayD2)).any fun z => PyData.eqv z (D.tup [.int i, .int r]).py) = _
      rw [ih, eqv_w2]
      by_cases z : w = (i, r)
      · subst z; simp
      · have : ¬ (i, r) = w := fun y => z y.symm
        simp [z, this]
  show Q (.bl (!((D.pys (l.map wayD2)).any fun z => PyData.eqv z (D.tup [.int i, .int r]).py))) m
  rw [key]; exact q
theorem badOv_iff {p : Pln} {n : Str} {e b : End} {r : Int} {kd : Str} (hk : kindAt p.st b.1 = some kd) (hs : kindS kd = true) : badOv p (n, e, some (b.1, b.2, r)) = (!decide (partAt p.jo e = some b) || !decide ((b.2, r) ∈ waysS kd)) := by
  unfold badOv fitsOv
  dsimp only
  rw [hk]
  obtain ⟨b1, b2⟩ := b
  dsimp only
  have : ((decide (kd = "plain") || decide (kd = "crossing")) && decide ((b2, r) ∈ waysK kd)) = decide ((b2, r) ∈ waysS kd) := by
    rcases kind3 hs with rfl | rfl | rfl
    · rfl
    · rw [show (decide (("points" : Str) = "plain") || decide (("points" : Str) = "crossing")) = false by decide, Bool.false_and]
      exact (decide_eq_false (by show ¬ (b2, r) ∈ ([] : List (Int × Int)); simp)).symm
    · rfl
  rw [this, Bool.not_and]
end PL
namespace PL
open PySem PySem.Spec PyProof.Rows L2 GA GxR DL TM
theorem dFor_L {te : DTr} {g : Tg} {tb : DTS} {E : DEnds} {δ : Sl} {m : M} {α : Type} {f : α → D} {l : List α} (P : Addr → Nat → Sl → M → Prop)
    (hw : ∀ R : DK, (∀ a m1, Ext m m1 → m1.mu a = some (.lst (l.map f)) → R (.ref a) m1) → te δ m R) (h0 : ∀ a m1, Ext m m1 → m1.mu a = some (.lst (l.map f)) → P a 0 δ m1) (hk : ∀ a i δ m', P a i δ m' → m'.mu a = some (.lst (l.map f)))
    (hs : ∀ a (i : Nat) (x : α) δ m', l[i]? = some x → P a i δ m' → gD g (f x) δ fun δ2 => tb { E with nx := P a (i + 1), ct := P a (i + 1), bk := E.nx } δ2 m') (hd : ∀ a δ m', P a l.length δ m' → E.nx δ m') : dFor (iL te) g tb E δ m :=
  hw _ fun a m1 hE ha => ⟨a, l.map f, rfl, ha, P a, h0 a m1 hE ha, fun i δ m' h => hk a i δ m' h, fun i d δ2 m' h hP => by
    obtain ⟨x, hx, rfl⟩ := map_get h
    exact hs a i x δ2 m' hx hP, fun δ m' h => hd a δ m' (by rw [List.length_map] at h; exact h)⟩
def nearG (p : Pln) (e : End) : List Nat := ixs (fun g : Str × End => decide (g.2 = e)) 0 p.ga
theorem ga_take {p : Pln} {k : Nat} {e : End} : e ∈ (p.ga.take k).map (·.2) ↔ (p.ga.take k).any (fun s => decide (s.2 = e)) = true := by
  rw [List.any_eq_true, List.mem_map]
  exact ⟨fun ⟨s, h1, h2⟩ => ⟨s, h1, decide_eq_true h2⟩, fun ⟨s, h1, h2⟩ => ⟨s, h1, of_decide_eq_true h2⟩⟩
theorem gF1 {p : Pln} {k : Nat} {n : Str} {e : End} (h : e ∈ jends p.jo ∨ plainAt p.st e = false) : gateFault p k n e = some (("gate" : Str), n) := by
  unfold gateFault
  rw [if_pos]
  rcases h with h | h
  · exact .inl h
  · exact .inr (.inr (of_decide_eq_false h))
theorem gF2 {p : Pln} {k i : Nat} {n : Str} {e : End} {r : List Nat} (h : nearG p e = i :: r) (hi : i < k) : gateFault p k n e = some (("gate" : Str), n) := by
  have z := ixs_head (b := fun s : Str × End => decide (s.2 = e)) (n := 0) (l := p.ga)
  rw [show ixs (fun s : Str × End => decide (s.2 = e)) 0 p.ga = i :: r from h] at z
  obtain ⟨_, x, _, _, h4⟩ := z
  unfold gateFault
  rw [if_pos]
  exact .inr (.inl (ga_take.mpr ((h4 k).2 (by omega))))
theorem gF3 {p : Pln} {k i : Nat} {n : Str} {e : End} {r : List Nat} (h0 : plainAt p.st e = true) (h1 : e ∉ jends p.jo) (h : nearG p e = i :: r) (hi : ¬ i < k) : ∃ g, p.ga[i]? = some g ∧ gateFault p k n e = some (("gate" : Str), g.1) := by
  have z := ixs_head (b := fun s : Str × End => decide (s.2 = e)) (n := 0) (l := p.ga)
  rw [show ixs (fun s : Str × End => decide (s.2 = e)) 0 p.ga = i :: r from h] at z
  obtain ⟨_, x, h2, _, h4⟩ := z
  obtain ⟨h5, h6⟩ := (h4 k).1 (by omega)
  refine ⟨x, h2, ?_⟩
  unfold gateFault
  rw [if_neg, h6]; rfl
  rintro (y | y | y)
  · exact h1 y
  · exact all_not h5 (ga_take.mp y)
  · exact y (of_decide_eq_true h0)
theorem gF4 {p : Pln} {k : Nat} {n : Str} {e : End} (h0 : plainAt p.st e = true) (h1 : e ∉ jends p.jo) (h : nearG p e = []) : gateFault p k n e = none := by
  have z := ixs_head (b := fun s : Str × End => decide (s.2 = e)) (n := 0) (l := p.ga)
  rw [show ixs (fun s : Str × End => decide (s.2 = e)) 0 p.ga = [] from h] at z
  have z : ∀ s ∈ p.ga, decide (s.2 = e) = false := z
  unfold gateFault
  rw [if_neg, List.find?_eq_none.mpr]; rfl
  · intro s hs; rw [z s (List.mem_of_mem_drop hs)]; decide
  · rintro (y | y | y)
    · exact h1 y
    · obtain ⟨s, hs, hb⟩ := List.any_eq_true.mp (ga_take.mp y)
      rw [z s (List.mem_of_mem_take hs)] at hb; cases hb
    · exact y (of_decide_eq_true h0)
end PL

namespace PR
open PySem PySem.Spec PyProof.Rows L2 GA GxR DL PL TM

def top (i : Nat) : Stmt := PySem.Challenge.pw_clearline_k14_whole_what_can_be_put_in_o.main.body.getD i (.Pass ⟨0, 0, 0, 0⟩)
structure Txt (K : PySem.W.Frag) (mg : Str → Option Value) (w : World) (tl td t8 t3 : Tok) (aK aO aE aP : Addr) : Prop where
  len : mg "len" = none
  isinstance : mg "isinstance" = none
  all : mg "all" = none
  range : mg "range" = none
  str : mg "str" = none
  list : mg "list" = none
  tuple : mg "tuple" = none
  int : mg "int" = none
  bool : mg "bool" = none
  max : mg "max" = none
  enumerate : mg "enumerate" = none
  set : mg "set" = none
  sorted : mg "sorted" = none
  repr : mg "repr" = none
  m_LETTERS : mg "LETTERS" = some (.str lettersS tl)
  m_LETTERS_AND_DIGITS : mg "LETTERS_AND_DIGITS" = some (.str lettersDS td)
  m_LONGEST_NAME : mg "LONGEST_NAME" = some (.int 8 t8)
  m_GREATEST_END : mg "GREATEST_END" = some (.int 3 t3)
  m_KINDS : mg "KINDS" = some (.ref aK)
  r_KINDS : ∀ H, Rep K H (.ktup [.str "plain", .str "points", .str "crossing"]) (.ref aK)
  m_OVERLAP_KINDS : mg "OVERLAP_KINDS" = some (.ref aO)
  r_OVERLAP_KINDS : ∀ H, Rep K H (.ktup [.str "plain", .str "crossing"]) (.ref aO)
  m_ENDS : mg "ENDS" = some (.ref aE)
  w_ENDS : WDict K w aE endsL
  m_PATHS : mg "PATHS" = some (.ref aP)
  w_PATHS : WDict K w aP pathsL
abbrev s_is_integer : Stmt := top 7
theorem sc_is_integer : FnScope ["thing"] ["thing"] (defScope s_is_integer) := ⟨rfl, rfl, rfl, by decide +kernel, rfl, by decide +kernel, by decide +kernel⟩
abbrev s_is_tuple_of : Stmt := top 8
theorem sc_is_tuple_of : FnScope ["thing", "length"] ["thing", "length"] (defScope s_is_tuple_of) := ⟨rfl, rfl, rfl, by decide +kernel, rfl, by decide +kernel, by decide +kernel⟩
abbrev s_are_items : Stmt := top 9
theorem sc_are_items : FnScope ["thing", "has_form", "item"] ["thing", "has_form"] (defScope s_are_items) := ⟨rfl, rfl, rfl, by decide +kernel, rfl, by decide +kernel, by decide +kernel⟩
abbrev s_is_name : Stmt := top 10
theorem sc_is_name : FnScope ["thing", "sign"] ["thing"] (defScope s_is_name) := ⟨rfl, rfl, rfl, by decide +kernel, rfl, by decide +kernel, by decide +kernel⟩
abbrev s_is_end_number : Stmt := top 14
theorem sc_is_end_number : FnScope ["thing"] ["thing"] (defScope s_is_end_number) := ⟨rfl, rfl, rfl, by decide +kernel, rfl, by decide +kernel, by decide +kernel⟩
abbrev s_is_end : Stmt := top 15
theorem sc_is_end : FnScope ["thing"] ["thing"] (defScope s_is_end) := ⟨rfl, rfl, rfl, by decide +kernel, rfl, by decide +kernel, by decide +kernel⟩
abbrev s_is_step : Stmt := top 16
theorem sc_is_step : FnScope ["thing"] ["thing"] (defScope s_is_step) := ⟨rfl, rfl, rfl, by decide +kernel, rfl, by decide +kernel, by decide +kernel⟩
abbrev s_is_stretch : Stmt := top 17
theorem sc_is_stretch : FnScope ["thing"] ["thing"] (defScope s_is_stretch) := ⟨rfl, rfl, rfl, by decide +kernel, rfl, by decide +kernel, by decide +kernel⟩
abbrev s_is_joint : Stmt := top 18
theorem sc_is_joint : FnScope ["thing"] ["thing"] (defScope s_is_joint) := ⟨rfl, rfl, rfl, by decide +kernel, rfl, by decide +kernel, by decide +kernel⟩
abbrev s_is_gate : Stmt := top 19
theorem sc_is_gate : FnScope ["thing"] ["thing"] (defScope s_is_gate) := ⟨rfl, rfl, rfl, by decide +kernel, rfl, by decide +kernel, by decide +kernel⟩
abbrev s_is_overlap : Stmt := top 20
theorem sc_is_overlap : FnScope ["thing"] ["thing"] (defScope s_is_overlap) := ⟨rfl, rfl, rfl, by decide +kernel, rfl, by decide +kernel, by decide +kernel⟩
abbrev s_is_signal : Stmt := top 21
theorem sc_is_signal : FnScope ["thing"] ["thing"] (defScope s_is_signal) := ⟨rfl, rfl, rfl, by decide +kernel, rfl, by decide +kernel, by decide +kernel⟩
abbrev s_is_plan : Stmt := top 22
theorem sc_is_plan : FnScope ["thing", "stretches", "joints", "gates", "signals"] ["thing"] (defScope s_is_plan) := ⟨rfl, rfl, rfl, by decide +kernel, rfl, by decide +kernel, by decide +kernel⟩
abbrev s_ways_of : Stmt := top 26
theorem sc_ways_of : FnScope ["stretch", "name", "kind", "start", "goal"] ["stretch"] (defScope s_ways_of) := ⟨rfl, rfl, rfl, by decide +kernel, rfl, by decide +kernel, by decide +kernel⟩
abbrev s_kinds_of : Stmt := top 29
theorem sc_kinds_of : FnScope ["plan", "name", "kind"] ["plan"] (defScope s_kinds_of) := ⟨rfl, rfl, rfl, by decide +kernel, rfl, by decide +kernel, by decide +kernel⟩
abbrev s_partners_of : Stmt := top 30
theorem sc_partners_of : FnScope ["plan", "partners", "one", "other"] ["plan"] (defScope s_partners_of) := ⟨rfl, rfl, rfl, by decide +kernel, rfl, by decide +kernel, by decide +kernel⟩
abbrev s_end_exists : Stmt := top 31
theorem sc_end_exists : FnScope ["kinds", "end", "name", "number"] ["kinds", "end"] (defScope s_end_exists) := ⟨rfl, rfl, rfl, by decide +kernel, rfl, by decide +kernel, by decide +kernel⟩
abbrev s_repeated_name : Stmt := top 32
theorem sc_repeated_name : FnScope ["plan", "seen", "item", "stretches", "_", "gates", "signals"] ["plan"] (defScope s_repeated_name) := ⟨rfl, rfl, rfl, by decide +kernel, rfl, by decide +kernel, by decide +kernel⟩
abbrev s_missing_end : Stmt := top 33
theorem sc_missing_end : FnScope ["plan", "kinds", "item", "_", "joints", "gates", "signals", "one", "other"] ["plan"] (defScope s_missing_end) := ⟨rfl, rfl, rfl, by decide +kernel, rfl, by decide +kernel, by decide +kernel⟩
abbrev s_wrong_joint : Stmt := top 34
theorem sc_wrong_joint : FnScope ["plan", "seen", "one", "other"] ["plan"] (defScope s_wrong_joint) := ⟨rfl, rfl, rfl, by decide +kernel, rfl, by decide +kernel, by decide +kernel⟩
abbrev s_wrong_place : Stmt := top 35
theorem sc_wrong_place : FnScope ["plan", "items", "at_joint", "kinds", "partners", "seen", "item", "name", "end"] ["plan", "items", "at_joint"] (defScope s_wrong_place) := ⟨rfl, rfl, rfl, by decide +kernel, rfl, by decide +kernel, by decide +kernel⟩
abbrev s_fits_overlap : Stmt := top 36
theorem sc_fits_overlap : FnScope ["kinds", "beginning", "step", "name"] ["kinds", "beginning", "step"] (defScope s_fits_overlap) := ⟨rfl, rfl, rfl, by decide +kernel, rfl, by decide +kernel, by decide +kernel⟩
abbrev s_wrong_overlap : Stmt := top 37
theorem sc_wrong_overlap : FnScope ["plan", "kinds", "partners", "name", "end", "overlap"] ["plan"] (defScope s_wrong_overlap) := ⟨rfl, rfl, rfl, by decide +kernel, rfl, by decide +kernel, by decide +kernel⟩
abbrev s_fault : Stmt := top 38
theorem sc_fault : FnScope ["plan", "found", "word", "name"] ["plan"] (defScope s_fault) := ⟨rfl, rfl, rfl, by decide +kernel, rfl, by decide +kernel, by decide +kernel⟩
abbrev s_is_checked : Stmt := top 39
theorem sc_is_checked : FnScope ["plan"] ["plan"] (defScope s_is_checked) := ⟨rfl, rfl, rfl, by decide +kernel, rfl, by decide +kernel, by decide +kernel⟩
abbrev s_law_deck : Stmt := top 41
theorem sc_law_deck : FnScope ["script", "mixed", "cell"] ["script"] (defScope s_law_deck) := ⟨rfl, rfl, rfl, by decide +kernel, rfl, by decide +kernel, by decide +kernel⟩
abbrev s_law_draw : Stmt := top 42
theorem sc_law_draw : FnScope ["deck", "many", "number", "cell"] ["deck", "many"] (defScope s_law_draw) := ⟨rfl, rfl, rfl, by decide +kernel, rfl, by decide +kernel, by decide +kernel⟩
abbrev s_law_pick : Stmt := top 43
theorem sc_law_pick : FnScope ["deck", "some"] ["deck", "some"] (defScope s_law_pick) := ⟨rfl, rfl, rfl, by decide +kernel, rfl, by decide +kernel, by decide +kernel⟩
abbrev s_law_name : Stmt := top 44
theorem sc_law_name : FnScope ["deck", "used", "letters", "way", "name", "some", "at", "spare"] ["deck", "used"] (defScope s_law_name) := ⟨rfl, rfl, rfl, by decide +kernel, rfl, by decide +kernel, by decide +kernel⟩
abbrev s_law_joints : Stmt := top 45
theorem sc_law_joints : FnScope ["deck", "free", "joined", "joints", "turn", "one", "others", "other", "end"] ["deck", "free", "joined"] (defScope s_law_joints) := ⟨rfl, rfl, rfl, by decide +kernel, rfl, by decide +kernel, by decide +kernel⟩
abbrev s_law_over : Stmt := top 46
theorem sc_law_over : FnScope ["deck", "kinds", "end", "name", "one"] ["deck", "kinds", "end"] (defScope s_law_over) := ⟨rfl, rfl, rfl, by decide +kernel, rfl, by decide +kernel, by decide +kernel⟩
abbrev s_law_checked : Stmt := top 47
theorem sc_law_checked : FnScope ["deck", "used", "most", "turn", "joints", "free", "many", "kinds", "joined", "stretches", "gates", "signals", "kind", "name", "end"] ["deck", "used", "most"] (defScope s_law_checked) := ⟨rfl, rfl, rfl, by decide +kernel, rfl, by decide +kernel, by decide +kernel⟩
abbrev s_law_ends : Stmt := top 48
theorem sc_law_ends : FnScope ["plan", "found", "name", "kind", "end"] ["plan"] (defScope s_law_ends) := ⟨rfl, rfl, rfl, by decide +kernel, rfl, by decide +kernel, by decide +kernel⟩
abbrev s_law_joined : Stmt := top 49
theorem sc_law_joined : FnScope ["plan", "found", "one", "other"] ["plan"] (defScope s_law_joined) := ⟨rfl, rfl, rfl, by decide +kernel, rfl, by decide +kernel, by decide +kernel⟩
abbrev s_law_put : Stmt := top 50
theorem sc_law_put : FnScope ["plan", "part", "place", "item"] ["plan", "part", "place", "item"] (defScope s_law_put) := ⟨rfl, rfl, rfl, by decide +kernel, rfl, by decide +kernel, by decide +kernel⟩
abbrev s_law_without : Stmt := top 51
theorem sc_law_without : FnScope ["plan", "part", "place"] ["plan", "part", "place"] (defScope s_law_without) := ⟨rfl, rfl, rfl, by decide +kernel, rfl, by decide +kernel, by decide +kernel⟩
abbrev s_law_is : Stmt := top 52
theorem sc_law_is : FnScope ["plan", "due"] ["plan", "due"] (defScope s_law_is) := ⟨rfl, rfl, rfl, by decide +kernel, rfl, by decide +kernel, by decide +kernel⟩
abbrev s_law_are_taken_out : Stmt := top 53
theorem sc_law_are_taken_out : FnScope ["plan", "part", "place", "joint", "near", "stretch", "it", "one", "other", "name", "end"] ["plan"] (defScope s_law_are_taken_out) := ⟨rfl, rfl, rfl, by decide +kernel, rfl, by decide +kernel, by decide +kernel⟩
abbrev s_law_are_names_put_in : Stmt := top 54
theorem sc_law_are_names_put_in : FnScope ["deck", "plan", "name", "used", "turn", "item", "due", "part", "old", "place", "kind", "it"] ["deck", "plan", "name"] (defScope s_law_are_names_put_in) := ⟨rfl, rfl, rfl, by decide +kernel, rfl, by decide +kernel, by decide +kernel⟩
abbrev s_law_are_joints_put_in : Stmt := top 55
theorem sc_law_are_joints_put_in : FnScope ["deck", "plan", "ends", "turn", "shared", "gates", "due", "one", "other", "place", "at", "joint", "name", "end"] ["deck", "plan"] (defScope s_law_are_joints_put_in) := ⟨rfl, rfl, rfl, by decide +kernel, rfl, by decide +kernel, by decide +kernel⟩
abbrev s_law_is_signal_put_in : Stmt := top 56
theorem sc_law_is_signal_put_in : FnScope ["deck", "plan", "name", "end", "is_plain", "to", "due", "begin", "step", "kinds", "ways", "place", "near", "other", "kind", "at", "it"] ["deck", "plan", "name", "end", "is_plain", "to"] (defScope s_law_is_signal_put_in) := ⟨rfl, rfl, rfl, by decide +kernel, rfl, by decide +kernel, by decide +kernel⟩
abbrev s_law_are_put_in : Stmt := top 57
theorem sc_law_are_put_in : FnScope ["deck", "plan", "name", "end", "joined", "kinds", "other", "kind", "due", "place", "near", "at", "it"] ["deck", "plan", "name"] (defScope s_law_are_put_in) := ⟨rfl, rfl, rfl, by decide +kernel, rfl, by decide +kernel, by decide +kernel⟩
abbrev s_law : Stmt := top 58
theorem sc_law : FnScope ["script", "plan", "deck", "used", "name"] ["script"] (defScope s_law) := ⟨rfl, rfl, rfl, by decide +kernel, rfl, by decide +kernel, by decide +kernel⟩
end PR

namespace PR
open PySem PySem.Spec PyProof.Rows L2 GA GxR DL PL PySem.W
def dd (x : Str) (st : Stmt) : He.DefD := ⟨(x, none), x, x, defArgs st, defBody st, defScope st, [], []⟩
def fn1 : List He.DefD := [dd "is_integer" s_is_integer, dd "is_tuple_of" s_is_tuple_of, dd "are_items" s_are_items, dd "is_name" s_is_name, dd "is_end_number" s_is_end_number, dd "is_end" s_is_end, dd "is_step" s_is_step, dd "is_stretch" s_is_stretch, dd "is_joint" s_is_joint, dd "is_gate" s_is_gate, dd "is_overlap" s_is_overlap, dd "is_signal" s_is_signal, dd "is_plan" s_is_plan, dd "ways_of" s_ways_of, dd "kinds_of" s_kinds_of, dd "partners_of" s_partners_of, dd "end_exists" s_end_exists, dd "repeated_name" s_repeated_name, dd "missing_end" s_missing_end, dd "wrong_joint" s_wrong_joint, dd "wrong_place" s_wrong_place]
def fn2 : List He.DefD := [dd "fits_overlap" s_fits_overlap, dd "wrong_overlap" s_wrong_overlap, dd "fault" s_fault, dd "is_checked" s_is_checked, dd "_law_deck" s_law_deck, dd "_law_draw" s_law_draw, dd "_law_pick" s_law_pick, dd "_law_name" s_law_name, dd "_law_joints" s_law_joints, dd "_law_over" s_law_over, dd "_law_checked" s_law_checked, dd "_law_ends" s_law_ends, dd "_law_joined" s_law_joined, dd "_law_put" s_law_put, dd "_law_without" s_law_without, dd "_law_is" s_law_is, dd "_law_are_taken_out" s_law_are_taken_out, dd "_law_are_names_put_in" s_law_are_names_put_in, dd "_law_are_joints_put_in" s_law_are_joints_put_in, dd "_law_is_signal_put_in" s_law_is_signal_put_in, dd "_law_are_put_in" s_law_are_put_in, dd "law" s_law]
def fnL : List He.DefD := fn1 ++ fn2
def fa1 : List He.Fa := [.glo "is_integer", .glo "is_tuple_of", .glo "are_items", .glo "is_name", .glo "is_end_number", .glo "is_end", .glo "is_step", .glo "is_stretch", .glo "is_joint", .glo "is_gate", .glo "is_overlap", .glo "is_signal", .glo "is_plan", .glo "ways_of", .glo "kinds_of", .glo "partners_of", .glo "end_exists", .glo "repeated_name", .glo "missing_end", .glo "wrong_joint", .glo "wrong_place", .glo "fits_overlap", .glo "wrong_overlap", .glo "fault", .glo "is_checked", .glo "_law_deck", .glo "_law_draw", .glo "_law_pick", .glo "_law_name", .glo "_law_joints", .glo "_law_over", .glo "_law_checked", .glo "_law_ends", .glo "_law_joined", .glo "_law_put", .glo "_law_without", .glo "_law_is", .glo "_law_are_taken_out", .glo "_law_are_names_put_in", .glo "_law_are_joints_put_in", .glo "_law_is_signal_put_in", .glo "_law_are_put_in", .glo "law"]
def fa2 : List He.Fa := [.glo "KINDS", .glo "OVERLAP_KINDS", .glo "ENDS", .glo "PATHS", .str "LETTERS" lettersS, .str "LETTERS_AND_DIGITS" lettersDS, .int "LONGEST_NAME" 8, .int "GREATEST_END" 3, .free "len", .free "isinstance", .free "all", .free "range", .free "str", .free "list", .free "tuple", .free "int", .free "bool", .free "max", .free "enumerate", .free "set", .free "sorted", .free "repr"]
def faL : List He.Fa := fa1 ++ fa2
def tsL : List He.Tab := [(fun K => He.ga K "ENDS", ["plain", "points", "crossing"]), (fun K => He.ga K "PATHS", ["plain", "points", "crossing"])]
def tfL : List He.Defn := [("is_name", none), ("are_items", none)]
def exL (K : PySem.W.Frag) : Bool := He.tupB K "KINDS" [.str "plain", .str "points", .str "crossing"] && (He.tupB K "OVERLAP_KINDS" [.str "plain", .str "crossing"] && (wdB K (He.ga K "ENDS") endsL && wdB K (He.ga K "PATHS") pathsL))
abbrev R : PySem.W.OpenRow := PySem.W.OpenLaw.row PySem.Challenge.rw_clearline_k14_whole_what_can_be_put_in_o
abbrev hkL : PySem.W.Hook := He.hookX 4 faL fnL tsL tfL exL
def obL (s : PySem.W.SharedT) : He.AlX := He.obsX 4 faL fnL tsL tfL exL (HandSHeadRun.getT s)
theorem obL_eq (s : PySem.W.SharedT) : obL s = hkL.obs s.abs := He.obsX_eq (HandSHeadRun.getT_eq s)
def loose1 : List Str := ["LineError", "BadPlan", "LETTERS", "LETTERS_AND_DIGITS", "LONGEST_NAME", "is_integer", "is_tuple_of", "are_items", "is_name", "KINDS", "GREATEST_END", "is_end_number", "is_end", "is_step", "is_stretch", "is_joint", "is_gate", "is_overlap", "is_signal", "is_plan", "ENDS", "PATHS", "ways_of", "OVERLAP_KINDS", "kinds_of", "partners_of"]
def loose2 : List Str := ["end_exists", "repeated_name", "missing_end", "wrong_joint", "wrong_place", "fits_overlap", "wrong_overlap", "fault", "is_checked", "_law_deck", "_law_draw", "_law_pick", "_law_name", "_law_joints", "_law_over", "_law_checked", "_law_ends", "_law_joined", "_law_put", "_law_without", "_law_is", "_law_are_taken_out", "_law_are_names_put_in", "_law_are_joints_put_in", "_law_is_signal_put_in", "_law_are_put_in"]
def looseL : List Str := loose1 ++ loose2
theorem runL (w : World) : HandSHeadRun.RunEq R (PySem.W.view R.prog [58]) hkL obL 3000 looseL w := by
  refine byRow2 "special-get-raises" (P := fun w => HandSHeadRun.RunEq R (PySem.W.view R.prog [58]) hkL obL 3000 looseL w) (fun w os => ?_) (fun w os => ?_) w
  · kernel_rfl
  · kernel_rfl
end PR

namespace PR
open PySem PySem.Spec PyProof.Rows L2 GA GxR DL PL
theorem funC_of {K : PySem.W.Frag} {x : Str} {st : Stmt} {fd : FuncData} (F : L2.FunD K x x (defArgs st) (defBody st) (defScope st) [] [] (He.fAd K (x, none)) fd) : FunC K x st (He.fAd K (x, none)) fd (He.codeOf K (x, none)) := by
  obtain ⟨oc, od, dV, kV, doc, pm, an, cdv, ct, osl, e, l, c, hd, _⟩ := F.ex
  obtain ⟨c0, rfl⟩ := He.codeIn_ref c
  rcases hd with ⟨_, e2⟩ | ⟨e2, _⟩
  · subst e2
    have h : He.codeOf K (x, none) = c0 := He.codeOf_eq l (by rw [e])
    rw [h]
    exact ⟨⟨oc, od, kV, doc, pm, an, ct, osl, e, l, c⟩, F.kp⟩
  · exact absurd rfl e2
/-- what stands beside the store as the law begins -/
def lawGh (P1 P2 : Addr) (own3 : Addr → Prop) (S : Hp → Prop) (hs : ∀ H H', S H → (∀ a, own3 a → H' a = H a) → S H') (ht : ∀ H, S H → ∀ a, own3 a → H a ≠ none) : Gh where
  inv := fun H => TabG H P1 ∧ TabG H P2 ∧ S H
  own := fun a => a = P1 ∨ a = P2 ∨ own3 a
  stable := fun H H' ⟨⟨p1, e1, t1⟩, ⟨p2, e2, t2⟩, h3⟩ e => ⟨⟨p1, (e P1 (.inl rfl)).trans e1, t1⟩, ⟨p2, (e P2 (.inr (.inl rfl))).trans e2, t2⟩, hs H H' h3 fun a ha => e a (.inr (.inr ha))⟩
  there := fun H ⟨⟨p1, e1, t1⟩, ⟨p2, e2, t2⟩, h3⟩ a ha => by
    rcases ha with rfl | rfl | ha
    · rw [e1]; exact fun z => by cases z
    · rw [e2]; exact fun z => by cases z
    · exact ht H h3 a ha
theorem lawGh_tabs {P1 P2 : Addr} {own3 : Addr → Prop} {S : Hp → Prop} {hs : ∀ H H', S H → (∀ a, own3 a → H' a = H a) → S H'} {ht : ∀ H, S H → ∀ a, own3 a → H a ≠ none} (hn : ∀ H a, S H → own3 a → ∀ ps, H a ≠ some (.tbl ps)) :
    Tab ⟨fun _ => none, lawGh P1 P2 own3 S hs ht⟩ P1 ∧ Tab ⟨fun _ => none, lawGh P1 P2 own3 S hs ht⟩ P2 := by
  have tr : ∀ (P : Addr) (H H2 : Hp), TabG H P → Tabbed P H H2 → ∀ P', TabG H P' → TabG H2 P' := fun P H H2 _ t P' h => by
    by_cases z : P' = P
    · subst z; exact t.1
    · obtain ⟨ps, e, tt⟩ := h
      exact ⟨ps, (t.2 _ z).trans e, tt⟩
  refine ⟨⟨.inl rfl, fun H i => i.1, fun H H2 i t => ⟨tr P1 H H2 i.1 t P1 i.1, tr P1 H H2 i.1 t P2 i.2.1, hs H H2 i.2.2 fun a ha => t.2 a fun z => ?_⟩⟩, ⟨.inr (.inl rfl), fun H i => i.2.1, fun H H2 i t => ⟨tr P2 H H2 i.2.1 t P1 i.1, tr P2 H H2 i.2.1 t P2 i.2.1, hs H H2 i.2.2 fun a ha => t.2 a fun z => ?_⟩⟩⟩
  · subst z
    obtain ⟨ps, e, _⟩ := i.1
    exact hn H _ i.2.2 ha ps e
  · subst z
    obtain ⟨ps, e, _⟩ := i.2.1
    exact hn H _ i.2.2 ha ps e
def spL (K : PySem.W.Frag) (P1 P2 : Addr) : Sp := fun vs H Q _ => ∃ (aS : Addr) (ns : List Int), vs = [.ref aS] ∧ ns.length ≤ 63 ∧ SqL K H aS (ns.map V.int) ∧ H P1 = some (.tbl #[]) ∧ H P2 = some (.tbl #[]) ∧ ∀ H', Q (.bl true) H'
theorem law_up {K : PySem.W.Frag} {P1 P2 : Addr} {vs : List V} {H : Hp} {Q : VK} {E : XK} (h : spL K P1 P2 vs H Q E) : spUp K (spLaw K P1 P2) vs H Q E := by
  obtain ⟨aS, ns, rfl, hl, hS, h1, h2, q⟩ := h
  have t1 : TabG H P1 := ⟨#[], h1, trivial⟩
  have t2 : TabG H P2 := ⟨#[], h2, trivial⟩
  have fit : Fits K H (fun d _ => d = .bl true) Q := fun d m e v H' _ r _ => by subst e; cases r; exact q H'
  rcases hS with hR | hK
  · have key : ∀ (H : Hp) (a : Addr), Rd H aS (.lst (ns.map V.int)) → a = aS → ∀ ps, H a ≠ some (.tbl ps) := fun H a r e ps z => by
      subst e
      rcases r with r | ⟨o, r⟩ <;> (rw [r] at z; cases z)
    have hs : ∀ H H' : Hp, Rd H aS (.lst (ns.map V.int)) → (∀ a, a = aS → H' a = H a) → Rd H' aS (.lst (ns.map V.int)) := fun H H' r e => by
      rcases r with r | ⟨o, r⟩
      · exact .inl ((e aS rfl).trans r)
      · exact .inr ⟨o, (e aS rfl).trans r⟩
    have ht : ∀ H : Hp, Rd H aS (.lst (ns.map V.int)) → ∀ a, a = aS → H a ≠ none := fun H r a e z => by
      subst e
      rcases r with r | ⟨o, r⟩ <;> (rw [r] at z; cases z)
    have T := lawGh_tabs (P1 := P1) (P2 := P2) (own3 := fun a => a = aS) (S := fun H => Rd H aS (.lst (ns.map V.int))) (hs := hs) (ht := ht) key
    refine ⟨[.ref aS], ⟨fun _ => none, lawGh P1 P2 (fun a => a = aS) (fun H => Rd H aS (.lst (ns.map V.int))) hs ht⟩, fun d _ => d = .bl true, .cons (.ref aS) .nil, ⟨⟨t1, t2, hR⟩, fun _ _ => rfl, fun a o e => by cases e⟩, ⟨aS, ns, rfl, fun H i => .inl i.2.2, hl, T.1, T.2, fun _ => rfl⟩, fit⟩
  · have hs : ∀ H H' : Hp, True → (∀ a, False → H' a = H a) → True := fun _ _ _ _ => trivial
    have ht : ∀ H : Hp, True → ∀ a, False → H a ≠ none := fun _ _ _ z => z.elim
    have T := lawGh_tabs (P1 := P1) (P2 := P2) (own3 := fun _ => False) (S := fun _ => True) (hs := hs) (ht := ht) fun _ _ _ z => z.elim
    exact ⟨[.ref aS], ⟨fun _ => none, lawGh P1 P2 (fun _ => False) (fun _ => True) hs ht⟩, fun d _ => d = .bl true, .cons (.ref aS) .nil, ⟨⟨t1, t2, trivial⟩, fun _ _ => rfl, fun a o e => by cases e⟩, ⟨aS, ns, rfl, fun H i => .inr hK, hl, T.1, T.2, fun _ => rfl⟩, fit⟩
end PR

namespace PR
open PySem PySem.Spec PyProof.Rows L2 GA GxR DL PL TM

section
variable {P : Program} {w : World} {K : PySem.W.Frag} {mg : Str → Option Value} {base : Heap} {tl td t8 t3 : Tok} {aK aO aE aP P1 P2 : Addr} (T : Txt K mg w tl td t8 t3 aK aO aE aP) (Ok : M → Prop) (hOk : ∀ a b : M, Ok a → b.gh = a.gh → Ok b)
include T hOk

theorem c_is_integer {f : Addr} {fd : FuncData} (F : Fun K "is_integer" "is_integer" s_is_integer f fd) (hm : mg "is_integer" = some (.ref f))  : DCal P w K mg base 1 "is_integer" (sp1 Ok ty mInt) := by
  refine dcal F hm (F.binds (ps := ["thing"]) fun _ _ _ _ _ _ us hl => match us, hl with | [_], _ => rfl) sc_is_integer (fun ds m Q h => ?_) (fun cdv A outer s H E hr => ⟨_, (dss_one (ds_ret (de_and (de_isi (T := "int") (by rfl) T.isinstance (by decide +kernel) (de_var 0) (pe_bltn (by rfl) T.int (by decide +kernel) rfl)) (de_one (de_not (de_isi (T := "bool") (by rfl) T.isinstance (by decide +kernel) (de_var 0) (pe_bltn (by rfl) T.bool (by decide +kernel) rfl))))))), fun ds m Q h => ?_⟩)
  · obtain ⟨d, rfl, _⟩ := h; rfl
  · obtain ⟨d, rfl, hd, hO, q⟩ := h
    dsimp only [dRet, dSeq, dNext, dIfS, dSet, dExpr, dAndV, dOrV, dOp, dUn, dArgs, dCons, dNil, dTup, dC, dB, dNot, dAnd, dOr, dIf, dCall, dAsg, dPar, dChain, dMeth, dM1, dSl, dPart, dNoPart, dFmt, gD]
    refine dIsi_int (fun R hR => dVar_at rfl hR) hd ⟨_, rfl, ?_⟩
    cases d with
    | int i => exact iteT (dIsi_bool (fun R hR => dVar_at rfl hR) ⟨false, rfl, q⟩)
    | bl b => exact iteT (dIsi_boolb (fun R hR => dVar_at rfl hR) ⟨true, rfl, q⟩)
    | ref a => exact hd.elim
    | ktup a => exact hd.elim
    | _ => exact iteF q

theorem c_is_tuple_of {f : Addr} {fd : FuncData} (F : Fun K "is_tuple_of" "is_tuple_of" s_is_tuple_of f fd) (hm : mg "is_tuple_of" = some (.ref f))  : DCal P w K mg base 1 "is_tuple_of" (fun ds m Q => ∃ d n, ds = [d, .int n] ∧ ty d ∧ Q (.bl (mTupN d n)) m) := by
  refine dcal F hm (F.binds (ps := ["thing", "length"]) fun _ _ _ _ _ _ us hl => match us, hl with | [_, _], _ => rfl) sc_is_tuple_of (fun ds m Q h => ?_) (fun cdv A outer s H E hr => ⟨_, (dss_one (ds_ret (de_and (de_isi (T := "tuple") (by rfl) T.isinstance (by decide +kernel) (de_var 0) (pe_bltn (by rfl) T.tuple (by decide +kernel) rfl)) (de_one (de_cmp (dc_eq hr) (de_len (by rfl) T.len (da_cons (de_var 0) da_nil)) (de_var 1)))))), fun ds m Q h => ?_⟩)
  · obtain ⟨d, n, rfl, _⟩ := h; rfl
  · obtain ⟨d, n, rfl, hd, q⟩ := h
    dsimp only [dRet, dSeq, dNext, dIfS, dSet, dExpr, dAndV, dOrV, dOp, dUn, dArgs, dCons, dNil, dTup, dC, dB, dNot, dAnd, dOr, dIf, dCall, dAsg, dPar, dChain, dMeth, dM1, dSl, dPart, dNoPart, dFmt, gD]
    refine dIsi_tup (fun R hR => dVar_at rfl hR) hd ⟨_, rfl, ?_⟩
    cases d with
    | tup xs => exact iteT (dVar_at rfl ⟨_, _, rfl, rfl, dVar_at rfl (eqI q)⟩)
    | ref a => exact hd.elim
    | ktup a => exact hd.elim
    | _ => exact iteF q

theorem c_are_items {f c : Addr} {fd : FuncData} (F : FunC K "are_items" s_are_items f fd c) (hm : mg "are_items" = some (.ref f)) {g0 : Addr} {g : D → Bool} {dom : D → Prop} {k : Nat} (cf : DCalAt P w K mg base k g0 (sp1 Ok dom g)) (TB : TabB base mg c P2) (hTab : ∀ m, Ok m → Tab m P2) : DCal P w K mg base (k + 2) "are_items" (fun ds m Q => ∃ d, ds = [d, .ref g0] ∧ ty d ∧ (∀ xs, d = .tup xs → ∀ x ∈ xs, dom x) ∧ Ok m ∧ Q (.bl (mAll g d)) m) := by
  refine dcalC F hm (F.fun.binds (ps := ["thing", "has_form"]) fun _ _ _ _ _ _ us hl => match us, hl with | [_, _], _ => rfl) sc_are_items (fun ds m Q h => ?_) (fun A outer s H E hr => ⟨_, (dss_one (ds_ret (de_and (de_isi (T := "tuple") (by rfl) T.isinstance (by decide +kernel) (de_var 0) (pe_bltn (by rfl) T.tuple (by decide +kernel) rfl)) (de_one (de_all (own := [("item", 2)]) hr (by rfl) T.all (by decide +kernel) TB rfl (genOk (N := ["thing", "has_form", "item"]) (scX := defScope s_are_items) rfl rfl (by decide +kernel) (by decide +kernel) (by decide +kernel)) sc_are_items.nd (dpi_tup (de_var 0)) (fun A ce s H fp hsc => by cases ce; cases hsc; exact dg_name (i := 2) sc_are_items.nd rfl (Or.inl rfl) (Or.inr rfl)) (fun A ce s H fp hsc hr => by cases ce; cases hsc; exact de_callL (i := 1) cf hr (Nat.le_refl _) rfl (by first | exact Or.inl rfl | exact Or.inr (Or.inl rfl) | exact Or.inr (Or.inr rfl)) (da_cons (de_var 2) da_nil)) (fun _ => rfl)))))), fun ds m Q h => ?_⟩)
  · obtain ⟨d, rfl, _⟩ := h; rfl
  · obtain ⟨d, rfl, hd, hx, hO, q⟩ := h
    dsimp only [dRet, dSeq, dNext, dIfS, dSet, dExpr, dAndV, dOrV, dOp, dUn, dArgs, dCons, dNil, dTup, dC, dB, dNot, dAnd, dOr, dIf, dCall, dAsg, dPar, dChain, dMeth, dM1, dSl, dPart, dNoPart, dFmt, gD]
    refine dIsi_tup (fun R hR => dVar_at rfl hR) hd ⟨_, rfl, ?_⟩
    cases d with
    | tup xs =>
      exact iteT (dAll_pure (xs := xs) (p := g) (hTab m hO) (fun R hR => dVar_at rfl ⟨xs, .inl rfl, hR⟩) (fun d hd R hR => ⟨rfl, dVar_at rfl ⟨d, rfl, hx xs rfl d hd, hO, hR⟩⟩) q)
    | ref a => exact hd.elim
    | ktup a => exact hd.elim
    | _ => exact iteF q

theorem c_is_name {f c : Addr} {fd : FuncData} (F : FunC K "is_name" s_is_name f fd c) (hm : mg "is_name" = some (.ref f)) (TB : TabB base mg c P1) (hTab : ∀ m, Ok m → Tab m P1) : DCal P w K mg base 3 "is_name" (sp1 Ok ty mName) := by
  refine dcalC F hm (F.fun.binds (ps := ["thing"]) fun _ _ _ _ _ _ us hl => match us, hl with | [_], _ => rfl) sc_is_name (fun ds m Q h => ?_) (fun A outer s H E hr => ⟨_, (dss_cons (ds_if (dt_w (dw_or (dt_not (dt_val (de_isi (T := "str") (by rfl) T.isinstance (by decide +kernel) (de_var 0) (pe_bltn (by rfl) T.str (by decide +kernel) rfl)))) (dw_or1 (dt_not (dt_chain dc_le dc_le de_int (de_len (by rfl) T.len (da_cons (de_var 0) da_nil)) (de_globI (by rfl) T.m_LONGEST_NAME)))))) (dss_one (ds_ret de_bl)) dss_nil)
      (dss_one (ds_ret (de_and (de_cmp dc_inS (de_ix (de_var 0) de_int) (de_globS (by rfl) T.m_LETTERS)) (de_one (de_all (own := [("sign", 1)]) hr (by rfl) T.all (by decide +kernel) TB rfl (genOk (N := ["thing", "sign"]) (scX := defScope s_is_name) rfl rfl (by decide +kernel) (by decide +kernel) (by decide +kernel)) sc_is_name.nd (dpi_str (de_var 0)) (fun A ce s H fp hsc => by cases ce; cases hsc; exact dg_name (i := 1) sc_is_name.nd rfl (Or.inl rfl) (Or.inr rfl)) (fun A ce s H fp hsc hr => by cases ce; cases hsc; exact de_cmp dc_inS (de_var 1) (de_globS (by rfl) T.m_LETTERS_AND_DIGITS)) (fun _ => rfl))))))), fun ds m Q h => ?_⟩)
  · obtain ⟨d, rfl, _⟩ := h; rfl
  · obtain ⟨d, rfl, hd, hO, q⟩ := h
    dsimp only [dRet, dSeq, dNext, dIfS, dSet, dExpr, dAndV, dOrV, dOp, dUn, dArgs, dCons, dNil, dTup, dC, dB, dNot, dAnd, dOr, dIf, dCall, dAsg, dPar, dChain, dMeth, dM1, dSl, dPart, dNoPart, dFmt, gD]
    refine dIsi_str (fun R hR => dVar_at rfl hR) hd ⟨_, rfl, ?_⟩
    cases d with
    | str s =>
      have hz : s.length ≤ sizeLine := (by simpa [ty] using hd)
      refine iteF (dVar_at rfl ⟨_, _, rfl, ⟨hz, rfl⟩, _, rfl, ?_⟩)
      by_cases h1 : 1 ≤ s.length
      · refine ifT (decide_eq_true (by omega)) ⟨_, rfl, ?_⟩
        by_cases h8 : s.length ≤ 8
        · have e8 : decide ((s.length : Int) ≤ 8) = true := decide_eq_true (by omega)
          obtain ⟨c, r, hc⟩ : ∃ c r, s.cps.toList = c :: r := by
            cases e : s.cps.toList with
            | nil => have : s.cps.toList.length = 0 := by rw [e]; rfl
                     have h2 : s.length = s.cps.size := rfl
                     simp at this; rw [h2, this] at h1; simp at h1
            | cons c r => exact ⟨c, r, rfl⟩
          refine ifF (by show (!decide ((s.length : Int) ≤ 8)) = false; rw [e8]; rfl) (dVar_at rfl ⟨c, hz, len1 hc, c, lettersS, rfl, rfl, _, rfl, ?_⟩)
          have en : mName (.str s) = (decide (c ∈ lettersS.cps.toList) && s.cps.toList.all fun c => decide (c ∈ lettersDS.cps.toList)) := by
            show nameS s = _
            unfold nameS
            rw [decide_eq_true h1, decide_eq_true h8, hc]; rfl
          rw [en] at q
          cases hl : decide (c ∈ lettersS.cps.toList) with
          | true =>
            rw [hl, Bool.true_and] at q
            refine ifT rfl (dAll_pure (xs := s.cps.toList.map fun c => D.str ⟨#[c]⟩) (p := mSign) (hTab m hO) (fun R hR => dVar_at rfl ⟨s, rfl, hR⟩) (fun d hd R hR => ?_) (by rw [all_signs']; exact q))
            obtain ⟨c', _, rfl⟩ := List.mem_map.mp hd
            refine dVar_at rfl ⟨c', lettersDS, rfl, rfl, ?_⟩
            have es : mSign (.str ⟨#[c']⟩) = decide (c' ∈ lettersDS.cps.toList) := by simp [mSign]
            rw [es] at hR; exact hR
          | false => rw [hl, Bool.false_and] at q; exact ifF rfl q
        · have e8 : decide ((s.length : Int) ≤ 8) = false := decide_eq_false (by omega)
          have en : mName (.str s) = false := by show nameS s = false; unfold nameS; rw [decide_eq_false h8, Bool.and_false]; rfl
          rw [en] at q; exact ifT (by show (!decide ((s.length : Int) ≤ 8)) = true; rw [e8]; rfl) q
      · have en : mName (.str s) = false := by show nameS s = false; unfold nameS; rw [decide_eq_false h1]; rfl
        rw [en] at q
        exact ifF (decide_eq_false (by omega)) ⟨false, rfl, iteT q⟩
    | ref a => exact hd.elim
    | ktup a => exact hd.elim
    | _ => exact iteT q

theorem c_is_end_number {f : Addr} {fd : FuncData} (F : Fun K "is_end_number" "is_end_number" s_is_end_number f fd) (hm : mg "is_end_number" = some (.ref f)) (c_is_integer : DCal P w K mg base 1 "is_integer" (sp1 Ok ty mInt)) : DCal P w K mg base 2 "is_end_number" (sp1 Ok ty mNum) := by
  refine dcal F hm (F.binds (ps := ["thing"]) fun _ _ _ _ _ _ us hl => match us, hl with | [_], _ => rfl) sc_is_end_number (fun ds m Q h => ?_) (fun cdv A outer s H E hr => ⟨_, (dss_one (ds_ret (de_and (de_call c_is_integer hr (by decide) (by rfl) (da_cons (de_var 0) da_nil)) (de_one (de_chain dc_le dc_le de_int (de_var 0) (de_globI (by rfl) T.m_GREATEST_END)))))), fun ds m Q h => ?_⟩)
  · obtain ⟨d, rfl, _⟩ := h; rfl
  · obtain ⟨d, rfl, hd, hO, q⟩ := h
    dsimp only [dRet, dSeq, dNext, dIfS, dSet, dExpr, dAndV, dOrV, dOp, dUn, dArgs, dCons, dNil, dTup, dC, dB, dNot, dAnd, dOr, dIf, dCall, dAsg, dPar, dChain, dMeth, dM1, dSl, dPart, dNoPart, dFmt, gD]
    refine dVar_at rfl ⟨d, rfl, hd, hO, _, rfl, ?_⟩
    cases d with
    | int i =>
      refine iteT (dVar_at rfl ⟨_, rfl, ?_⟩)
      by_cases h0 : 0 ≤ i
      · have en : mNum (.int i) = decide (i ≤ 3) := by show (decide (0 ≤ i) && decide (i ≤ 3)) = _; rw [decide_eq_true h0]; rfl
        rw [en] at q; exact ifT (decide_eq_true h0) q
      · have en : mNum (.int i) = false := by show (decide (0 ≤ i) && decide (i ≤ 3)) = _; rw [decide_eq_false h0]; rfl
        rw [en] at q; exact ifF (decide_eq_false h0) q
    | _ => exact iteF q

theorem c_is_end {f : Addr} {fd : FuncData} (F : Fun K "is_end" "is_end" s_is_end f fd) (hm : mg "is_end" = some (.ref f)) (c_is_tuple_of : DCal P w K mg base 1 "is_tuple_of" (fun ds m Q => ∃ d n, ds = [d, .int n] ∧ ty d ∧ Q (.bl (mTupN d n)) m))(c_is_name : DCal P w K mg base 3 "is_name" (sp1 Ok ty mName))(c_is_end_number : DCal P w K mg base 2 "is_end_number" (sp1 Ok ty mNum)) : DCal P w K mg base 4 "is_end" (sp1 Ok ty mEnd) := by
  refine dcal F hm (F.binds (ps := ["thing"]) fun _ _ _ _ _ _ us hl => match us, hl with | [_], _ => rfl) sc_is_end (fun ds m Q h => ?_) (fun cdv A outer s H E hr => ⟨_, (dss_one (ds_ret (de_and (de_call c_is_tuple_of hr (by decide) (by rfl) (da_cons (de_var 0) (da_cons de_int da_nil))) (de_and (de_call c_is_name hr (by decide) (by rfl) (da_cons (de_ix (de_var 0) de_int) da_nil)) (de_one (de_call c_is_end_number hr (by decide) (by rfl) (da_cons (de_ix (de_var 0) de_int) da_nil))))))), fun ds m Q h => ?_⟩)
  · obtain ⟨d, rfl, _⟩ := h; rfl
  · obtain ⟨d, rfl, hd, hO, q⟩ := h
    dsimp only [dRet, dSeq, dNext, dIfS, dSet, dExpr, dAndV, dOrV, dOp, dUn, dArgs, dCons, dNil, dTup, dC, dB, dNot, dAnd, dOr, dIf, dCall, dAsg, dPar, dChain, dMeth, dM1, dSl, dPart, dNoPart, dFmt, gD]
    refine dVar_at rfl ⟨d, 2, rfl, hd, _, rfl, ?_⟩
    rcases tup2 d with ⟨a, b, rfl⟩ | ⟨hn, ne⟩
    · obtain ⟨ha, hb, _⟩ := hd
      refine iteT (dVar_at rfl ⟨a, rfl, a, rfl, ha, hO, _, rfl, ?_⟩)
      have en : mEnd (.tup [a, b]) = (mName a && mNum b) := rfl
      rw [en] at q
      cases e1 : mName a with
      | true => rw [e1, Bool.true_and] at q; exact ifT rfl (dVar_at rfl ⟨b, rfl, b, rfl, hb, hO, q⟩)
      | false => rw [e1, Bool.false_and] at q; exact ifF rfl q
    · rw [mEnd_no ne] at q; exact ifF hn q

theorem c_is_step {f : Addr} {fd : FuncData} (F : Fun K "is_step" "is_step" s_is_step f fd) (hm : mg "is_step" = some (.ref f)) (c_is_tuple_of : DCal P w K mg base 1 "is_tuple_of" (fun ds m Q => ∃ d n, ds = [d, .int n] ∧ ty d ∧ Q (.bl (mTupN d n)) m))(c_is_end : DCal P w K mg base 4 "is_end" (sp1 Ok ty mEnd))(c_is_end_number : DCal P w K mg base 2 "is_end_number" (sp1 Ok ty mNum)) : DCal P w K mg base 5 "is_step" (sp1 Ok ty mStep) := by
  refine dcal F hm (F.binds (ps := ["thing"]) fun _ _ _ _ _ _ us hl => match us, hl with | [_], _ => rfl) sc_is_step (fun ds m Q h => ?_) (fun cdv A outer s H E hr => ⟨_, (dss_one (ds_ret (de_and (de_call c_is_tuple_of hr (by decide) (by rfl) (da_cons (de_var 0) (da_cons de_int da_nil))) (de_and (de_call c_is_end hr (by decide) (by rfl) (da_cons (de_slice (de_var 0) dpo_none (dpo_some de_int)) da_nil)) (de_one (de_call c_is_end_number hr (by decide) (by rfl) (da_cons (de_ix (de_var 0) de_int) da_nil))))))), fun ds m Q h => ?_⟩)
  · obtain ⟨d, rfl, _⟩ := h; rfl
  · obtain ⟨d, rfl, hd, hO, q⟩ := h
    dsimp only [dRet, dSeq, dNext, dIfS, dSet, dExpr, dAndV, dOrV, dOp, dUn, dArgs, dCons, dNil, dTup, dC, dB, dNot, dAnd, dOr, dIf, dCall, dAsg, dPar, dChain, dMeth, dM1, dSl, dPart, dNoPart, dFmt, gD]
    refine dVar_at rfl ⟨d, 3, rfl, hd, _, rfl, ?_⟩
    rcases tup3 d with ⟨a, b, c, rfl⟩ | ⟨hn, ne⟩
    · obtain ⟨ha, hb, hc, _⟩ := hd
      refine iteT (dVar_at rfl ⟨_, rfl, ⟨(fun z => absurd z.2 (by show ¬ (2 : Nat) = 3; decide)), .tup [a, b], rfl, ⟨ha, hb, trivial⟩, hO, _, rfl, ?_⟩⟩)
      have en : mStep (.tup [a, b, c]) = (mEnd (.tup [a, b]) && mNum c) := rfl
      rw [en] at q
      cases e1 : mEnd (.tup [a, b]) with
      | true => rw [e1, Bool.true_and] at q; exact ifT rfl (dVar_at rfl ⟨c, rfl, c, rfl, hc, hO, q⟩)
      | false => rw [e1, Bool.false_and] at q; exact ifF rfl q
    · rw [mStep_no ne] at q; exact ifF hn q

theorem c_is_stretch {f : Addr} {fd : FuncData} (F : Fun K "is_stretch" "is_stretch" s_is_stretch f fd) (hm : mg "is_stretch" = some (.ref f)) (c_is_tuple_of : DCal P w K mg base 1 "is_tuple_of" (fun ds m Q => ∃ d n, ds = [d, .int n] ∧ ty d ∧ Q (.bl (mTupN d n)) m))(c_is_name : DCal P w K mg base 3 "is_name" (sp1 Ok ty mName)) : DCal P w K mg base 4 "is_stretch" (sp1 Ok tyS mStretch) := by
  refine dcal F hm (F.binds (ps := ["thing"]) fun _ _ _ _ _ _ us hl => match us, hl with | [_], _ => rfl) sc_is_stretch (fun ds m Q h => ?_) (fun cdv A outer s H E hr => ⟨_, (dss_one (ds_ret (de_and (de_call c_is_tuple_of hr (by decide) (by rfl) (da_cons (de_var 0) (da_cons de_int da_nil))) (de_and (de_call c_is_name hr (by decide) (by rfl) (da_cons (de_ix (de_var 0) de_int) da_nil)) (de_one (de_cmp dc_in (de_ix (de_var 0) de_int) (de_globR (by rfl) T.m_KINDS T.r_KINDS))))))), fun ds m Q h => ?_⟩)
  · obtain ⟨d, rfl, _⟩ := h; rfl
  · obtain ⟨d, rfl, ⟨hd, hf⟩, hO, q⟩ := h
    dsimp only [dRet, dSeq, dNext, dIfS, dSet, dExpr, dAndV, dOrV, dOp, dUn, dArgs, dCons, dNil, dTup, dC, dB, dNot, dAnd, dOr, dIf, dCall, dAsg, dPar, dChain, dMeth, dM1, dSl, dPart, dNoPart, dFmt, gD]
    refine dVar_at rfl ⟨d, 2, rfl, hd, _, rfl, ?_⟩
    rcases tup2 d with ⟨a, b, rfl⟩ | ⟨hn, ne⟩
    · obtain ⟨ha, hb, _⟩ := hd
      refine iteT (dVar_at rfl ⟨a, rfl, a, rfl, ha, hO, _, rfl, ?_⟩)
      have en : mStretch (.tup [a, b]) = (mName a && mKind b) := rfl
      rw [en] at q
      cases e1 : mName a with
      | true =>
        rw [e1, Bool.true_and] at q
        refine ifT rfl (dVar_at rfl ⟨b, rfl, _, .inr (.inl rfl), hf a b rfl, rfl, ?_⟩)
        show Q (.bl ([D.str "plain", D.str "points", D.str "crossing"].any fun x => eqFl x b)) m
        rw [kinds_any (hf a b rfl)]; exact q
      | false => rw [e1, Bool.false_and] at q; exact ifF rfl q
    · rw [mStretch_no ne] at q; exact ifF hn q

theorem c_is_joint {f : Addr} {fd : FuncData} (F : Fun K "is_joint" "is_joint" s_is_joint f fd) (hm : mg "is_joint" = some (.ref f)) (c_is_tuple_of : DCal P w K mg base 1 "is_tuple_of" (fun ds m Q => ∃ d n, ds = [d, .int n] ∧ ty d ∧ Q (.bl (mTupN d n)) m))(c_is_end : DCal P w K mg base 4 "is_end" (sp1 Ok ty mEnd)) : DCal P w K mg base 5 "is_joint" (sp1 Ok ty mJoint) := by
  refine dcal F hm (F.binds (ps := ["thing"]) fun _ _ _ _ _ _ us hl => match us, hl with | [_], _ => rfl) sc_is_joint (fun ds m Q h => ?_) (fun cdv A outer s H E hr => ⟨_, (dss_one (ds_ret (de_and (de_call c_is_tuple_of hr (by decide) (by rfl) (da_cons (de_var 0) (da_cons de_int da_nil))) (de_and (de_call c_is_end hr (by decide) (by rfl) (da_cons (de_ix (de_var 0) de_int) da_nil)) (de_one (de_call c_is_end hr (by decide) (by rfl) (da_cons (de_ix (de_var 0) de_int) da_nil))))))), fun ds m Q h => ?_⟩)
  · obtain ⟨d, rfl, _⟩ := h; rfl
  · obtain ⟨d, rfl, hd, hO, q⟩ := h
    dsimp only [dRet, dSeq, dNext, dIfS, dSet, dExpr, dAndV, dOrV, dOp, dUn, dArgs, dCons, dNil, dTup, dC, dB, dNot, dAnd, dOr, dIf, dCall, dAsg, dPar, dChain, dMeth, dM1, dSl, dPart, dNoPart, dFmt, gD]
    refine dVar_at rfl ⟨d, 2, rfl, hd, _, rfl, ?_⟩
    rcases tup2 d with ⟨a, b, rfl⟩ | ⟨hn, ne⟩
    · obtain ⟨ha, hb, _⟩ := hd
      refine iteT (dVar_at rfl ⟨a, rfl, a, rfl, ha, hO, _, rfl, ?_⟩)
      have en : mJoint (.tup [a, b]) = (mEnd a && mEnd b) := rfl
      rw [en] at q
      cases e1 : mEnd a with
      | true => rw [e1, Bool.true_and] at q; exact ifT rfl (dVar_at rfl ⟨b, rfl, b, rfl, hb, hO, q⟩)
      | false => rw [e1, Bool.false_and] at q; exact ifF rfl q
    · rw [mJoint_no ne] at q; exact ifF hn q

theorem c_is_gate {f : Addr} {fd : FuncData} (F : Fun K "is_gate" "is_gate" s_is_gate f fd) (hm : mg "is_gate" = some (.ref f)) (c_is_tuple_of : DCal P w K mg base 1 "is_tuple_of" (fun ds m Q => ∃ d n, ds = [d, .int n] ∧ ty d ∧ Q (.bl (mTupN d n)) m))(c_is_name : DCal P w K mg base 3 "is_name" (sp1 Ok ty mName))(c_is_end : DCal P w K mg base 4 "is_end" (sp1 Ok ty mEnd)) : DCal P w K mg base 5 "is_gate" (sp1 Ok ty mGate) := by
  refine dcal F hm (F.binds (ps := ["thing"]) fun _ _ _ _ _ _ us hl => match us, hl with | [_], _ => rfl) sc_is_gate (fun ds m Q h => ?_) (fun cdv A outer s H E hr => ⟨_, (dss_one (ds_ret (de_and (de_call c_is_tuple_of hr (by decide) (by rfl) (da_cons (de_var 0) (da_cons de_int da_nil))) (de_and (de_call c_is_name hr (by decide) (by rfl) (da_cons (de_ix (de_var 0) de_int) da_nil)) (de_one (de_call c_is_end hr (by decide) (by rfl) (da_cons (de_ix (de_var 0) de_int) da_nil))))))), fun ds m Q h => ?_⟩)
  · obtain ⟨d, rfl, _⟩ := h; rfl
  · obtain ⟨d, rfl, hd, hO, q⟩ := h
    dsimp only [dRet, dSeq, dNext, dIfS, dSet, dExpr, dAndV, dOrV, dOp, dUn, dArgs, dCons, dNil, dTup, dC, dB, dNot, dAnd, dOr, dIf, dCall, dAsg, dPar, dChain, dMeth, dM1, dSl, dPart, dNoPart, dFmt, gD]
    refine dVar_at rfl ⟨d, 2, rfl, hd, _, rfl, ?_⟩
    rcases tup2 d with ⟨a, b, rfl⟩ | ⟨hn, ne⟩
    · obtain ⟨ha, hb, _⟩ := hd
      refine iteT (dVar_at rfl ⟨a, rfl, a, rfl, ha, hO, _, rfl, ?_⟩)
      have en : mGate (.tup [a, b]) = (mName a && mEnd b) := rfl
      rw [en] at q
      cases e1 : mName a with
      | true => rw [e1, Bool.true_and] at q; exact ifT rfl (dVar_at rfl ⟨b, rfl, b, rfl, hb, hO, q⟩)
      | false => rw [e1, Bool.false_and] at q; exact ifF rfl q
    · rw [mGate_no ne] at q; exact ifF hn q

theorem c_is_overlap {f : Addr} {fd : FuncData} (F : Fun K "is_overlap" "is_overlap" s_is_overlap f fd) (hm : mg "is_overlap" = some (.ref f))  {a_step : Addr} (hm_step : mg "is_step" = some (.ref a_step)) (c_are_items_step : DCal P w K mg base 7 "are_items" (fun ds m Q => ∃ d, ds = [d, .ref a_step] ∧ ty d ∧ (∀ xs, d = .tup xs → ∀ x ∈ xs, ty x) ∧ Ok m ∧ Q (.bl (mAll mStep d)) m)) : DCal P w K mg base 8 "is_overlap" (sp1 Ok ty mOverlap) := by
  refine dcal F hm (F.binds (ps := ["thing"]) fun _ _ _ _ _ _ us hl => match us, hl with | [_], _ => rfl) sc_is_overlap (fun ds m Q h => ?_) (fun cdv A outer s H E hr => ⟨_, (dss_one (ds_ret (de_and (de_call c_are_items_step hr (by decide) (by rfl) (da_cons (de_var 0) (da_cons (de_globR (by rfl) hm_step (fun _ => .ref _)) da_nil))) (de_one (de_cmp dc_le (de_len (by rfl) T.len (da_cons (de_var 0) da_nil)) de_int))))), fun ds m Q h => ?_⟩)
  · obtain ⟨d, rfl, _⟩ := h; rfl
  · obtain ⟨d, rfl, hd, hO, q⟩ := h
    dsimp only [dRet, dSeq, dNext, dIfS, dSet, dExpr, dAndV, dOrV, dOp, dUn, dArgs, dCons, dNil, dTup, dC, dB, dNot, dAnd, dOr, dIf, dCall, dAsg, dPar, dChain, dMeth, dM1, dSl, dPart, dNoPart, dFmt, gD]
    refine dVar_at rfl ⟨d, rfl, hd, (fun xs e x hx => by subst e; exact tys_mem hd hx), hO, _, rfl, ?_⟩
    cases d with
    | tup xs =>
      have en : mOverlap (.tup xs) = (xs.all mStep && decide (xs.length ≤ 1)) := rfl
      rw [en] at q
      have ea : mAll mStep (.tup xs) = xs.all mStep := rfl
      rw [ea]
      cases e1 : xs.all mStep with
      | true =>
        rw [e1, Bool.true_and] at q
        refine ifT rfl (dVar_at rfl ⟨_, _, rfl, rfl, ?_⟩)
        have e2 : decide ((xs.length : Int) ≤ 1) = decide (xs.length ≤ 1) := by
          by_cases h : xs.length ≤ 1
          · rw [decide_eq_true h, decide_eq_true (by omega)]
          · rw [decide_eq_false h, decide_eq_false (by omega)]
        show Q (.bl (decide ((xs.length : Int) ≤ 1))) m
        rw [e2]; exact q
      | false => rw [e1, Bool.false_and] at q; exact ifF rfl q
    | _ => exact iteF q

theorem c_is_signal {f : Addr} {fd : FuncData} (F : Fun K "is_signal" "is_signal" s_is_signal f fd) (hm : mg "is_signal" = some (.ref f)) (c_is_tuple_of : DCal P w K mg base 1 "is_tuple_of" (fun ds m Q => ∃ d n, ds = [d, .int n] ∧ ty d ∧ Q (.bl (mTupN d n)) m))(c_is_gate : DCal P w K mg base 5 "is_gate" (sp1 Ok ty mGate))(c_is_overlap : DCal P w K mg base 8 "is_overlap" (sp1 Ok ty mOverlap)) : DCal P w K mg base 9 "is_signal" (sp1 Ok ty mSignal) := by
  refine dcal F hm (F.binds (ps := ["thing"]) fun _ _ _ _ _ _ us hl => match us, hl with | [_], _ => rfl) sc_is_signal (fun ds m Q h => ?_) (fun cdv A outer s H E hr => ⟨_, (dss_one (ds_ret (de_and (de_call c_is_tuple_of hr (by decide) (by rfl) (da_cons (de_var 0) (da_cons de_int da_nil))) (de_and (de_call c_is_gate hr (by decide) (by rfl) (da_cons (de_slice (de_var 0) dpo_none (dpo_some de_int)) da_nil)) (de_one (de_call c_is_overlap hr (by decide) (by rfl) (da_cons (de_ix (de_var 0) de_int) da_nil))))))), fun ds m Q h => ?_⟩)
  · obtain ⟨d, rfl, _⟩ := h; rfl
  · obtain ⟨d, rfl, hd, hO, q⟩ := h
    dsimp only [dRet, dSeq, dNext, dIfS, dSet, dExpr, dAndV, dOrV, dOp, dUn, dArgs, dCons, dNil, dTup, dC, dB, dNot, dAnd, dOr, dIf, dCall, dAsg, dPar, dChain, dMeth, dM1, dSl, dPart, dNoPart, dFmt, gD]
    refine dVar_at rfl ⟨d, 3, rfl, hd, _, rfl, ?_⟩
    rcases tup3 d with ⟨a, b, c, rfl⟩ | ⟨hn, ne⟩
    · obtain ⟨ha, hb, hc, _⟩ := hd
      refine iteT (dVar_at rfl ⟨_, rfl, ⟨(fun z => absurd z.2 (by show ¬ (2 : Nat) = 3; decide)), .tup [a, b], rfl, ⟨ha, hb, trivial⟩, hO, _, rfl, ?_⟩⟩)
      have en : mSignal (.tup [a, b, c]) = (mGate (.tup [a, b]) && mOverlap c) := rfl
      rw [en] at q
      cases e1 : mGate (.tup [a, b]) with
      | true => rw [e1, Bool.true_and] at q; exact ifT rfl (dVar_at rfl ⟨c, rfl, c, rfl, hc, hO, q⟩)
      | false => rw [e1, Bool.false_and] at q; exact ifF rfl q
    · rw [mSignal_no ne] at q; exact ifF hn q

theorem c_is_plan {f : Addr} {fd : FuncData} (F : Fun K "is_plan" "is_plan" s_is_plan f fd) (hm : mg "is_plan" = some (.ref f)) (c_is_tuple_of : DCal P w K mg base 1 "is_tuple_of" (fun ds m Q => ∃ d n, ds = [d, .int n] ∧ ty d ∧ Q (.bl (mTupN d n)) m)) {a_stretch : Addr} (hm_stretch : mg "is_stretch" = some (.ref a_stretch)) (c_are_items_stretch : DCal P w K mg base 6 "are_items" (fun ds m Q => ∃ d, ds = [d, .ref a_stretch] ∧ ty d ∧ (∀ xs, d = .tup xs → ∀ x ∈ xs, tyS x) ∧ Ok m ∧ Q (.bl (mAll mStretch d)) m)) {a_joint : Addr} (hm_joint : mg "is_joint" = some (.ref a_joint)) (c_are_items_joint : DCal P w K mg base 7 "are_items" (fun ds m Q => ∃ d, ds = [d, .ref a_joint] ∧ ty d ∧ (∀ xs, d = .tup xs → ∀ x ∈ xs, ty x) ∧ Ok m ∧ Q (.bl (mAll mJoint d)) m)) {a_gate : Addr} (hm_gate : mg "is_gate" = some (.ref a_gate)) (c_are_items_gate : DCal P w K mg base 7 "are_items" (fun ds m Q => ∃ d, ds = [d, .ref a_gate] ∧ ty d ∧ (∀ xs, d = .tup xs → ∀ x ∈ xs, ty x) ∧ Ok m ∧ Q (.bl (mAll mGate d)) m)) {a_signal : Addr} (hm_signal : mg "is_signal" = some (.ref a_signal)) (c_are_items_signal : DCal P w K mg base 11 "are_items" (fun ds m Q => ∃ d, ds = [d, .ref a_signal] ∧ ty d ∧ (∀ xs, d = .tup xs → ∀ x ∈ xs, ty x) ∧ Ok m ∧ Q (.bl (mAll mSignal d)) m)) : DCal P w K mg base 12 "is_plan" (sp1 Ok tyP mPlan) := by
  refine dcal F hm (F.binds (ps := ["thing"]) fun _ _ _ _ _ _ us hl => match us, hl with | [_], _ => rfl) sc_is_plan (fun ds m Q h => ?_) (fun cdv A outer s H E hr => ⟨_, (dss_cons (ds_if (dt_not (dt_val (de_call c_is_tuple_of hr (by decide) (by rfl) (da_cons (de_var 0) (da_cons de_int da_nil))))) (dss_one (ds_ret de_bl)) dss_nil)
      (dss_cons (ds_asg (de_var 0) (dg_tup rfl (dgs_cons (pg_name (i := 1) sc_is_plan.nd rfl (by first | exact Or.inl rfl | exact Or.inr rfl)) (dgs_cons (pg_name (i := 2) sc_is_plan.nd rfl (by first | exact Or.inl rfl | exact Or.inr rfl)) (dgs_cons (pg_name (i := 3) sc_is_plan.nd rfl (by first | exact Or.inl rfl | exact Or.inr rfl)) (dgs_cons (pg_name (i := 4) sc_is_plan.nd rfl (by first | exact Or.inl rfl | exact Or.inr rfl)) dgs_nil))))))
      (dss_cons (ds_if (dt_w (dw_or (dt_not (dt_val (de_call c_are_items_stretch hr (by decide) (by rfl) (da_cons (de_var 1) (da_cons (de_globR (by rfl) hm_stretch (fun _ => .ref _)) da_nil))))) (dw_or1 (dt_not (dt_val (de_call c_are_items_joint hr (by decide) (by rfl) (da_cons (de_var 2) (da_cons (de_globR (by rfl) hm_joint (fun _ => .ref _)) da_nil)))))))) (dss_one (ds_ret de_bl)) dss_nil)
      (dss_one (ds_ret (de_and (de_call c_are_items_gate hr (by decide) (by rfl) (da_cons (de_var 3) (da_cons (de_globR (by rfl) hm_gate (fun _ => .ref _)) da_nil))) (de_one (de_call c_are_items_signal hr (by decide) (by rfl) (da_cons (de_var 4) (da_cons (de_globR (by rfl) hm_signal (fun _ => .ref _)) da_nil)))))))))), fun ds m Q h => ?_⟩)
  · obtain ⟨d, rfl, _⟩ := h; rfl
  · obtain ⟨d, rfl, ⟨hd, hs⟩, hO, q⟩ := h
    dsimp only [dRet, dSeq, dNext, dIfS, dSet, dExpr, dAndV, dOrV, dOp, dUn, dArgs, dCons, dNil, dTup, dC, dB, dNot, dAnd, dOr, dIf, dCall, dAsg, dPar, dChain, dMeth, dM1, dSl, dPart, dNoPart, dFmt, gD]
    refine dVar_at rfl ⟨d, 4, rfl, hd, _, rfl, ?_⟩
    rcases tup4 d with ⟨a, b, c, e, rfl⟩ | ⟨hn, ne⟩
    · obtain ⟨ha, hb, hc, he, _⟩ := hd
      have hm : ∀ {x : D}, ty x → ∀ xs, x = .tup xs → ∀ y ∈ xs, ty y := fun h xs e y hy => by subst e; exact tys_mem h hy
      refine iteF (dVar_at rfl ⟨_, .inl rfl, rfl, ?_⟩)
      refine dVar_at rfl ⟨a, rfl, ha, (fun xs z y hy => ⟨hm ha xs z y hy, hs a b c e rfl xs z y hy⟩), hO, _, rfl, ?_⟩
      have en : mPlan (.tup [a, b, c, e]) = (mAll mStretch a && mAll mJoint b && (mAll mGate c && mAll mSignal e)) := rfl
      rw [en] at q
      cases e1 : mAll mStretch a with
      | false => rw [e1] at q; exact ifT rfl q
      | true =>
        rw [e1, Bool.true_and] at q
        refine ifF rfl (dVar_at rfl ⟨b, rfl, hb, hm hb, hO, _, rfl, ?_⟩)
        cases e2 : mAll mJoint b with
        | false => rw [e2] at q; exact ifT rfl q
        | true =>
          rw [e2, Bool.true_and] at q
          refine ifF rfl (dVar_at rfl ⟨c, rfl, hc, hm hc, hO, _, rfl, ?_⟩)
          cases e3 : mAll mGate c with
          | false => rw [e3] at q; exact ifF rfl q
          | true => rw [e3, Bool.true_and] at q; exact ifT rfl (dVar_at rfl ⟨e, rfl, he, hm he, hO, q⟩)
    · rw [mPlan_no ne] at q; exact ifT (by rw [hn]; rfl) q

end
end PR

namespace PR
open PySem PySem.Spec PyProof.Rows L2 GA GxR DL PL TM

section
variable {P : Program} {w : World} {K : PySem.W.Frag} {mg : Str → Option Value} {base : Heap} {tl td t8 t3 : Tok} {aK aO aE aP P1 P2 : Addr} (T : Txt K mg w tl td t8 t3 aK aO aE aP) (Ok : M → Prop) (hOk : ∀ a b : M, Ok a → b.gh = a.gh → Ok b)
include T hOk

theorem c_ways_of {f : Addr} {fd : FuncData} (F : Fun K "ways_of" "ways_of" s_ways_of f fd) (hm : mg "ways_of" = some (.ref f))  : DCal P w K mg base 1 "ways_of" spWays := by
  refine dcal F hm (F.binds (ps := ["stretch"]) fun _ _ _ _ _ _ us hl => match us, hl with | [_], _ => rfl) sc_ways_of (fun ds m Q h => ?_) (fun cdv A outer s H E hr => ⟨_, (dss_cons (ds_asg (de_var 0) (dg_tup rfl (dgs_cons (pg_name (i := 1) sc_ways_of.nd rfl (by first | exact Or.inl rfl | exact Or.inr rfl)) (dgs_cons (pg_name (i := 2) sc_ways_of.nd rfl (by first | exact Or.inl rfl | exact Or.inr rfl)) dgs_nil))))
      (dss_one (ds_ret (de_lc (own := [("start", 3), ("goal", 4)]) rfl sc_ways_of.nd (dpi_tup (de_wix T.w_PATHS (de_globR (by rfl) T.m_PATHS (fun _ => .ref _)) (de_var 2))) (blkOk_by (N := ["stretch", "name", "kind", "start", "goal"]) (sc := defScope s_ways_of) (by decide +kernel)) (fun _ _ _ _ _ => (dg_tup rfl (dgs_cons (pg_name (i := 3) sc_ways_of.nd rfl (by first | exact Or.inl rfl | exact Or.inr rfl)) (dgs_cons (pg_name (i := 4) sc_ways_of.nd rfl (by first | exact Or.inl rfl | exact Or.inr rfl)) dgs_nil)))) (fun _ _ _ _ _ => dpts_nil) (fun _ _ _ _ _ => (de_tup (da_cons (de_var 1) (da_cons (de_var 3) (da_cons (de_var 4) da_nil))))))))), fun ds m Q h => ?_⟩)
  · obtain ⟨n, k, rfl, _⟩ := h; rfl
  · obtain ⟨n, k, rfl, hk, q⟩ := h
    dsimp only [dRet, dSeq, dNext, dIfS, dSet, dExpr, dAsg, dPar, dPar3, gD, dOp, dUn, dArgs, dCons, dNil, dC, dB, dNot, dCall, dMeth, dMeth0, dIf, dLst, dTup, dSl, dNoPart, dPart, dM1, dOr, dAnd, dAndV, dOrV, dDGet, dSlA, dGet1]
    refine dVar_at rfl ⟨[.str n, .str k], .inl rfl, rfl, ?_⟩
    refine dLC_gen (I := fun _ => True) (xs := (waysK k).map wayK) (Rel := fun d o => ∃ a, d = wayK a ∧ True ∧ o = some (wayT n a)) trivial (fun _ _ _ _ => trivial) (iT_wk fun R hR => ?_) (slk (by rw [List.length_map]; have := waysK_len k; omega)) (fun d hd m' _ _ Ry Rn hy hn => ?_) (fun p m' ys hp hE _ hm ho => ?_)
    · dsimp only [dRet, dSeq, dNext, dIfS, dSet, dExpr, dAsg, dPar, dPar3, gD, dOp, dUn, dArgs, dCons, dNil, dC, dB, dNot, dCall, dMeth, dMeth0, dIf, dLst, dTup, dSl, dNoPart, dPart, dM1, dOr, dAnd, dAndV, dOrV, dDGet, dSlA, dGet1]
      exact dVar_at rfl ⟨k, _, rfl, rfl, pathsL_in hk, hR⟩
    · obtain ⟨a, _, rfl⟩ := List.mem_map.mp hd
      dsimp only [dRet, dSeq, dNext, dIfS, dSet, dExpr, dAsg, dPar, dPar3, gD, dOp, dUn, dArgs, dCons, dNil, dC, dB, dNot, dCall, dMeth, dMeth0, dIf, dLst, dTup, dSl, dNoPart, dPart, dM1, dOr, dAnd, dAndV, dOrV, dDGet, dSlA, dGet1]
      refine ⟨[.int a.1, .int a.2], .inr rfl, rfl, yesT ?_⟩
      exact dVar_at rfl (dVar_at rfl (dVar_at rfl ⟨slk (by simp), hy _ _ ⟨a, rfl, trivial, rfl⟩ (Ext.refl _)⟩))
    · have e := ho.mapOf (h := wayT n) fun a b e => by rw [wayK_inj e]
      exact q p m' hp hE (by rw [hm, e])

end
end PR

namespace PR
open PySem PySem.Spec PyProof.Rows L2 GA GxR DL PL TM

section
variable {P : Program} {w : World} {K : PySem.W.Frag} {mg : Str → Option Value} {base : Heap} {tl td t8 t3 : Tok} {aK aO aE aP P1 P2 : Addr} (T : Txt K mg w tl td t8 t3 aK aO aE aP) (Ok : M → Prop) (hOk : ∀ a b : M, Ok a → b.gh = a.gh → Ok b)
include T hOk

theorem c_kinds_of {f : Addr} {fd : FuncData} (F : Fun K "kinds_of" "kinds_of" s_kinds_of f fd) (hm : mg "kinds_of" = some (.ref f))  : DCal P w K mg base 1 "kinds_of" spKinds := by
  refine dcal F hm (F.binds (ps := ["plan"]) fun _ _ _ _ _ _ us hl => match us, hl with | [_], _ => rfl) sc_kinds_of (fun ds m Q h => ?_) (fun cdv A outer s H E hr => ⟨_, (dss_one (ds_ret (de_dc (own := [("name", 1), ("kind", 2)]) rfl sc_kinds_of.nd (dpi_tup (de_ix (de_var 0) de_int)) (blkOk_by (N := ["plan", "name", "kind"]) (sc := defScope s_kinds_of) (by decide +kernel)) (fun _ _ _ _ _ => (dg_tup rfl (dgs_cons (pg_name (i := 1) sc_kinds_of.nd rfl (by first | exact Or.inl rfl | exact Or.inr rfl)) (dgs_cons (pg_name (i := 2) sc_kinds_of.nd rfl (by first | exact Or.inl rfl | exact Or.inr rfl)) dgs_nil)))) (fun _ _ _ _ _ => dpts_nil) (fun _ _ _ _ _ => (de_var 1)) (fun _ _ _ _ _ => (de_var 2))))), fun ds m Q h => ?_⟩)
  · obtain ⟨p, rfl, _⟩ := h; rfl
  · obtain ⟨p, rfl, hp, q⟩ := h
    dsimp only [dRet, dSeq, dNext, dIfS, dSet, dExpr, dAsg, dPar, dPar3, gD, dOp, dUn, dArgs, dCons, dNil, dC, dB, dNot, dCall, dMeth, dMeth0, dIf, dLst, dTup, dSl, dNoPart, dPart, dM1, dOr, dAnd, dAndV, dOrV, dDGet, dSlA, dGet1]
    refine dDC_gen (xs := p.st.map strD) kfS vfS (iT_w fun R hR => ?_) (by rw [List.length_map]; have := hp.n1; omega) (fun d hd m' _ Ry Rn hy => ?_) (fun a m' ha hE hm => ?_)
    · dsimp only [dRet, dSeq, dNext, dIfS, dSet, dExpr, dAsg, dPar, dPar3, gD, dOp, dUn, dArgs, dCons, dNil, dC, dB, dNot, dCall, dMeth, dMeth0, dIf, dLst, dTup, dSl, dNoPart, dPart, dM1, dOr, dAnd, dAndV, dOrV, dDGet, dSlA, dGet1]
      exact dVar_at rfl (SeqD.ix (.inl rfl) rfl hR)
    · obtain ⟨s, _, rfl⟩ := List.mem_map.mp hd
      dsimp only [dRet, dSeq, dNext, dIfS, dSet, dExpr, dAsg, dPar, dPar3, gD, dOp, dUn, dArgs, dCons, dNil, dC, dB, dNot, dCall, dMeth, dMeth0, dIf, dLst, dTup, dSl, dNoPart, dPart, dM1, dOr, dAnd, dAndV, dOrV, dDGet, dSlA, dGet1]
      exact ⟨[.str s.1, .str s.2], .inl rfl, rfl, yesT (dVar_at rfl (dVar_at rfl hy))⟩
    · refine q a m' ha hE ?_
      rw [hm, List.foldl_map]; rfl

end
end PR

namespace PR
open PySem PySem.Spec PyProof.Rows L2 GA GxR DL PL TM

section
variable {P : Program} {w : World} {K : PySem.W.Frag} {mg : Str → Option Value} {base : Heap} {tl td t8 t3 : Tok} {aK aO aE aP P1 P2 : Addr} (T : Txt K mg w tl td t8 t3 aK aO aE aP) (Ok : M → Prop) (hOk : ∀ a b : M, Ok a → b.gh = a.gh → Ok b)
include T hOk

theorem c_partners_of {f : Addr} {fd : FuncData} (F : Fun K "partners_of" "partners_of" s_partners_of f fd) (hm : mg "partners_of" = some (.ref f))  : DCal P w K mg base 1 "partners_of" spParts := by
  refine dcal F hm (F.binds (ps := ["plan"]) fun _ _ _ _ _ _ us hl => match us, hl with | [_], _ => rfl) sc_partners_of (fun ds m Q h => ?_) (fun cdv A outer s H E hr => ⟨_, (dss_cons (ds_set (i := 1) sc_partners_of.nd rfl (by first | exact Or.inl rfl | exact Or.inr rfl) de_newT)
      (dss_cons (ds_for PassesOwn.never rfl (dpi_tup (de_ix (de_var 0) de_int)) (dg_tup rfl (dgs_cons (pg_name (i := 2) sc_partners_of.nd rfl (by first | exact Or.inl rfl | exact Or.inr rfl)) (dgs_cons (pg_name (i := 3) sc_partners_of.nd rfl (by first | exact Or.inl rfl | exact Or.inr rfl)) dgs_nil))) (dss_cons (ds_dput hr (de_var 1) (de_var 2) (de_var 3))
      (dss_one (ds_dput hr (de_var 1) (de_var 3) (de_var 2)))))
      (dss_one (ds_ret (de_var 1))))), fun ds m Q h => ?_⟩)
  · obtain ⟨p, rfl, _⟩ := h; rfl
  · obtain ⟨p, rfl, hp, q⟩ := h
    dsimp only [dRet, dSeq, dNext, dIfS, dSet, dExpr, dAsg, dPar, dPar3, gD, dOp, dUn, dArgs, dCons, dNil, dC, dB, dNot, dCall, dMeth, dMeth0, dIf, dLst, dTup, dSl, dNoPart, dPart, dM1, dOr, dAnd, dAndV, dOrV, dDGet, dSlA, dGet1]
    dsimp only [dRet, dSeq, dNext, dIfS, dSet, dExpr, dAsg, dPar, dPar3, gD, dOp, dUn, dArgs, dCons, dNil, dC, dB, dNot, dCall, dMeth, dMeth0, dIf, dLst, dTup, dSl, dNoPart, dPart, dM1, dOr, dAnd, dAndV, dOrV, dDGet, dSlA, dGet1, dNewT, dNewK, dFor, iT, dDPut, dDIn, dSet0S, dSet0T, dSAddS, dSAddT, dTru]
    intro a ha
    refine dVar_at rfl (SeqD.ix (.inl rfl) rfl ⟨p.jo.map joD, .inl rfl, fun i δ m' => ∃ d2 d3, δ = [some p.d, some (.ref a), d2, d3] ∧ Ext m m' ∧ m'.mu a = some (.dit (partKV (p.jo.take i))), ⟨_, _, rfl, Ext.new ha, M.set_same⟩, fun _ _ _ _ => trivial, ?_, ?_⟩)
    · rintro i d δ m' hd ⟨d2, d3, rfl, hE, hm⟩
      obtain ⟨j, hj, rfl⟩ := map_get hd
      have l1 := partKV_len (p.jo.take i)
      have l2 := putD_len (k := endK j.1) (v := endD j.2) (kvs := partKV (p.jo.take i))
      have l0 : (p.jo.take i).length ≤ 16 := by rw [List.length_take]; have := hp.n2; omega
      refine ⟨[endD j.1, endD j.2], .inl rfl, rfl, ?_⟩
      refine dVar_at rfl (dVar_at rfl (dVar_at rfl ⟨a, rfl, .inr ⟨_, endK j.1, hm, rfl, slt (by omega), ?_⟩⟩))
      refine dVar_at rfl (dVar_at rfl (dVar_at rfl ⟨a, rfl, .inr ⟨_, endK j.2, M.set_same, rfl, slt (by omega), ?_⟩⟩))
      refine ⟨_, _, rfl, (hE.set ha).set ha, ?_⟩
      rw [M.set_same, take_snoc hj, partKV_snoc]
    · rintro δ m' ⟨d2, d3, rfl, hE, hm⟩
      rw [List.length_map, List.take_length] at hm
      exact dVar_at rfl (q a m' ha hE hm)

end
end PR

namespace PR
open PySem PySem.Spec PyProof.Rows L2 GA GxR DL PL TM

section
variable {P : Program} {w : World} {K : PySem.W.Frag} {mg : Str → Option Value} {base : Heap} {tl td t8 t3 : Tok} {aK aO aE aP P1 P2 : Addr} (T : Txt K mg w tl td t8 t3 aK aO aE aP) (Ok : M → Prop) (hOk : ∀ a b : M, Ok a → b.gh = a.gh → Ok b)
include T hOk

theorem c_end_exists {f : Addr} {fd : FuncData} (F : Fun K "end_exists" "end_exists" s_end_exists f fd) (hm : mg "end_exists" = some (.ref f))  : DCal P w K mg base 1 "end_exists" spExists := by
  refine dcal F hm (F.binds (ps := ["kinds", "end"]) fun _ _ _ _ _ _ us hl => match us, hl with | [_, _], _ => rfl) sc_end_exists (fun ds m Q h => ?_) (fun cdv A outer s H E hr => ⟨_, (dss_cons (ds_asg (de_var 1) (dg_tup rfl (dgs_cons (pg_name (i := 2) sc_end_exists.nd rfl (by first | exact Or.inl rfl | exact Or.inr rfl)) (dgs_cons (pg_name (i := 3) sc_end_exists.nd rfl (by first | exact Or.inl rfl | exact Or.inr rfl)) dgs_nil))))
      (dss_one (ds_ret (de_and (de_din hr (de_var 2) (de_var 0)) (de_one (de_cmp dc_lt (de_var 3) (de_wix T.w_ENDS (de_globR (by rfl) T.m_ENDS (fun _ => .ref _)) (de_dget hr (de_var 0) (de_var 2))))))))), fun ds m Q h => ?_⟩)
  · obtain ⟨a, st, e, rfl, _⟩ := h; rfl
  · obtain ⟨a, st, e, rfl, hm, hk, q⟩ := h
    dsimp only [dRet, dSeq, dNext, dIfS, dSet, dExpr, dAsg, dPar, dPar3, gD, dOp, dUn, dArgs, dCons, dNil, dC, dB, dNot, dCall, dMeth, dMeth0, dIf, dLst, dTup, dSl, dNoPart, dPart, dM1, dOr, dAnd, dAndV, dOrV, dDGet, dSlA, dGet1]
    dsimp only [dDIn, dDGet]
    refine dVar_at rfl ⟨[.str e.1, .int e.2], .inl rfl, rfl, ?_⟩
    have g := getK hm e.1
    refine dVar_at rfl (dVar_at rfl ⟨a, _, rfl, g, _, rfl, ?_⟩)
    unfold endEx at q
    cases hka : kindAt st e.1 with
    | none => rw [hka] at q; exact ifF rfl q
    | some k =>
      rw [hka] at q g
      exact ifT rfl (dVar_at rfl (dVar_at rfl (dVar_at rfl ⟨a, _, rfl, g, k, _, rfl, rfl, endsL_in (hk _ (kindAt_ok hka)), bI q⟩)))

end
end PR

namespace PR
open PySem PySem.Spec PyProof.Rows L2 GA GxR DL PL TM

section
variable {P : Program} {w : World} {K : PySem.W.Frag} {mg : Str → Option Value} {base : Heap} {tl td t8 t3 : Tok} {aK aO aE aP P1 P2 : Addr} (T : Txt K mg w tl td t8 t3 aK aO aE aP) (Ok : M → Prop) (hOk : ∀ a b : M, Ok a → b.gh = a.gh → Ok b)
include T hOk

theorem c_repeated_name {f : Addr} {fd : FuncData} (F : Fun K "repeated_name" "repeated_name" s_repeated_name f fd) (hm : mg "repeated_name" = some (.ref f))  : DCal P w K mg base 1 "repeated_name" (spPl fun p => optS (dupGo [] p.nms)) := by
  refine dcal F hm (F.binds (ps := ["plan"]) fun _ _ _ _ _ _ us hl => match us, hl with | [_], _ => rfl) sc_repeated_name (fun ds m Q h => ?_) (fun cdv A outer s H E hr => ⟨_, (dss_cons (ds_asg (de_var 0) (dg_tup rfl (dgs_cons (pg_name (i := 3) sc_repeated_name.nd rfl (by first | exact Or.inl rfl | exact Or.inr rfl)) (dgs_cons (pg_name (i := 4) sc_repeated_name.nd rfl (by first | exact Or.inl rfl | exact Or.inr rfl)) (dgs_cons (pg_name (i := 5) sc_repeated_name.nd rfl (by first | exact Or.inl rfl | exact Or.inr rfl)) (dgs_cons (pg_name (i := 6) sc_repeated_name.nd rfl (by first | exact Or.inl rfl | exact Or.inr rfl)) dgs_nil))))))
      (dss_cons (ds_set (i := 1) sc_repeated_name.nd rfl (by first | exact Or.inl rfl | exact Or.inr rfl) (de_set0S (by rfl) T.set))
      (dss_cons (ds_for PassesOwn.never rfl (dpi_tup (de_addA (de_addA (de_var 3) (de_var 5)) (de_var 6))) (dg_name (i := 2) sc_repeated_name.nd rfl (by first | exact Or.inl rfl | exact Or.inr rfl)) (dss_cons (ds_if (dt_cmp dc_inSS (de_ix (de_var 2) de_int) (de_var 1)) (dss_one (ds_ret (de_ix (de_var 2) de_int))) dss_nil)
      (dss_one (ds_expr (de_saddS (de_var 1) (de_ix (de_var 2) de_int))))))
      (dss_one (ds_ret de_non))))), fun ds m Q h => ?_⟩)
  · obtain ⟨p, rfl, _⟩ := h; rfl
  · obtain ⟨p, rfl, hp, q⟩ := h
    have b1 := hp.n1; have b2 := hp.n2; have b3 := hp.n3; have b4 := hp.n4
    dsimp only [dRet, dSeq, dNext, dIfS, dSet, dExpr, dAsg, dPar, dPar3, gD, dOp, dUn, dArgs, dCons, dNil, dC, dB, dNot, dCall, dMeth, dMeth0, dIf, dLst, dTup, dSl, dNoPart, dPart, dM1, dOr, dAnd, dAndV, dOrV, dDGet, dSlA, dGet1]
    dsimp only [dRet, dSeq, dNext, dIfS, dSet, dExpr, dAsg, dPar, dPar3, gD, dOp, dUn, dArgs, dCons, dNil, dC, dB, dNot, dCall, dMeth, dMeth0, dIf, dLst, dTup, dSl, dNoPart, dPart, dM1, dOr, dAnd, dAndV, dOrV, dDGet, dSlA, dGet1, dNewT, dNewK, dFor, iT, dDPut, dDIn, dSet0S, dSet0T, dSAddS, dSAddT, dTru]
    dsimp only at q
    refine dVar_at rfl ⟨_, .inl rfl, rfl, fun a m1 ha ⟨o, e1⟩ hs => ?_⟩
    refine dVar_at rfl (dVar_at rfl ⟨slk (by simp only [List.length_map]; omega), dVar_at rfl ⟨slk (by simp only [List.length_map, List.length_append]; omega), (allI p).map nmD, .inl (by rw [allI_d]), fun i δ m' => ∃ ks d2, δ = [some p.d, some (.ref a), d2, some (.tup (p.st.map strD)), some (.tup (p.jo.map joD)), some (.tup (p.ga.map gaD)), some (.tup (p.si.map siD))] ∧ Ext m m' ∧ SetS P w m' a (ks.map Sum.inr) ∧ ks.length ≤ i ∧ dupGo ks (p.nms.drop i) = dupGo [] p.nms, ?_, fun _ _ _ _ => trivial, ?_, ?_⟩⟩)
    · exact ⟨[], _, rfl, by rw [e1]; exact Ext.new ha, hs, Nat.le_refl _, rfl⟩
    · rintro i d δ m' hd ⟨ks, d2, rfl, hE, hS, hl, hR⟩
      obtain ⟨z, hz, rfl⟩ := map_get hd
      have hi : i < (allI p).length := (List.getElem?_eq_some_iff.mp hz).1
      have hal : (allI p).length ≤ 26 := by rw [← List.length_map (f := fun z : Str × List D => z.1), allI_1]; unfold Pln.nms; simp only [List.length_append, List.length_map]; omega
      have hn : p.nms.drop i = z.1 :: p.nms.drop (i + 1) := by rw [← allI_1]; exact drop_map hz
      rw [hn] at hR
      refine dVar_at rfl (nm_ix0 (dVar_at rfl ⟨a, _, .inr z.1, rfl, rfl, hS, _, rfl, iff_T (fun hc => ?_) fun hc => ?_⟩))
      · have hc : z.1 ∈ ks := mem_inr hc
        refine dVar_at rfl (nm_ix0 ?_)
        rw [dupGo_hit hc] at hR
        have := q m' hE
        rw [← hR] at this; exact this
      · have hc : z.1 ∉ ks := fun y => by rw [inr_mem y] at hc; cases hc
        rw [dupGo_miss hc] at hR
        exact dVar_at rfl ⟨a, _, rfl, hS, dVar_at rfl (nm_ix0 ⟨_, .inr z.1, rfl, hS, by rw [List.length_map]; omega, fun m2 ⟨o2, e2⟩ hS2 => ⟨z.1 :: ks, _, rfl, by rw [e2]; exact hE.set ha, hS2, by rw [List.length_cons]; omega, hR⟩⟩)⟩
    · rintro δ m' ⟨ks, d2, rfl, hE, hS, hl, hR⟩
      have e : p.nms.drop ((allI p).map nmD).length = [] := by
        rw [List.length_map, ← List.length_map (f := fun z : Str × List D => z.1), allI_1, List.drop_length]
      rw [e] at hR
      have := q m' hE
      rw [← hR] at this; exact this

end
end PR

namespace PR
open PySem PySem.Spec PyProof.Rows L2 GA GxR DL PL TM

section
variable {P : Program} {w : World} {K : PySem.W.Frag} {mg : Str → Option Value} {base : Heap} {tl td t8 t3 : Tok} {aK aO aE aP P1 P2 : Addr} (T : Txt K mg w tl td t8 t3 aK aO aE aP) (Ok : M → Prop) (hOk : ∀ a b : M, Ok a → b.gh = a.gh → Ok b)
include T hOk

theorem c_missing_end {f : Addr} {fd : FuncData} (F : Fun K "missing_end" "missing_end" s_missing_end f fd) (hm : mg "missing_end" = some (.ref f)) (c_kinds_of : DCal P w K mg base 1 "kinds_of" spKinds) (c_end_exists : DCal P w K mg base 1 "end_exists" spExists) : DCal P w K mg base 2 "missing_end" (spPl fun p => optS (missEnd p)) := by
  refine dcal F hm (F.binds (ps := ["plan"]) fun _ _ _ _ _ _ us hl => match us, hl with | [_], _ => rfl) sc_missing_end (fun ds m Q h => ?_) (fun cdv A outer s H E hr => ⟨_, (dss_cons (ds_asg (de_var 0) (dg_tup rfl (dgs_cons (pg_name (i := 3) sc_missing_end.nd rfl (by first | exact Or.inl rfl | exact Or.inr rfl)) (dgs_cons (pg_name (i := 4) sc_missing_end.nd rfl (by first | exact Or.inl rfl | exact Or.inr rfl)) (dgs_cons (pg_name (i := 5) sc_missing_end.nd rfl (by first | exact Or.inl rfl | exact Or.inr rfl)) (dgs_cons (pg_name (i := 6) sc_missing_end.nd rfl (by first | exact Or.inl rfl | exact Or.inr rfl)) dgs_nil))))))
      (dss_cons (ds_set (i := 1) sc_missing_end.nd rfl (by first | exact Or.inl rfl | exact Or.inr rfl) (de_call c_kinds_of hr (by decide) (by rfl) (da_cons (de_var 0) da_nil)))
      (dss_cons (ds_for PassesOwn.never rfl (dpi_tup (de_var 4)) (dg_tup rfl (dgs_cons (pg_name (i := 7) sc_missing_end.nd rfl (by first | exact Or.inl rfl | exact Or.inr rfl)) (dgs_cons (pg_name (i := 8) sc_missing_end.nd rfl (by first | exact Or.inl rfl | exact Or.inr rfl)) dgs_nil))) (dss_one (ds_if (dt_w (dw_or (dt_not (dt_val (de_call c_end_exists hr (by decide) (by rfl) (da_cons (de_var 1) (da_cons (de_var 7) da_nil))))) (dw_or1 (dt_not (dt_val (de_call c_end_exists hr (by decide) (by rfl) (da_cons (de_var 1) (da_cons (de_var 8) da_nil)))))))) (dss_one (ds_ret (de_ix (de_var 7) de_int))) dss_nil)))
      (dss_cons (ds_for PassesOwn.never rfl (dpi_tup (de_addA (de_var 5) (de_var 6))) (dg_name (i := 2) sc_missing_end.nd rfl (by first | exact Or.inl rfl | exact Or.inr rfl)) (dss_one (ds_if (dt_not (dt_val (de_call c_end_exists hr (by decide) (by rfl) (da_cons (de_var 1) (da_cons (de_ix (de_var 2) de_int) da_nil))))) (dss_one (ds_ret (de_ix (de_var 2) de_int))) dss_nil)))
      (dss_one (ds_ret de_non)))))), fun ds m Q h => ?_⟩)
  · obtain ⟨p, rfl, _⟩ := h; rfl
  · obtain ⟨p, rfl, hp, q⟩ := h
    have b1 := hp.n1; have b2 := hp.n2; have b3 := hp.n3; have b4 := hp.n4
    have hks : ∀ s ∈ p.st, kindS s.2 = true := fun s hs => (hp.st s hs).2
    dsimp only [dRet, dSeq, dNext, dIfS, dSet, dExpr, dAsg, dPar, dPar3, gD, dOp, dUn, dArgs, dCons, dNil, dC, dB, dNot, dCall, dMeth, dMeth0, dIf, dLst, dTup, dSl, dNoPart, dPart, dM1, dOr, dAnd, dAndV, dOrV, dDGet, dSlA, dGet1]
    dsimp only [dRet, dSeq, dNext, dIfS, dSet, dExpr, dAsg, dPar, dPar3, gD, dOp, dUn, dArgs, dCons, dNil, dC, dB, dNot, dCall, dMeth, dMeth0, dIf, dLst, dTup, dSl, dNoPart, dPart, dM1, dOr, dAnd, dAndV, dOrV, dDGet, dSlA, dGet1, dNewT, dNewK, dFor, iT, dDPut, dDIn, dSet0S, dSet0T, dSAddS, dSAddT, dTru]
    dsimp only at q
    refine dVar_at rfl ⟨_, .inl rfl, rfl, dVar_at rfl ⟨p, rfl, hp, fun a m1 ha hE1 hm1 => ?_⟩⟩
    refine dVar_at rfl ⟨p.jo.map joD, .inl rfl, fun i δ m' => m' = m1 ∧ (∃ d2 d7 d8, δ = [some p.d, some (.ref a), d2, some (.tup (p.st.map strD)), some (.tup (p.jo.map joD)), some (.tup (p.ga.map gaD)), some (.tup (p.si.map siD)), d7, d8]) ∧ (p.jo.drop i).find? (fun j => !endEx p.st j.1 || !endEx p.st j.2) = p.jo.find? (fun j => !endEx p.st j.1 || !endEx p.st j.2), ⟨rfl, ⟨_, _, _, rfl⟩, rfl⟩, fun _ _ _ _ => trivial, ?_, ?_⟩
    · rintro i d δ m' hd ⟨rfl, ⟨d2, d7, d8, rfl⟩, hR⟩
      obtain ⟨j, hj, rfl⟩ := map_get hd
      rw [drop_get hj, List.find?_cons] at hR
      refine ⟨[endD j.1, endD j.2], .inl rfl, rfl, ?_⟩
      have stop : (!endEx p.st j.1 || !endEx p.st j.2) = true → Q (.str j.1.1) m' := fun hc => by
        rw [hc] at hR
        have := q m' hE1
        unfold missEnd at this
        rw [← hR] at this; exact this
      refine dVar_at rfl (dVar_at rfl ⟨a, p.st, j.1, rfl, hm1, hks, _, rfl, ?_⟩)
      cases h1 : endEx p.st j.1 with
      | false => exact ifT rfl (ifT rfl (dVar_at rfl (endD_ix0 (stop (by rw [h1]; rfl)))))
      | true =>
        refine ifF rfl (dVar_at rfl (dVar_at rfl ⟨a, p.st, j.2, rfl, hm1, hks, _, rfl, ?_⟩))
        cases h2 : endEx p.st j.2 with
        | false => exact ifT rfl (dVar_at rfl (endD_ix0 (stop (by rw [h2, Bool.or_comm]; rfl))))
        | true =>
          refine ifF rfl ⟨rfl, ⟨_, _, _, rfl⟩, ?_⟩
          rw [h1, h2] at hR; exact hR
    · rintro δ m' ⟨rfl, ⟨d2, d7, d8, rfl⟩, hR⟩
      rw [List.length_map, List.drop_length] at hR
      refine dVar_at rfl (dVar_at rfl ⟨slk (by simp only [List.length_map]; omega), (gaI p.ga ++ siI p.si).map itD, .inl (by rw [List.map_append, gaI_d, siI_d]), fun i δ m'' => m'' = m' ∧ (∃ d2 d7 d8, δ = [some p.d, some (.ref a), d2, some (.tup (p.st.map strD)), some (.tup (p.jo.map joD)), some (.tup (p.ga.map gaD)), some (.tup (p.si.map siD)), d7, d8]) ∧ (p.gs.drop i).find? (fun g => !endEx p.st g.2) = p.gs.find? (fun g => !endEx p.st g.2), ⟨rfl, ⟨_, _, _, rfl⟩, rfl⟩, fun _ _ _ _ => trivial, ?_, ?_⟩)
      · rintro i d δ m'' hd ⟨rfl, ⟨d2, d7, d8, rfl⟩, hR2⟩
        obtain ⟨z, hz, rfl⟩ := map_get hd
        have hdr : p.gs.drop i = z.1 :: p.gs.drop (i + 1) := by rw [← its_1 p]; exact drop_map hz
        rw [hdr, List.find?_cons] at hR2
        refine dVar_at rfl (dVar_at rfl (it_ix1 ⟨a, p.st, z.1.2, rfl, hm1, hks, _, rfl, ?_⟩))
        cases h1 : endEx p.st z.1.2 with
        | false =>
          refine ifT rfl (dVar_at rfl (it_ix0 ?_))
          rw [h1] at hR2
          have := q m'' hE1
          unfold missEnd at this
          rw [← hR, ← hR2] at this; exact this
        | true => rw [h1] at hR2; exact ifF rfl ⟨rfl, ⟨_, _, _, rfl⟩, hR2⟩
      · rintro δ m'' ⟨rfl, ⟨d2, d7, d8, rfl⟩, hR2⟩
        have e : p.gs.drop ((gaI p.ga ++ siI p.si).map itD).length = [] := by
          rw [List.length_map, ← List.length_map (f := fun z : (Str × PL.End) × List D => z.1), its_1, List.drop_length]
        rw [e] at hR2
        have := q m'' hE1
        unfold missEnd at this
        rw [← hR, ← hR2] at this; exact this

end
end PR

namespace PR
open PySem PySem.Spec PyProof.Rows L2 GA GxR DL PL TM

section
variable {P : Program} {w : World} {K : PySem.W.Frag} {mg : Str → Option Value} {base : Heap} {tl td t8 t3 : Tok} {aK aO aE aP P1 P2 : Addr} (T : Txt K mg w tl td t8 t3 aK aO aE aP) (Ok : M → Prop) (hOk : ∀ a b : M, Ok a → b.gh = a.gh → Ok b)
include T hOk

theorem c_wrong_joint {f : Addr} {fd : FuncData} (F : Fun K "wrong_joint" "wrong_joint" s_wrong_joint f fd) (hm : mg "wrong_joint" = some (.ref f))  : DCal P w K mg base 1 "wrong_joint" (spPl fun p => optS (wjGo [] p.jo)) := by
  refine dcal F hm (F.binds (ps := ["plan"]) fun _ _ _ _ _ _ us hl => match us, hl with | [_], _ => rfl) sc_wrong_joint (fun ds m Q h => ?_) (fun cdv A outer s H E hr => ⟨_, (dss_cons (ds_set (i := 1) sc_wrong_joint.nd rfl (by first | exact Or.inl rfl | exact Or.inr rfl) (de_set0T (by rfl) T.set))
      (dss_cons (ds_for PassesOwn.never rfl (dpi_tup (de_ix (de_var 0) de_int)) (dg_tup rfl (dgs_cons (pg_name (i := 2) sc_wrong_joint.nd rfl (by first | exact Or.inl rfl | exact Or.inr rfl)) (dgs_cons (pg_name (i := 3) sc_wrong_joint.nd rfl (by first | exact Or.inl rfl | exact Or.inr rfl)) dgs_nil))) (dss_cons (ds_if (dt_w (dw_or (dt_cmp (dc_eq hr) (de_ix (de_var 2) de_int) (de_ix (de_var 3) de_int)) (dw_or (dt_cmp (dc_inT hr) (de_var 2) (de_var 1)) (dw_or1 (dt_cmp (dc_inT hr) (de_var 3) (de_var 1)))))) (dss_one (ds_ret (de_ix (de_var 2) de_int))) dss_nil)
      (dss_cons (ds_expr (de_saddT hr (de_var 1) (de_var 2)))
      (dss_one (ds_expr (de_saddT hr (de_var 1) (de_var 3)))))))
      (dss_one (ds_ret de_non)))), fun ds m Q h => ?_⟩)
  · obtain ⟨p, rfl, _⟩ := h; rfl
  · obtain ⟨p, rfl, hp, q⟩ := h
    have b2 := hp.n2
    dsimp only [dRet, dSeq, dNext, dIfS, dSet, dExpr, dAsg, dPar, dPar3, gD, dOp, dUn, dArgs, dCons, dNil, dC, dB, dNot, dCall, dMeth, dMeth0, dIf, dLst, dTup, dSl, dNoPart, dPart, dM1, dOr, dAnd, dAndV, dOrV, dDGet, dSlA, dGet1]
    dsimp only [dRet, dSeq, dNext, dIfS, dSet, dExpr, dAsg, dPar, dPar3, gD, dOp, dUn, dArgs, dCons, dNil, dC, dB, dNot, dCall, dMeth, dMeth0, dIf, dLst, dTup, dSl, dNoPart, dPart, dM1, dOr, dAnd, dAndV, dOrV, dDGet, dSlA, dGet1, dNewT, dNewK, dFor, iT, dDPut, dDIn, dSet0S, dSet0T, dSAddS, dSAddT, dTru]
    dsimp only at q
    intro a m1 ha ⟨o, e1⟩ hs
    refine dVar_at rfl (SeqD.ix (.inl rfl) rfl ⟨p.jo.map joD, .inl rfl, fun i δ m' => ∃ (ks : List PL.End) (d2 d3 : Option D), δ = [some p.d, some (.ref a), d2, d3] ∧ Ext m m' ∧ SetT P w m' a (ks.map endK) ∧ ks.length ≤ 2 * i ∧ wjGo ks (p.jo.drop i) = wjGo [] p.jo, ⟨[], _, _, rfl, by rw [e1]; exact Ext.new ha, hs, Nat.le_refl _, rfl⟩, fun _ _ _ _ => trivial, ?_, ?_⟩)
    · rintro i d δ m' hd ⟨ks, d2, d3, rfl, hE, hS, hl, hR⟩
      obtain ⟨j, hj, rfl⟩ := map_get hd
      have hi : i < p.jo.length := (List.getElem?_eq_some_iff.mp hj).1
      rw [drop_get hj] at hR
      have stop : (j.1.1 = j.2.1 ∨ j.1 ∈ ks ∨ j.2 ∈ ks) → Q (.str j.1.1) m' := fun hc => by
        rw [wjGo_hit hc] at hR
        have := q m' hE
        rw [← hR] at this; exact this
      refine ⟨[endD j.1, endD j.2], .inl rfl, rfl, ?_⟩
      refine dVar_at rfl (endD_ix0 (dVar_at rfl (endD_ix0 (eqT ⟨_, rfl, iff_T (fun hc => ?_) fun h1 => ?_⟩))))
      · exact ifT rfl (dVar_at rfl (endD_ix0 (stop (.inl (by simpa using hc)))))
      · refine dVar_at rfl (dVar_at rfl ⟨a, _, endK j.1, rfl, rfl, hS, _, rfl, iff_T (fun hc => ?_) fun h2 => ?_⟩)
        · exact ifT rfl (dVar_at rfl (endD_ix0 (stop (.inr (.inl (mem_endK hc))))))
        · refine dVar_at rfl (dVar_at rfl ⟨a, _, endK j.2, rfl, rfl, hS, _, rfl, iff_T (fun hc => ?_) fun h3 => ?_⟩)
          · exact dVar_at rfl (endD_ix0 (stop (.inr (.inr (mem_endK hc)))))
          · have hno : ¬ (j.1.1 = j.2.1 ∨ j.1 ∈ ks ∨ j.2 ∈ ks) := by
              rintro (z | z | z)
              · simp [z] at h1
              · rw [endK_mem z] at h2; cases h2
              · rw [endK_mem z] at h3; cases h3
            rw [wjGo_miss hno] at hR
            refine dVar_at rfl ⟨a, _, rfl, hS, dVar_at rfl ⟨_, endK j.1, rfl, hS, by rw [List.length_map]; omega, fun m2 ⟨o2, e2⟩ hS2 => ?_⟩⟩
            refine dVar_at rfl ⟨a, _, rfl, hS2, dVar_at rfl ⟨_, endK j.2, rfl, hS2, by simp only [List.length_cons, List.length_map]; omega, fun m3 ⟨o3, e3⟩ hS3 => ?_⟩⟩
            exact ⟨j.2 :: j.1 :: ks, _, _, rfl, by rw [e3, e2]; exact (hE.set ha).set ha, hS3, by simp only [List.length_cons]; omega, hR⟩
    · rintro δ m' ⟨ks, d2, d3, rfl, hE, hS, hl, hR⟩
      rw [List.length_map, List.drop_length] at hR
      have := q m' hE
      rw [← hR] at this; exact this

end
end PR

namespace PR
open PySem PySem.Spec PyProof.Rows L2 GA GxR DL PL TM

section
variable {P : Program} {w : World} {K : PySem.W.Frag} {mg : Str → Option Value} {base : Heap} {tl td t8 t3 : Tok} {aK aO aE aP P1 P2 : Addr} (T : Txt K mg w tl td t8 t3 aK aO aE aP) (Ok : M → Prop) (hOk : ∀ a b : M, Ok a → b.gh = a.gh → Ok b)
include T hOk

theorem c_wrong_place {f : Addr} {fd : FuncData} (F : Fun K "wrong_place" "wrong_place" s_wrong_place f fd) (hm : mg "wrong_place" = some (.ref f)) (c_kinds_of : DCal P w K mg base 1 "kinds_of" spKinds) (c_partners_of : DCal P w K mg base 1 "partners_of" spParts) : DCal P w K mg base 2 "wrong_place" spPlace := by
  refine dcal F hm (F.binds (ps := ["plan", "items", "at_joint"]) fun _ _ _ _ _ _ us hl => match us, hl with | [_, _, _], _ => rfl) sc_wrong_place (fun ds m Q h => ?_) (fun cdv A outer s H E hr => ⟨_, (dss_cons (ds_set (i := 3) sc_wrong_place.nd rfl (by first | exact Or.inl rfl | exact Or.inr rfl) (de_call c_kinds_of hr (by decide) (by rfl) (da_cons (de_var 0) da_nil)))
      (dss_cons (ds_set (i := 4) sc_wrong_place.nd rfl (by first | exact Or.inl rfl | exact Or.inr rfl) (de_call c_partners_of hr (by decide) (by rfl) (da_cons (de_var 0) da_nil)))
      (dss_cons (ds_set (i := 5) sc_wrong_place.nd rfl (by first | exact Or.inl rfl | exact Or.inr rfl) (de_set0T (by rfl) T.set))
      (dss_cons (ds_for PassesOwn.never rfl (dpi_tup (de_var 1)) (dg_name (i := 6) sc_wrong_place.nd rfl (by first | exact Or.inl rfl | exact Or.inr rfl)) (dss_cons (ds_asg (de_sliceA (de_var 6) dpo_none (dpo_some de_int)) (dg_tup rfl (dgs_cons (pg_name (i := 7) sc_wrong_place.nd rfl (by first | exact Or.inl rfl | exact Or.inr rfl)) (dgs_cons (pg_name (i := 8) sc_wrong_place.nd rfl (by first | exact Or.inl rfl | exact Or.inr rfl)) dgs_nil))))
      (dss_cons (ds_if (dt_w (dw_or (dt_cmp (dc_ne hr) (de_din hr (de_var 8) (de_var 4)) (de_var 2)) (dw_or (dt_cmp (dc_inT hr) (de_var 8) (de_var 5)) (dw_or1 (dt_cmp (dc_ne hr) (de_get1 hr (de_var 3) (de_ix (de_var 8) de_int)) de_str))))) (dss_one (ds_ret (de_var 7))) dss_nil)
      (dss_one (ds_expr (de_saddT hr (de_var 5) (de_var 8)))))))
      (dss_one (ds_ret de_non)))))), fun ds m Q h => ?_⟩)
  · obtain ⟨p, b, l, rfl, _⟩ := h; rfl
  · obtain ⟨p, b, l, rfl, hp, hz, hln, q⟩ := h
    dsimp only [dRet, dSeq, dNext, dIfS, dSet, dExpr, dAsg, dPar, dPar3, gD, dOp, dUn, dArgs, dCons, dNil, dC, dB, dNot, dCall, dMeth, dMeth0, dIf, dLst, dTup, dSl, dNoPart, dPart, dM1, dOr, dAnd, dAndV, dOrV, dDGet, dSlA, dGet1]
    dsimp only [dRet, dSeq, dNext, dIfS, dSet, dExpr, dAsg, dPar, dPar3, gD, dOp, dUn, dArgs, dCons, dNil, dC, dB, dNot, dCall, dMeth, dMeth0, dIf, dLst, dTup, dSl, dNoPart, dPart, dM1, dOr, dAnd, dAndV, dOrV, dDGet, dSlA, dGet1, dNewT, dNewK, dFor, iT, dDPut, dDIn, dSet0S, dSet0T, dSAddS, dSAddT, dTru]
    refine dVar_at rfl ⟨p, rfl, hp, fun a m1 ha hE1 k1 => dVar_at rfl ⟨p, rfl, hp, fun c m2 hc hE2 k2 => fun s m3 hs0 ⟨o, e3⟩ hS0 => ?_⟩⟩
    have hE3 : Ext m2 m3 := by rw [e3]; exact Ext.new hs0
    have hs : m.mu s = none := by
      cases z : m.mu s with
      | none => rfl
      | some o => rw [(hE1.trans hE2).old _ _ z] at hs0; cases hs0
    have hm1 := (hE2.trans hE3).old _ _ k1
    have hm2 := hE3.old _ _ k2
    have hE := (hE1.trans hE2).trans hE3
    have as' : a ≠ s := fun z => by subst z; rw [hE2.old _ _ k1] at hs0; cases hs0
    have cs' : c ≠ s := fun z => by subst z; rw [k2] at hs0; cases hs0
    clear hE1 hE2 hE3 hs0
    refine dVar_at rfl ⟨l.map itD, .inl rfl, fun i δ m' => ∃ (ks : List PL.End) (d6 d7 d8 : Option D), δ = [some p.d, some (.tup (l.map itD)), some (.bl b), some (.ref a), some (.ref c), some (.ref s), d6, d7, d8] ∧ Ext m m' ∧ m'.mu a = some (.dic (kindsKV p.st)) ∧ m'.mu c = some (.dit (partKV p.jo)) ∧ SetT P w m' s (ks.map endK) ∧ ks.length ≤ i ∧ wpGo p.st p.jo b ks ((l.map (·.1)).drop i) = wpGo p.st p.jo b [] (l.map (·.1)), ⟨[], _, _, _, rfl, hE, hm1, hm2, hS0, Nat.le_refl _, rfl⟩, fun _ _ _ _ => trivial, ?_, ?_⟩
    · rintro i d δ m' hd ⟨ks, d6, d7, d8, rfl, hE, hm1, hm2, hS, hl, hR⟩
      obtain ⟨z, hzi, rfl⟩ := map_get hd
      have hi : i < l.length := (List.getElem?_eq_some_iff.mp hzi).1
      rw [drop_map hzi] at hR
      have ok := hz z (List.mem_of_getElem? hzi)
      have stop : ((partAt p.jo z.1.2).isSome ≠ b ∨ z.1.2 ∈ ks ∨ kindAt p.st z.1.2.1 ≠ some ("plain" : Str)) → Q (.str z.1.1) m' := fun hc => by
        rw [wpGo_hit hc] at hR
        have := q m' hE
        rw [← hR] at this; exact this
      refine dVar_at rfl ⟨2, rfl, it_cut ⟨_, .inl rfl, rfl, ?_⟩⟩
      refine dVar_at rfl (dVar_at rfl ⟨c, _, rfl, getP hm2 z.1.2, dVar_at rfl (neB ⟨_, rfl, ?_⟩)⟩)
      have e1 : ((partAt p.jo z.1.2).map endD).isSome = (partAt p.jo z.1.2).isSome := by cases partAt p.jo z.1.2 <;> rfl
      show if (!decide (((partAt p.jo z.1.2).map endD).isSome = b)) = true then _ else _
      rw [e1]
      refine iff_T (fun hc => ?_) fun h1 => ?_
      · exact ifT rfl (dVar_at rfl (stop (.inl (by simpa using hc))))
      · refine dVar_at rfl (dVar_at rfl ⟨s, _, endK z.1.2, rfl, rfl, hS, _, rfl, iff_T (fun hc => ?_) fun h2 => ?_⟩)
        · exact ifT rfl (dVar_at rfl (stop (.inr (.inl (mem_endK hc)))))
        · refine dVar_at rfl ⟨a, rfl, .inl ⟨_, hm1⟩, dVar_at rfl (endD_ix0 ⟨_, getK hm1 z.1.2.1, ?_⟩)⟩
          rw [optS_get]
          refine neS strOk_plain ⟨_, rfl, iff_T (fun hc => ?_) fun h3 => ?_⟩
          · exact dVar_at rfl (stop (.inr (.inr (by simpa using hc))))
          · have hno : ¬ ((partAt p.jo z.1.2).isSome ≠ b ∨ z.1.2 ∈ ks ∨ kindAt p.st z.1.2.1 ≠ some ("plain" : Str)) := by
              rintro (y | y | y)
              · simp [y] at h1
              · rw [endK_mem y] at h2; cases h2
              · simp [y] at h3
            rw [wpGo_miss hno] at hR
            refine dVar_at rfl ⟨s, _, rfl, hS, dVar_at rfl ⟨_, endK z.1.2, rfl, hS, by rw [List.length_map]; omega, fun m2 ⟨o2, e2⟩ hS2 => ?_⟩⟩
            exact ⟨z.1.2 :: ks, _, _, _, rfl, by rw [e2]; exact hE.set hs, by rw [e2, M.set_ne as']; exact hm1, by rw [e2, M.set_ne cs']; exact hm2, hS2, by simp only [List.length_cons]; omega, hR⟩
    · rintro δ m' ⟨ks, d6, d7, d8, rfl, hE, hm1, hm2, hS, hl, hR⟩
      have e : (l.map (·.1)).drop (l.map itD).length = [] := by rw [List.length_map, ← List.length_map (f := fun z : (Str × PL.End) × List D => z.1), List.drop_length]
      rw [e] at hR
      have := q m' hE
      rw [← hR] at this; exact this

end
end PR

namespace PR
open PySem PySem.Spec PyProof.Rows L2 GA GxR DL PL TM

section
variable {P : Program} {w : World} {K : PySem.W.Frag} {mg : Str → Option Value} {base : Heap} {tl td t8 t3 : Tok} {aK aO aE aP P1 P2 : Addr} (T : Txt K mg w tl td t8 t3 aK aO aE aP) (Ok : M → Prop) (hOk : ∀ a b : M, Ok a → b.gh = a.gh → Ok b)
include T hOk

theorem c_fits_overlap {f : Addr} {fd : FuncData} (F : Fun K "fits_overlap" "fits_overlap" s_fits_overlap f fd) (hm : mg "fits_overlap" = some (.ref f)) (c_ways_of : DCal P w K mg base 1 "ways_of" spWays) : DCal P w K mg base 2 "fits_overlap" spFits := by
  refine dcal F hm (F.binds (ps := ["kinds", "beginning", "step"]) fun _ _ _ _ _ _ us hl => match us, hl with | [_, _, _], _ => rfl) sc_fits_overlap (fun ds m Q h => ?_) (fun cdv A outer s H E hr => ⟨_, (dss_cons (ds_set (i := 3) sc_fits_overlap.nd rfl (by first | exact Or.inl rfl | exact Or.inr rfl) (de_ix (de_var 2) de_int))
      (dss_cons (ds_if (dt_w (dw_or (dt_cmp (dc_ne hr) (de_sliceA (de_var 2) dpo_none (dpo_some de_int)) (de_var 1)) (dw_or1 (dt_cmp dc_notIn (de_get1 hr (de_var 0) (de_var 3)) (de_globR (by rfl) T.m_OVERLAP_KINDS T.r_OVERLAP_KINDS))))) (dss_one (ds_ret de_bl)) dss_nil)
      (dss_one (ds_ret (de_cmp (dc_inD hr) (de_var 2) (de_call c_ways_of hr (by decide) (by rfl) (da_cons (de_tup (da_cons (de_var 3) (da_cons (de_dget hr (de_var 0) (de_var 3)) da_nil))) da_nil))))))), fun ds m Q h => ?_⟩)
  · obtain ⟨a, st, o, t, rfl, _⟩ := h; rfl
  · obtain ⟨a, st, o, t, rfl, hm, hk, ht, ho, q⟩ := h
    dsimp only [dRet, dSeq, dNext, dIfS, dSet, dExpr, dAsg, dPar, dPar3, gD, dOp, dUn, dArgs, dCons, dNil, dC, dB, dNot, dCall, dMeth, dMeth0, dIf, dLst, dTup, dSl, dNoPart, dPart, dM1, dOr, dAnd, dAndV, dOrV, dDGet, dSlA, dGet1]
    have g := getK hm t.1
    have hF : endOk (t.1, t.2.1) := ⟨ht.1, ht.2.1⟩
    refine dVar_at rfl (SeqD.ix (.inl rfl) rfl (dVar_at rfl ⟨2, rfl, step_cut (dVar_at rfl (neE (e := (t.1, t.2.1)) hF ho ⟨_, rfl, iff_T (fun hc => ?_) fun h1 => ?_⟩))⟩))
    · have hc : ¬ o = some (t.1, t.2.1) := by simpa using hc
      have e : fitsOv st o t = false := by unfold fitsOv; rw [decide_eq_false hc]; rfl
      have := q m (Ext.refl m)
      rw [e] at this
      exact ifT rfl this
    · have h1 : o = some (t.1, t.2.1) := by simpa using h1
      refine dVar_at rfl ⟨a, rfl, .inl ⟨_, hm⟩, dVar_at rfl ⟨_, g, ?_⟩⟩
      rw [optS_get]
      refine notOv ⟨_, rfl, iff_T (fun hc => ?_) fun h2 => ?_⟩
      · have e : fitsOv st o t = false := by
          unfold fitsOv
          rw [decide_eq_true h1, Bool.true_and]
          unfold ovKind at hc
          cases z : kindAt st t.1 with
          | none => rfl
          | some k =>
            rw [z] at hc
            simp only [Option.some.injEq, Bool.not_eq_true'] at hc
            dsimp only
            rw [hc]; rfl
        have := q m (Ext.refl m)
        rw [e] at this
        exact this
      · cases z : kindAt st t.1 with
        | none => rw [z] at h2; simp [ovKind] at h2
        | some k =>
          rw [z] at h2 g
          have hkk := hk _ (kindAt_ok z)
          refine dVar_at rfl (dVar_at rfl (dVar_at rfl (dVar_at rfl ⟨a, _, rfl, g, slk (by simp), t.1, k, rfl, hkk, fun b m' hb hE hm' => ?_⟩)))
          refine inWays ht hm' ?_
          have e : fitsOv st o t = decide ((t.2.1, t.2.2) ∈ waysK k) := by
            unfold fitsOv
            rw [decide_eq_true h1, Bool.true_and, z]
            unfold ovKind at h2
            simp only [Option.some.injEq, Bool.not_eq_false'] at h2
            dsimp only
            rw [h2, Bool.true_and]
          rw [← e]
          exact q m' hE

end
end PR

namespace PR
open PySem PySem.Spec PyProof.Rows L2 GA GxR DL PL TM

section
variable {P : Program} {w : World} {K : PySem.W.Frag} {mg : Str → Option Value} {base : Heap} {tl td t8 t3 : Tok} {aK aO aE aP P1 P2 : Addr} (T : Txt K mg w tl td t8 t3 aK aO aE aP) (Ok : M → Prop) (hOk : ∀ a b : M, Ok a → b.gh = a.gh → Ok b)
include T hOk

theorem c_wrong_overlap {f : Addr} {fd : FuncData} (F : Fun K "wrong_overlap" "wrong_overlap" s_wrong_overlap f fd) (hm : mg "wrong_overlap" = some (.ref f)) (c_kinds_of : DCal P w K mg base 1 "kinds_of" spKinds) (c_partners_of : DCal P w K mg base 1 "partners_of" spParts) (c_fits_overlap : DCal P w K mg base 2 "fits_overlap" spFits) : DCal P w K mg base 3 "wrong_overlap" (spPl fun p => optS (wrongOv p)) := by
  refine dcal F hm (F.binds (ps := ["plan"]) fun _ _ _ _ _ _ us hl => match us, hl with | [_], _ => rfl) sc_wrong_overlap (fun ds m Q h => ?_) (fun cdv A outer s H E hr => ⟨_, (dss_cons (ds_set (i := 1) sc_wrong_overlap.nd rfl (by first | exact Or.inl rfl | exact Or.inr rfl) (de_call c_kinds_of hr (by decide) (by rfl) (da_cons (de_var 0) da_nil)))
      (dss_cons (ds_set (i := 2) sc_wrong_overlap.nd rfl (by first | exact Or.inl rfl | exact Or.inr rfl) (de_call c_partners_of hr (by decide) (by rfl) (da_cons (de_var 0) da_nil)))
      (dss_cons (ds_for PassesOwn.never rfl (dpi_tup (de_ix (de_var 0) de_int)) (dg_tup rfl (dgs_cons (pg_name (i := 3) sc_wrong_overlap.nd rfl (by first | exact Or.inl rfl | exact Or.inr rfl)) (dgs_cons (pg_name (i := 4) sc_wrong_overlap.nd rfl (by first | exact Or.inl rfl | exact Or.inr rfl)) (dgs_cons (pg_name (i := 5) sc_wrong_overlap.nd rfl (by first | exact Or.inl rfl | exact Or.inr rfl)) dgs_nil)))) (dss_one (ds_if (dt_w (dw_and (dt_truth (de_var 5)) (dw_and1 (dt_not (dt_val (de_call c_fits_overlap hr (by decide) (by rfl) (da_cons (de_var 1) (da_cons (de_get1 hr (de_var 2) (de_var 4)) (da_cons (de_ix (de_var 5) de_int) da_nil))))))))) (dss_one (ds_ret (de_var 3))) dss_nil)))
      (dss_one (ds_ret de_non))))), fun ds m Q h => ?_⟩)
  · obtain ⟨p, rfl, _⟩ := h; rfl
  · obtain ⟨p, rfl, hp, q⟩ := h
    have hks : ∀ s ∈ p.st, kindS s.2 = true := fun s hs => (hp.st s hs).2
    dsimp only [dRet, dSeq, dNext, dIfS, dSet, dExpr, dAsg, dPar, dPar3, gD, dOp, dUn, dArgs, dCons, dNil, dC, dB, dNot, dCall, dMeth, dMeth0, dIf, dLst, dTup, dSl, dNoPart, dPart, dM1, dOr, dAnd, dAndV, dOrV, dDGet, dSlA, dGet1]
    dsimp only [dRet, dSeq, dNext, dIfS, dSet, dExpr, dAsg, dPar, dPar3, gD, dOp, dUn, dArgs, dCons, dNil, dC, dB, dNot, dCall, dMeth, dMeth0, dIf, dLst, dTup, dSl, dNoPart, dPart, dM1, dOr, dAnd, dAndV, dOrV, dDGet, dSlA, dGet1, dNewT, dNewK, dFor, iT, dDPut, dDIn, dSet0S, dSet0T, dSAddS, dSAddT, dTru]
    dsimp only at q
    refine dVar_at rfl ⟨p, rfl, hp, fun a m1 ha hE1 hm1 => dVar_at rfl ⟨p, rfl, hp, fun c m2 hc hE2 hm2 => ?_⟩⟩
    have hm1 := hE2.old _ _ hm1
    have hE := hE1.trans hE2
    refine dVar_at rfl (SeqD.ix (.inl rfl) rfl ⟨p.si.map siD, .inl rfl, fun i δ m' => (∃ d3 d4 d5, δ = [some p.d, some (.ref a), some (.ref c), d3, d4, d5]) ∧ Ext m m' ∧ m'.mu a = some (.dic (kindsKV p.st)) ∧ m'.mu c = some (.dit (partKV p.jo)) ∧ (p.si.drop i).find? (badOv p) = p.si.find? (badOv p), ⟨⟨_, _, _, rfl⟩, hE, hm1, hm2, rfl⟩, fun _ _ _ _ => trivial, ?_, ?_⟩)
    · rintro i d δ m' hd ⟨⟨d3, d4, d5, rfl⟩, hE, hm1, hm2, hR⟩
      obtain ⟨⟨nm, en, ov⟩, hj, rfl⟩ := map_get hd
      have ok := hp.si _ (List.mem_of_getElem? hj)
      obtain ⟨o1, o2, o3⟩ := ok
      dsimp only at o1 o2 o3
      rw [drop_get hj, List.find?_cons] at hR
      refine ⟨[.str nm, endD en, ovD ov], .inl rfl, rfl, ?_⟩
      cases ov with
      | none =>
        refine dVar_at rfl ⟨false, rfl, ifF rfl (ifF rfl ⟨⟨_, _, _, rfl⟩, hE, hm1, hm2, ?_⟩)⟩
        have e : badOv p (nm, en, none) = false := rfl
        rw [e] at hR; exact hR
      | some t =>
        refine dVar_at rfl ⟨true, rfl, ifT rfl ?_⟩
        refine dVar_at rfl (dVar_at rfl ⟨c, rfl, .inr ⟨_, hm2⟩, dVar_at rfl ⟨_, getP hm2 en, ?_⟩⟩)
        rw [optE_get]
        refine dVar_at rfl (SeqD.ix (.inl rfl) rfl ⟨a, p.st, partAt p.jo en, t, rfl, hm1, hks, o3 t rfl, fun f hf => partAt_ok hp hf, fun m3 hE3 => ⟨_, rfl, ?_⟩⟩)
        have eb : badOv p (nm, en, some t) = !fitsOv p.st (partAt p.jo en) t := rfl
        rw [eb] at hR
        cases hf : fitsOv p.st (partAt p.jo en) t with
        | true =>
          rw [hf] at hR
          exact ifF rfl ⟨⟨_, _, _, rfl⟩, hE.trans hE3, hE3.old _ _ hm1, hE3.old _ _ hm2, hR⟩
        | false =>
          rw [hf] at hR
          refine ifT rfl (dVar_at rfl ?_)
          have := q m3 (hE.trans hE3)
          unfold wrongOv at this
          rw [← hR] at this; exact this
    · rintro δ m' ⟨⟨d3, d4, d5, rfl⟩, hE, hm1, hm2, hR⟩
      rw [List.length_map, List.drop_length] at hR
      have := q m' hE
      unfold wrongOv at this
      rw [← hR] at this; exact this

end
end PR

namespace PR
open PySem PySem.Spec PyProof.Rows L2 GA GxR DL PL TM

section
variable {P : Program} {w : World} {K : PySem.W.Frag} {mg : Str → Option Value} {base : Heap} {tl td t8 t3 : Tok} {aK aO aE aP P1 P2 : Addr} (T : Txt K mg w tl td t8 t3 aK aO aE aP) (Ok : M → Prop) (hOk : ∀ a b : M, Ok a → b.gh = a.gh → Ok b)
include T hOk

theorem c_fault {f : Addr} {fd : FuncData} (F : Fun K "fault" "fault" s_fault f fd) (hm : mg "fault" = some (.ref f)) (c_is_plan : DCal P w K mg base 12 "is_plan" (sp1 Ok tyP mPlan)) (c_repeated_name : DCal P w K mg base 1 "repeated_name" (spPl fun p => optS (dupGo [] p.nms))) (c_missing_end : DCal P w K mg base 2 "missing_end" (spPl fun p => optS (missEnd p))) (c_wrong_joint : DCal P w K mg base 1 "wrong_joint" (spPl fun p => optS (wjGo [] p.jo))) (c_wrong_place : DCal P w K mg base 2 "wrong_place" spPlace) (c_wrong_overlap : DCal P w K mg base 3 "wrong_overlap" (spPl fun p => optS (wrongOv p))) : DCal P w K mg base 13 "fault" (spPlT Ok fun p => optF (faultP p)) := by
  refine dcal F hm (F.binds (ps := ["plan"]) fun _ _ _ _ _ _ us hl => match us, hl with | [_], _ => rfl) sc_fault (fun ds m Q h => ?_) (fun cdv A outer s H E hr => ⟨_, (dss_cons (ds_if (dt_not (dt_val (de_call c_is_plan hr (by decide) (by rfl) (da_cons (de_var 0) da_nil)))) (dss_one ds_never) dss_nil)
      (dss_cons (ds_set (i := 1) sc_fault.nd rfl (by first | exact Or.inl rfl | exact Or.inr rfl) (de_tup (da_cons (de_tup (da_cons de_str (da_cons (de_call c_repeated_name hr (by decide) (by rfl) (da_cons (de_var 0) da_nil)) da_nil))) (da_cons (de_tup (da_cons de_str (da_cons (de_call c_missing_end hr (by decide) (by rfl) (da_cons (de_var 0) da_nil)) da_nil))) (da_cons (de_tup (da_cons de_str (da_cons (de_call c_wrong_joint hr (by decide) (by rfl) (da_cons (de_var 0) da_nil)) da_nil))) (da_cons (de_tup (da_cons de_str (da_cons (de_call c_wrong_place hr (by decide) (by rfl) (da_cons (de_var 0) (da_cons (de_ix (de_var 0) de_int) (da_cons de_bl da_nil)))) da_nil))) (da_cons (de_tup (da_cons de_str (da_cons (de_call c_wrong_place hr (by decide) (by rfl) (da_cons (de_var 0) (da_cons (de_ix (de_var 0) de_int) (da_cons de_bl da_nil)))) da_nil))) (da_cons (de_tup (da_cons de_str (da_cons (de_call c_wrong_overlap hr (by decide) (by rfl) (da_cons (de_var 0) da_nil)) da_nil))) da_nil))))))))
      (dss_cons (ds_for PassesOwn.never rfl (dpi_tup (de_var 1)) (dg_tup rfl (dgs_cons (pg_name (i := 2) sc_fault.nd rfl (by first | exact Or.inl rfl | exact Or.inr rfl)) (dgs_cons (pg_name (i := 3) sc_fault.nd rfl (by first | exact Or.inl rfl | exact Or.inr rfl)) dgs_nil))) (dss_one (ds_if (dt_cmp dc_notN (de_var 3) de_non) (dss_one (ds_ret (de_tup (da_cons (de_var 2) (da_cons (de_var 3) da_nil))))) dss_nil)))
      (dss_one (ds_ret de_non))))), fun ds m Q h => ?_⟩)
  · obtain ⟨p, rfl, _⟩ := h; rfl
  · obtain ⟨p, rfl, ⟨hp, hO⟩, q⟩ := h
    have b3 := hp.n3; have b4 := hp.n4
    dsimp only [dRet, dSeq, dNext, dIfS, dSet, dExpr, dAsg, dPar, dPar3, gD, dOp, dUn, dArgs, dCons, dNil, dC, dB, dNot, dCall, dMeth, dMeth0, dIf, dLst, dTup, dSl, dNoPart, dPart, dM1, dOr, dAnd, dAndV, dOrV, dDGet, dSlA, dGet1]
    dsimp only at q
    refine dVar_at rfl ⟨p.d, rfl, plan_ty hp, hO, _, rfl, ?_⟩
    rw [mPlan_ok hp]
    refine ifF rfl ?_
    refine dVar_at rfl ⟨p, rfl, hp, fun m1 E1 => ⟨slk (by simp), dVar_at rfl ⟨p, rfl, hp, fun m2 E2 => ⟨slk (by simp), dVar_at rfl ⟨p, rfl, hp, fun m3 E3 => ⟨slk (by simp), ?_⟩⟩⟩⟩⟩⟩
    refine dVar_at rfl (dVar_at rfl (SeqD.ix (.inl rfl) rfl ⟨p, false, gaI p.ga, by rw [gaI_d], hp, gaI_ok hp, by rw [gaI, List.length_map]; omega, fun m4 E4 => ⟨slk (by simp), ?_⟩⟩))
    refine dVar_at rfl (dVar_at rfl (SeqD.ix (.inl rfl) rfl ⟨p, true, siI p.si, by rw [siI_d], hp, siI_ok hp, by rw [siI, List.length_map]; omega, fun m5 E5 => ⟨slk (by simp), dVar_at rfl ⟨p, rfl, hp, fun m6 E6 => ⟨slk (by simp), slk (by simp), ?_⟩⟩⟩⟩))
    have E := ((((E1.trans E2).trans E3).trans E4).trans E5).trans E6
    rw [gaI_1, siI_1]
    have hq := q m6 E
    have key : ∀ (L : List (Str × Option Str)), firstTag L = faultP p → dFor (iT (dVar 1)) (.tup [2, 3]) (dIfS (dB (dOp (rdIsN true) (dVar 3) (dC .non))) (dRet (dTup (dCons (dVar 2) (dCons (dVar 3) dNil)))) dNext) { nx := fun δ m' => dRet (dC .non) { nx := fun _ m' => Q .non m', rt := Q } δ m', rt := Q } [some p.d, some (.tup (L.map tagD)), none, none] m6 := by
      intro L hL
      dsimp only [dFor, iT, dTup, dCons, dNil, dRet, dC]
      refine dVar_at rfl ⟨L.map tagD, .inl rfl, fun i δ m' => m' = m6 ∧ (∃ d2 d3, δ = [some p.d, some (.tup (L.map tagD)), d2, d3]) ∧ firstTag (L.drop i) = faultP p, ⟨rfl, ⟨_, _, rfl⟩, hL⟩, fun _ _ _ _ => trivial, ?_, ?_⟩
      · rintro i d δ m' hd ⟨rfl, ⟨d2, d3, rfl⟩, hR⟩
        obtain ⟨z, hz, rfl⟩ := map_get hd
        rw [drop_get hz] at hR
        obtain ⟨zw, zn⟩ := z
        refine ⟨[.str zw, optS zn], .inl rfl, rfl, ?_⟩
        dsimp only [dRet, dSeq, dNext, dIfS, dSet, dExpr, dAsg, dPar, dPar3, gD, dOp, dUn, dArgs, dCons, dNil, dC, dB, dNot, dCall, dMeth, dMeth0, dIf, dLst, dTup, dSl, dNoPart, dPart, dM1, dOr, dAnd, dAndV, dOrV, dDGet, dSlA, dGet1]
        cases zn with
        | none => exact dVar_at rfl ⟨_, rfl, ifF rfl ⟨rfl, ⟨_, _, rfl⟩, hR⟩⟩
        | some n =>
          refine dVar_at rfl ⟨_, rfl, ifT rfl (dVar_at rfl (dVar_at rfl ⟨slk (by simp), ?_⟩))⟩
          have hR : some (zw, n) = faultP p := hR
          rw [← hR] at hq; exact hq
      · rintro δ m' ⟨rfl, ⟨d2, d3, rfl⟩, hR⟩
        rw [List.length_map, List.drop_length] at hR
        have hR : none = faultP p := hR
        rw [← hR] at hq; exact hq
    exact key [("name", dupGo [] p.nms), ("end", missEnd p), ("joint", wjGo [] p.jo), ("gate", wpGo p.st p.jo false [] p.ga), ("signal", wpGo p.st p.jo true [] p.gs2), ("overlap", wrongOv p)] rfl

end
end PR

namespace PR
open PySem PySem.Spec PyProof.Rows L2 GA GxR DL PL TM

section
variable {P : Program} {w : World} {K : PySem.W.Frag} {mg : Str → Option Value} {base : Heap} {tl td t8 t3 : Tok} {aK aO aE aP P1 P2 : Addr} (T : Txt K mg w tl td t8 t3 aK aO aE aP) (Ok : M → Prop) (hOk : ∀ a b : M, Ok a → b.gh = a.gh → Ok b)
include T hOk

theorem c_is_checked {f : Addr} {fd : FuncData} (F : Fun K "is_checked" "is_checked" s_is_checked f fd) (hm : mg "is_checked" = some (.ref f)) (c_fault : DCal P w K mg base 13 "fault" (spPlT Ok fun p => optF (faultP p))) : DCal P w K mg base 14 "is_checked" (spPlT Ok fun p => .bl (faultP p).isNone) := by
  refine dcal F hm (F.binds (ps := ["plan"]) fun _ _ _ _ _ _ us hl => match us, hl with | [_], _ => rfl) sc_is_checked (fun ds m Q h => ?_) (fun cdv A outer s H E hr => ⟨_, (dss_one (ds_ret (de_cmp dc_isN (de_call c_fault hr (by decide) (by rfl) (da_cons (de_var 0) da_nil)) de_non))), fun ds m Q h => ?_⟩)
  · obtain ⟨p, rfl, _⟩ := h; rfl
  · obtain ⟨p, rfl, hp, q⟩ := h
    dsimp only [dRet, dSeq, dNext, dIfS, dSet, dExpr, dAsg, dPar, dPar3, gD, dOp, dUn, dArgs, dCons, dNil, dC, dB, dNot, dCall, dMeth, dMeth0, dIf, dLst, dTup, dSl, dNoPart, dPart, dM1, dOr, dAnd, dAndV, dOrV, dDGet, dSlA, dGet1]
    dsimp only at q
    refine dVar_at rfl ⟨p, rfl, hp, fun m' hE => ?_⟩
    have hq := q m' hE
    show rdIsN false (optF (faultP p)) .non m' Q
    cases hf : faultP p with
    | none => rw [hf] at hq; exact hq
    | some f => rw [hf] at hq; exact hq

end
end PR

namespace PR
open PySem PySem.Spec PyProof.Rows L2 GA GxR DL PL TM

section
variable {P : Program} {w : World} {K : PySem.W.Frag} {mg : Str → Option Value} {base : Heap} {tl td t8 t3 : Tok} {aK aO aE aP P1 P2 : Addr} (T : Txt K mg w tl td t8 t3 aK aO aE aP) (Ok : M → Prop) (hOk : ∀ a b : M, Ok a → b.gh = a.gh → Ok b)
include T hOk

theorem c_law_deck {f : Addr} {fd : FuncData} (F : Fun K "_law_deck" "_law_deck" s_law_deck f fd) (hm : mg "_law_deck" = some (.ref f))  : DCal P w K mg base 1 "_law_deck" (fun ds m Q => ∃ (aS : Addr) (ns : List Int), ds = [.ref aS] ∧ (∀ H, m.gh.inv H → SqL K H aS (ns.map V.int)) ∧ ns.length ≤ 63 ∧ ∀ aD aC m', Ext m m' → m.mu aD = none → m.mu aC = none → aD ≠ aC → DeckAt m' aD aC → Q (.ref aD) m') := by
  refine dcal F hm (F.binds (ps := ["script"]) fun _ _ _ _ _ _ us hl => match us, hl with | [_], _ => rfl) sc_law_deck (fun ds m Q h => ?_) (fun cdv A outer s H E hr => ⟨_, (dss_cons (ds_set (i := 1) sc_law_deck.nd rfl (by first | exact Or.inl rfl | exact Or.inr rfl) de_int)
      (dss_cons (ds_for PassesOwn.never rfl (dpi_list (de_sliceG (de_var 0) dpo_none (dpo_some de_int))) (dg_name (i := 2) sc_law_deck.nd rfl (by first | exact Or.inl rfl | exact Or.inr rfl)) (dss_one (ds_set (i := 1) sc_law_deck.nd rfl (by first | exact Or.inl rfl | exact Or.inr rfl) (de_mod (de_bty call_int1 argl_int (by rfl) T.int (by decide +kernel) (da_cons (de_add (de_add (de_mul (de_var 1) de_int) (de_mod (de_bty call_int1 argl_int (by rfl) T.int (by decide +kernel) (da_cons (de_var 2) da_nil)) de_int)) de_int) da_nil)) de_int))))
      (dss_one (ds_ret (de_disp (.cons (de_revL (de_bty call_list_of argl_list (by rfl) T.list (by decide +kernel) (da_cons (de_sliceG (de_var 0) dpo_none (dpo_some de_int)) da_nil))) (.cons (de_var 1) (.cons de_int .nil)))))))), fun ds m Q h => ?_⟩)
  · obtain ⟨aS, ns, rfl, _⟩ := h; rfl
  · obtain ⟨aS, ns, rfl, hm, hl, q⟩ := h
    dsimp only [dRet, dSeq, dNext, dIfS, dSet, dExpr, dAsg, dPar, gD, dOp, dUn, dArgs, dCons, dNil, dC, dB, dNot, dCall, dMeth, dMeth0, dIf, dLst, dTup]
    dsimp only [dFor, iL, dSlG, dNoPart, dPart, dC]
    refine dVar_at rfl ⟨63, rfl, aS, ns, rfl, hm, fun p hp => ⟨p, _, rfl, M.set_same, ?_⟩⟩
    rw [cutL_map]
    have hl1 := cutL_le ns none (some 63)
    generalize cutL ns none (some 63) = ns1 at hl1 ⊢
    refine ⟨fun i δ m' => m' = m.set p (.lst (ns1.map D.int)) ∧ δ[0]? = some (some (.ref aS)) ∧ ∃ x : Int, 0 ≤ x ∧ x < 2147483587 ∧ δ[1]? = some (some (.int x)) ∧ δ.length = 3, ⟨rfl, rfl, 13748414, by decide, by decide, rfl, rfl⟩, fun i δ m' h => ?_, ?_, ?_⟩
    · rw [h.1]; exact M.set_same
    · rintro i d δ m' hd ⟨rfl, hδ, x, h1, h2, hx, hlen⟩
      rw [List.getElem?_map] at hd
      obtain ⟨c, hc, rfl⟩ : ∃ c, ns1[i]? = some c ∧ d = D.int c := by
        cases e : ns1[i]? with
        | none => rw [e] at hd; cases hd
        | some c => rw [e] at hd; cases hd; exact ⟨c, rfl, rfl⟩
      match δ, hlen with
      | [d0, d1, d2], _ =>
        dsimp only [dSet, dOp, dArgs, dCons, dNil, dC, gD]
        exact dVar_at hx (rI (Or.inr ⟨by decide, by decide⟩) (dVar_at rfl (iI (rI (by decide) (aI (aI (iI (rI (by decide) ⟨rfl, hδ, _, (emod_lt' (by decide)).1, (emod_lt' (by decide)).2, rfl, rfl⟩))))))))
    · rintro δ m' ⟨rfl, hδ, x, h1, h2, hx, hlen⟩
      dsimp only [dDisp, dPairs, dRevL, dArgs, dCons, dNil, dSlG, dNoPart, dPart, dC]
      intro pD hD
      have e1 : m.mu pD = none := by
        by_cases z : pD = p
        · subst z; rw [M.set_same] at hD; cases hD
        · rw [M.set_ne z] at hD; exact hD
      have E0 : Ext m ((m.set p (.lst (ns1.map D.int))).set pD (.dic [])) := (Ext.new hp).set e1
      generalize hM0 : (m.set p (.lst (ns1.map D.int))).set pD (.dic []) = m0 at E0 ⊢
      have e0 : m0.mu pD = some (.dic []) := by rw [← hM0]; exact M.set_same
      refine dVar_at hδ ⟨63, rfl, aS, ns, rfl, (fun H i => hm H (by rw [E0.gh] at i; exact i)), fun p2 hp2 => ⟨_, _, rfl, .inr (.inr ⟨p2, rfl, M.set_same⟩), fun p3 hp3 => ⟨p3, _, rfl, M.set_same, fun p4 hp4 => dVar_at hx ?_⟩⟩⟩
      rw [cutL_map] at hp3 hp4 ⊢
      rw [← List.map_reverse]
      have hl2 := cutL_le ns none (some 63)
      generalize cutL ns none (some 63) = ns2 at hl2 hp4 hp3 ⊢
      have E1 : Ext m0 (((m0.set p2 (.lst (ns2.map D.int))).set p3 (.lst (ns2.map D.int))).set p4 (.lst (ns2.reverse.map D.int))) := (((Ext.new hp2).trans (Ext.new hp3)).trans (Ext.new hp4))
      have e4 : (((m0.set p2 (.lst (ns2.map D.int))).set p3 (.lst (ns2.map D.int))).set p4 (.lst (ns2.reverse.map D.int))).mu p4 = some (.lst (ns2.reverse.map D.int)) := M.set_same
      have f4 : m0.mu p4 = none := by
        cases e : m0.mu p4 with
        | none => rfl
        | some o => rw [((Ext.new hp2).trans (Ext.new hp3)).old _ _ e] at hp4; cases hp4
      generalize (((m0.set p2 (.lst (ns2.map D.int))).set p3 (.lst (ns2.map D.int))).set p4 (.lst (ns2.reverse.map D.int))) = m4 at E1 e4 ⊢
      have ne : pD ≠ p4 := fun z => by subst z; rw [e0] at f4; cases f4
      have f4m : m.mu p4 = none := by
        cases e : m.mu p4 with
        | none => rfl
        | some o => rw [E0.old _ _ e] at f4; cases f4
      refine ⟨E1.old _ _ e0, q pD p4 _ ((E0.trans E1).set e1) e1 f4m ne ⟨x, 0, ns2.reverse, ?_, ?_, h1, h2, by decide, by rw [List.length_reverse]; omega⟩⟩
      · rw [M.set_same]; with_unfolding_all rfl
      · rw [M.set_ne ne.symm]; exact e4


end
end PR

namespace PR
open PySem PySem.Spec PyProof.Rows L2 GA GxR DL PL TM

section
variable {P : Program} {w : World} {K : PySem.W.Frag} {mg : Str → Option Value} {base : Heap} {tl td t8 t3 : Tok} {aK aO aE aP P1 P2 : Addr} (T : Txt K mg w tl td t8 t3 aK aO aE aP) (Ok : M → Prop) (hOk : ∀ a b : M, Ok a → b.gh = a.gh → Ok b)
include T hOk

theorem c_law_draw {f : Addr} {fd : FuncData} (F : Fun K "_law_draw" "_law_draw" s_law_draw f fd) (hm : mg "_law_draw" = some (.ref f))  : DCal P w K mg base 1 "_law_draw" spDraw := by
  refine dcal F hm (F.binds (ps := ["deck", "many"]) fun _ _ _ _ _ _ us hl => match us, hl with | [_, _], _ => rfl) sc_law_draw (fun ds m Q h => ?_) (fun cdv A outer s H E hr => ⟨_, (dss_cons (ds_dput hr (de_var 0) de_str (de_add (de_dget hr (de_var 0) de_str) de_int))
      (dss_cons (ds_set (i := 2) sc_law_draw.nd rfl (by first | exact Or.inl rfl | exact Or.inr rfl) (de_add (de_dget hr (de_var 0) de_str) (de_mul de_int (de_dget hr (de_var 0) de_str))))
      (dss_cons (ds_if (dt_cmp (dc_ne hr) (de_dget hr (de_var 0) de_str) (de_lst da_nil)) (dss_cons (ds_set (i := 3) sc_law_draw.nd rfl (by first | exact Or.inl rfl | exact Or.inr rfl) (de_pop (de_dget hr (de_var 0) de_str)))
      (dss_cons (ds_if (dt_cmp dc_ge (de_var 3) (de_pow de_int de_int)) (dss_cons (ds_expr (de_append (de_dget hr (de_var 0) de_str) (de_fdiv (de_var 3) (de_blt (call_max2 rfl) argl_max (by rfl) T.max (by decide +kernel) (da_cons de_int (da_cons (de_var 1) da_nil))))))
      (dss_one (ds_ret (de_mod (de_bty call_int1 argl_int (by rfl) T.int (by decide +kernel) (da_cons (de_var 3) da_nil)) (de_var 1))))) dss_nil)
      (dss_one (ds_set (i := 2) sc_law_draw.nd rfl (by first | exact Or.inl rfl | exact Or.inr rfl) (de_add (de_var 2) (de_mod (de_bty call_int1 argl_int (by rfl) T.int (by decide +kernel) (da_cons (de_var 3) da_nil)) de_int)))))) dss_nil)
      (dss_cons (ds_set (i := 2) sc_law_draw.nd rfl (by first | exact Or.inl rfl | exact Or.inr rfl) (de_mod (de_bty call_int1 argl_int (by rfl) T.int (by decide +kernel) (da_cons (de_add (de_mul (de_var 2) de_int) de_int) da_nil)) de_int))
      (dss_cons (ds_set (i := 2) sc_law_draw.nd rfl (by first | exact Or.inl rfl | exact Or.inr rfl) (de_mod (de_bty call_int1 argl_int (by rfl) T.int (by decide +kernel) (da_cons (de_add (de_add (de_mul (de_var 2) (de_var 2)) (de_mul de_int (de_dget hr (de_var 0) de_str))) de_int) da_nil)) de_int))
      (dss_cons (ds_set (i := 2) sc_law_draw.nd rfl (by first | exact Or.inl rfl | exact Or.inr rfl) (de_mod (de_bty call_int1 argl_int (by rfl) T.int (by decide +kernel) (da_cons (de_mul (de_var 2) de_int) da_nil)) de_int))
      (dss_one (ds_ret (de_mod (de_bty call_int1 argl_int (by rfl) T.int (by decide +kernel) (da_cons (de_fdiv (de_var 2) de_int) da_nil)) (de_var 1)))))))))), fun ds m Q h => ?_⟩)
  · obtain ⟨aD, aC, n, rfl, _⟩ := h; rfl
  · obtain ⟨aD, aC, n, rfl, hn, hn2, hne, hd, q⟩ := h
    obtain ⟨x, k, ns, e1, e2, x1, x2, k1, nl⟩ := hd.ex
    have big : (52713 : Int) < 2 ^ 64 ∧ (61473 : Int) < 2 ^ 64 ∧ (39373 : Int) < 2 ^ 64 ∧ (40692 : Int) < 2 ^ 64 := by decide
    have g1 : ∀ {m' : M} {c : Int}, m'.mu aD = some (.dic (deckD aC x c)) → GetD m' aD (.str "draws") (some (.int c)) := fun h => .inl ⟨_, .inr "draws", h, rfl, dk_draws.symm⟩
    have g2 : ∀ {m' : M} {c : Int}, m'.mu aD = some (.dic (deckD aC x c)) → GetD m' aD (.str "mixed") (some (.int x)) := fun h => .inl ⟨_, .inr "mixed", h, rfl, dk_mixed.symm⟩
    have g3 : ∀ {m' : M} {c : Int}, m'.mu aD = some (.dic (deckD aC x c)) → GetD m' aD (.str "cells") (some (.ref aC)) := fun h => .inl ⟨_, .inr "cells", h, rfl, dk_cells.symm⟩
    have hk : 0 ≤ k + 1 := by omega
    refine seqR3 (fun δ m2 => (∃ (nb : Int) (d : Option D), δ = [some (.ref aD), some (.int n), some (.int nb), d]) ∧ Step' m m2 aD aC ∧ ∃ k2, m2.mu aD = some (.dic (deckD aC x k2))) ?_ fun R hR => ?_
    · rintro δ m2 ⟨⟨nb, d, rfl⟩, hs, k2, hk2⟩
      dsimp only [dRet, dSeq, dNext, dIfS, dSet, dExpr, dAsg, dPar, gD, dOp, dUn, dArgs, dCons, dNil, dC, dB, dNot, dCall, dMeth, dMeth0, dIf, dLst, dTup]
      dsimp only [dDPut, dDGet, dIfS, dOp, dB, dC, dLst, dNil, dCons, dArgs]
      refine dVar_at rfl (rI (Or.inr ⟨by decide, big.2.2.1⟩) (aI (iI (rI (by decide) ?_))))
      obtain ⟨l1, l2⟩ := emod_lt' (x := nb * 39373 + 29) (n := 2147483647) (by decide)
      generalize (nb * 39373 + 29) % 2147483647 = y1 at l1 l2 ⊢
      refine dVar_at rfl (dVar_at rfl (rI (Or.inl ⟨by omega, by omega⟩) (dVar_at rfl ⟨aD, _, rfl, g1 hk2, rI (Or.inl ⟨by decide, big.1⟩) (aI (aI (iI (rI (by decide) ?_))))⟩)))
      generalize (y1 * y1 + 52713 * k2 + 97) % 2147483587 = y2
      refine dVar_at rfl (rI (Or.inr ⟨by decide, big.2.2.2⟩) (iI (rI (by decide) ?_)))
      generalize y2 * 40692 % 2147483563 = y3
      exact dVar_at rfl (rI ⟨by decide, by decide⟩ (iI (dVar_at rfl (rI hn (q _ _ (emod_lt' hn).1 (emod_lt' hn).2 hs)))))
    dsimp only [dRet, dSeq, dNext, dIfS, dSet, dExpr, dAsg, dPar, gD, dOp, dUn, dArgs, dCons, dNil, dC, dB, dNot, dCall, dMeth, dMeth0, dIf, dLst, dTup]
    dsimp only [dDPut, dDGet, dIfS, dOp, dB, dC, dLst, dNil, dCons, dArgs]
    refine dVar_at rfl ⟨aD, _, rfl, g1 e1, aI (dVar_at rfl ⟨aD, rfl, .inl ⟨_, .inr "draws", e1, rfl, (by show 3 < sizeLine; decide), ?_⟩⟩)⟩
    rw [dk_put]
    have e3 : (m.set aD (.dic (deckD aC x (k + 1)))).mu aC = some (.lst (ns.map D.int)) := by rw [M.set_ne hne.symm]; exact e2
    have e4 : (m.set aD (.dic (deckD aC x (k + 1)))).mu aD = some (.dic (deckD aC x (k + 1))) := M.set_same
    have e5 : ∀ a o, a ≠ aD → a ≠ aC → m.mu a = some o → (m.set aD (.dic (deckD aC x (k + 1)))).mu a = some o := fun a o z1 z2 h => by rw [M.set_ne z1]; exact h
    have e6 : (m.set aD (.dic (deckD aC x (k + 1)))).gh = m.gh := rfl
    have e4' : (m.set aD (.dic [(.inr "cells", .ref aC), (.inr "mixed", .int x), (.inr "draws", .int (k + 1))])) = m.set aD (.dic (deckD aC x (k + 1))) := rfl
    rw [e4']
    generalize m.set aD (.dic (deckD aC x (k + 1))) = m1 at e3 e4 e5 e6 ⊢
    generalize k + 1 = k2 at e3 e4 e5 e6 hk ⊢
    refine dVar_at rfl ⟨aD, _, rfl, g2 e4, dVar_at rfl ⟨aD, _, rfl, g1 e4, rI (Or.inl ⟨by decide, big.2.1⟩) (aI ?_)⟩⟩
    generalize x + 61473 * k2 = nb
    refine dVar_at rfl ⟨aD, _, rfl, g3 e4, (by decide), fun p hp => ?_⟩
    have E1 : Ext m1 (m1.set p (.lst [])) := Ext.new hp
    refine ne_nil (E1.old _ _ e3) M.set_same (fun d hd => ?_) ⟨_, rfl, ?_⟩
    · obtain ⟨c, _, rfl⟩ := List.mem_map.mp hd; exact Fine.int c
    have e3 := E1.old _ _ e3
    have e4 := E1.old _ _ e4
    have e5 : ∀ a o, a ≠ aD → a ≠ aC → m.mu a = some o → (m1.set p (.lst [])).mu a = some o := fun a o z1 z2 h => E1.old _ _ (e5 a o z1 z2 h)
    have e6 : (m1.set p (.lst [])).gh = m.gh := e6
    generalize m1.set p (.lst []) = m2 at e3 e4 e5 e6 ⊢
    refine iff_T (fun hc => ?_) fun hc => ?_
    · obtain ⟨ns', c, rfl⟩ : ∃ ns' c, ns = ns' ++ [c] := by
        rcases List.eq_nil_or_concat ns with rfl | ⟨l, c, rfl⟩
        · cases hc
        · exact ⟨l, c, by simp⟩
      rw [List.map_append] at e3
      refine dVar_at rfl ⟨aD, _, rfl, g3 e4, ⟨aC, _, rfl, e3⟩, aC, _, .int c, rfl, rfl, e3, (by simp), ?_⟩
      have e7 : (ns'.map D.int ++ [c].map D.int).dropLast = ns'.map D.int := by simp
      rw [e7]
      have f3 : (m2.set aC (.lst (ns'.map D.int))).mu aC = some (.lst (ns'.map D.int)) := M.set_same
      have f4 : (m2.set aC (.lst (ns'.map D.int))).mu aD = some (.dic (deckD aC x k2)) := by rw [M.set_ne hne]; exact e4
      have f5 : ∀ a o, a ≠ aD → a ≠ aC → m.mu a = some o → (m2.set aC (.lst (ns'.map D.int))).mu a = some o := fun a o z1 z2 h => by rw [M.set_ne z2]; exact e5 a o z1 z2 h
      have f6 : (m2.set aC (.lst (ns'.map D.int))).gh = m.gh := e6
      generalize m2.set aC (.lst (ns'.map D.int)) = m3 at f3 f4 f5 f6 ⊢
      have nl' : ns'.length ≤ 62 := by simp at nl; omega
      refine dVar_at rfl (rI ⟨by decide, by decide, by decide⟩ (bI ⟨_, rfl, iff_T (fun hb => ?_) fun hb => ?_⟩))
      · have hj : 2 ≤ (if n > 2 then n else 2) ∧ (if n > 2 then n else 2) < 1073741824 := by split <;> omega
        refine dVar_at rfl ⟨aD, _, rfl, g3 f4, ⟨aC, _, rfl, f3⟩, dVar_at rfl (dVar_at rfl ⟨2, n, rfl, rI ⟨by omega, hj.2⟩ ⟨aC, _, _, rfl, rfl, f3, slk (by rw [List.length_map]; omega), ?_⟩⟩)⟩
        have e8 : ns'.map D.int ++ [D.int (c / if n > 2 then n else 2)] = (ns' ++ [c / if n > 2 then n else 2]).map D.int := by simp
        rw [e8]
        refine dVar_at rfl (iI (dVar_at rfl (rI hn (q _ _ (emod_lt' hn).1 (emod_lt' hn).2 ⟨f6, fun a o z1 z2 h => ?_, x, k2, _, ?_, M.set_same, x1, x2, hk, ?_⟩))))
        · rw [M.set_ne z2]; exact f5 a o z1 z2 h
        · rw [M.set_ne hne]; exact f4
        · rw [List.length_append]; show ns'.length + 1 ≤ 63; omega
      · exact dVar_at rfl (dVar_at rfl (iI (rI (by decide) (aI (hR _ _ ⟨⟨_, _, rfl⟩, ⟨f6, f5, x, k2, ns', f4, f3, x1, x2, hk, by omega⟩, k2, f4⟩)))))
    · exact hR _ _ ⟨⟨nb, _, rfl⟩, ⟨e6, e5, x, k2, ns, e4, e3, x1, x2, hk, nl⟩, k2, e4⟩


end
end PR

namespace PR
open PySem PySem.Spec PyProof.Rows L2 GA GxR DL PL TM

section
variable {P : Program} {w : World} {K : PySem.W.Frag} {mg : Str → Option Value} {base : Heap} {tl td t8 t3 : Tok} {aK aO aE aP P1 P2 : Addr} (T : Txt K mg w tl td t8 t3 aK aO aE aP) (Ok : M → Prop) (hOk : ∀ a b : M, Ok a → b.gh = a.gh → Ok b)
include T hOk

theorem c_law_pick {f : Addr} {fd : FuncData} (F : Fun K "_law_pick" "_law_pick" s_law_pick f fd) (hm : mg "_law_pick" = some (.ref f)) (c_law_draw : DCal P w K mg base 1 "_law_draw" spDrawG) : DCal P w K mg base 2 "_law_pick" spPick := by
  refine dcal F hm (F.binds (ps := ["deck", "some"]) fun _ _ _ _ _ _ us hl => match us, hl with | [_, _], _ => rfl) sc_law_pick (fun ds m Q h => ?_) (fun cdv A outer s H E hr => ⟨_, (dss_one (ds_ret (de_ix (de_var 1) (de_call c_law_draw hr (by decide) (by rfl) (da_cons (de_var 0) (da_cons (de_len (by rfl) T.len (da_cons (de_var 1) da_nil)) da_nil)))))), fun ds m Q h => ?_⟩)
  · obtain ⟨d, s, ds', rfl, _⟩ := h; rfl
  · obtain ⟨d, s, ds', rfl, hd, hs, hne, hl, q⟩ := h
    dsimp only [dRet, dSeq, dNext, dIfS, dSet, dExpr, dAsg, dPar, gD, dOp, dUn, dArgs, dCons, dNil, dC, dB, dNot, dCall, dMeth, dMeth0, dIf, dLst, dTup, dSl, dNoPart, dPart, dM1]
    have hn : 0 < ds'.length := List.length_pos_iff.mpr hne
    refine dVar_at rfl (dVar_at rfl (dVar_at rfl ⟨s, ds'.length, rfl, SeqD.len hs, d, ds'.length, rfl, by omega, by omega, hd, fun r h0 h1 => ?_⟩))
    obtain ⟨y, hy, hm⟩ := atI_mem h0 h1
    exact SeqD.ix hs hy (q y hm)


end
end PR

namespace PR
open PySem PySem.Spec PyProof.Rows L2 GA GxR DL PL TM

section
variable {P : Program} {w : World} {K : PySem.W.Frag} {mg : Str → Option Value} {base : Heap} {tl td t8 t3 : Tok} {aK aO aE aP P1 P2 : Addr} (T : Txt K mg w tl td t8 t3 aK aO aE aP) (Ok : M → Prop) (hOk : ∀ a b : M, Ok a → b.gh = a.gh → Ok b)
include T hOk

theorem c_law_name {f : Addr} {fd : FuncData} (F : Fun K "_law_name" "_law_name" s_law_name f fd) (hm : mg "_law_name" = some (.ref f)) (c_law_draw : DCal P w K mg base 1 "_law_draw" spDrawG) (c_law_pick : DCal P w K mg base 2 "_law_pick" spPick) : DCal P w K mg base 3 "_law_name" spName := by
  refine dcal F hm (F.binds (ps := ["deck", "used"]) fun _ _ _ _ _ _ us hl => match us, hl with | [_, _], _ => rfl) sc_law_name (fun ds m Q h => ?_) (fun cdv A outer s H E hr => ⟨_, (dss_cons (ds_set (i := 2) sc_law_name.nd rfl (by first | exact Or.inl rfl | exact Or.inr rfl) de_str)
      (dss_cons (ds_par rfl sc_law_name.nd (i := 3) (j := 4) rfl rfl (by decide) rfl rfl (da_cons (de_call c_law_draw hr (by decide) (by rfl) (da_cons (de_var 0) (da_cons de_int da_nil))) (da_cons (de_ix (de_var 2) (de_call c_law_draw hr (by decide) (by rfl) (da_cons (de_var 0) (da_cons de_int da_nil)))) da_nil)) (by rfl))
      (dss_cons (ds_if (dt_cmp (dc_eq hr) (de_var 3) de_int) (dss_cons (ds_set (i := 5) sc_law_name.nd rfl (by first | exact Or.inl rfl | exact Or.inr rfl) (de_lst (da_cons de_str (da_cons de_str (da_cons de_str (da_cons de_str (da_cons de_str (da_cons de_str (da_cons de_str (da_cons de_str (da_cons de_str (da_cons de_str da_nil))))))))))))
      (dss_one (ds_set (i := 4) sc_law_name.nd rfl (by first | exact Or.inl rfl | exact Or.inr rfl) (de_call c_law_pick hr (by decide) (by rfl) (da_cons (de_var 0) (da_cons (de_var 5) da_nil)))))) (dss_one (ds_if (dt_cmp (dc_eq hr) (de_var 3) de_int) (dss_cons (ds_set (i := 6) sc_law_name.nd rfl (by first | exact Or.inl rfl | exact Or.inr rfl) (de_call c_law_draw hr (by decide) (by rfl) (da_cons (de_var 0) (da_cons de_int da_nil))))
      (dss_one (ds_set (i := 4) sc_law_name.nd rfl (by first | exact Or.inl rfl | exact Or.inr rfl) (de_add (de_ifE (dt_cmp dc_gt (de_var 6) de_int) (de_add (de_slice de_str dpo_none (dpo_some (de_var 6))) (de_ix (de_var 2) (de_call c_law_draw hr (by decide) (by rfl) (da_cons (de_var 0) (da_cons de_int da_nil))))) (de_var 4)) (de_slice de_str (dpo_some (de_add (de_var 6) de_int)) dpo_none))))) (dss_one (ds_set (i := 4) sc_law_name.nd rfl (by first | exact Or.inl rfl | exact Or.inr rfl) (de_add (de_var 4) (de_join de_str (de_lc (own := [("at", 6)]) rfl sc_law_name.nd (dpi_range (by rfl) T.range (de_call c_law_draw hr (by decide) (by rfl) (da_cons (de_var 0) (da_cons de_int da_nil)))) (blkOk_by (N := ["deck", "used", "letters", "way", "name", "some", "at", "spare"]) (sc := defScope s_law_name) (by decide +kernel)) (fun _ _ _ _ _ => (dg_name (i := 6) sc_law_name.nd rfl (by first | exact Or.inl rfl | exact Or.inr rfl))) (fun _ _ _ _ _ => dpts_nil) (fun _ _ _ _ _ => (de_ix (de_var 2) (de_call c_law_draw hr (by decide) (by rfl) (da_cons (de_var 0) (da_cons de_int da_nil)))))))))))))
      (dss_cons (ds_if (dt_cmp dc_in (de_var 4) (de_var 1)) (dss_one (ds_set (i := 4) sc_law_name.nd rfl (by first | exact Or.inl rfl | exact Or.inr rfl) (de_ix (de_lc (own := [("spare", 7)]) rfl sc_law_name.nd (dpi_list (de_lc (own := [("at", 6)]) rfl sc_law_name.nd (dpi_range (by rfl) T.range de_int) (blkOk_by (N := ["deck", "used", "letters", "way", "name", "some", "at", "spare"]) (sc := defScope s_law_name) (by decide +kernel)) (fun _ _ _ _ _ => (dg_name (i := 6) sc_law_name.nd rfl (by first | exact Or.inl rfl | exact Or.inr rfl))) (fun _ _ _ _ _ => dpts_nil) (fun _ _ _ _ _ => (de_add de_str (de_bty call_str_int argl_str (by rfl) T.str (by decide +kernel) (da_cons (de_var 6) da_nil)))))) (blkOk_by (N := ["deck", "used", "letters", "way", "name", "some", "at", "spare"]) (sc := defScope s_law_name) (by decide +kernel)) (fun _ _ _ _ _ => (dg_name (i := 7) sc_law_name.nd rfl (by first | exact Or.inl rfl | exact Or.inr rfl))) (fun _ _ _ _ _ => (dpts_one (dt_cmp dc_notIn (de_var 7) (de_var 1)))) (fun _ _ _ _ _ => (de_var 7))) de_int))) dss_nil)
      (dss_cons (ds_expr (de_append (de_var 1) (de_var 4)))
      (dss_one (ds_ret (de_var 4)))))))), fun ds m Q h => ?_⟩)
  · obtain ⟨d, u, us, rfl, _⟩ := h; rfl
  · obtain ⟨d, u, us, rfl, hd, hu, hl, q⟩ := h
    refine seqR3 (fun δ m2 => ∃ s, nameS s = true ∧ Ext m m2 ∧ ∃ d2 d3 d5 d6 d7, δ = [some d, some (.ref u), d2, d3, some (.str s), d5, d6, d7]) ?_ fun R hR => ?_
    · rintro δ m2 ⟨s, hs, hE, d2, d3, d5, d6, d7, rfl⟩
      refine seqR1 (fun δ m2 => ∃ s, nameS s = true ∧ s ∉ us ∧ Ext m m2 ∧ ∃ d2 d3 d5 d6 d7, δ = [some d, some (.ref u), d2, d3, some (.str s), d5, d6, d7]) ?_ fun R hR => ?_
      · rintro δ m2 ⟨s, hs, hn, hE, d2, d3, d5, d6, d7, rfl⟩
        dsimp only [dRet, dSeq, dNext, dIfS, dSet, dExpr, dAsg, dPar, gD, dOp, dUn, dArgs, dCons, dNil, dC, dB, dNot, dCall, dMeth, dMeth0, dIf, dLst, dTup, dSl, dNoPart, dPart, dM1]
        have hu2 := hE.old _ _ hu
        refine dVar_at rfl ⟨⟨u, _, rfl, hu2⟩, dVar_at rfl ⟨u, _, _, rfl, rfl, hu2, slk (by rw [List.length_map]; omega), dVar_at rfl ?_⟩⟩
        exact q s _ hs hn ((hE.chg u).set) (by rw [M.set_same, List.map_append]; rfl)
      · dsimp only [dRet, dSeq, dNext, dIfS, dSet, dExpr, dAsg, dPar, gD, dOp, dUn, dArgs, dCons, dNil, dC, dB, dNot, dCall, dMeth, dMeth0, dIf, dLst, dTup, dSl, dNoPart, dPart, dM1]
        have hu2 := hE.old _ _ hu
        refine dVar_at rfl (dVar_at rfl (inL (.inr (.inr ⟨u, rfl, hu2⟩)) ⟨_, rfl, iff_T (fun hc => ?_) fun hc => hR _ _ ⟨s, hs, (by simpa using hc), hE, _, _, _, _, _, rfl⟩⟩))
        refine dLC_gen (I := fun _ => True) (xs := (List.range 60).map fun i => D.str (spareS i)) (Rel := fun d o => ∃ t, d = D.str t ∧ o = if t ∈ us then none else some (.str t)) trivial (fun _ _ _ _ => trivial) (iL_new fun R hR => ?_) (slk (by simp)) (fun x hx m' hE' _ Ry Rn hy hn => ?_) (fun p m3 ys hp hE3 _ hm3 ho => ?_)
        · refine dLC_gen (I := fun _ => True) (Rel := fun d o => ∃ i : Nat, d = D.int (i : Int) ∧ i < 60 ∧ o = some (D.str (spareS i))) trivial (fun _ _ _ _ => trivial) (iR_w (j := 60) (fun R hR => hR) (by decide) (by decide)) (slk (by rw [rangeD_len]; decide)) (fun x hx m' hE' _ Ry Rn hy hn => ?_) (fun p m3 ys hp hE3 _ hm3 ho => ?_)
          · unfold rangeD at hx
            obtain ⟨i, hi, rfl⟩ := List.mem_map.mp hx
            have hi : i < 60 := List.mem_range.mp hi
            dsimp only [dRet, dSeq, dNext, dIfS, dSet, dExpr, dAsg, dPar, gD, dOp, dUn, dArgs, dCons, dNil, dC, dB, dNot, dCall, dMeth, dMeth0, dIf, dLst, dTup, dSl, dNoPart, dPart, dM1]
            refine yesT (dVar_at rfl (strI (num60 i hi) (aS (Nat.le_trans (spare_len i hi) (by decide)) ?_)))
            exact hy _ _ ⟨i, rfl, hi, rfl⟩ (Ext.refl _)
          · have e := Outs.mapOf (f := fun i : Nat => D.int (i : Int)) (h := fun i => D.str (spareS i)) (P := fun i => i < 60) (l := List.range 60) spare_fun ho
            exact hR p m3 hE3 (by rw [hm3, e])
        · obtain ⟨i, hi, rfl⟩ := List.mem_map.mp hx
          dsimp only [dRet, dSeq, dNext, dIfS, dSet, dExpr, dAsg, dPar, gD, dOp, dUn, dArgs, dCons, dNil, dC, dB, dNot, dCall, dMeth, dMeth0, dIf, dLst, dTup, dSl, dNoPart, dPart, dM1]
          refine dVar_at rfl (dVar_at rfl (inL (.inr (.inr ⟨u, rfl, hE'.old _ _ hu2⟩)) ⟨_, rfl, iff_T (fun hc => dVar_at rfl (hy _ _ ⟨_, rfl, ?_⟩ (Ext.refl _))) fun hc => hn _ ⟨_, rfl, ?_⟩ (Ext.refl _)⟩))
          · rw [if_neg (by simpa using hc)]
          · rw [if_pos (by simpa using hc)]
        · obtain ⟨i, hi, hfree⟩ := spare_free hl
          have hne := ho.ne (d := D.str (spareS i)) (List.mem_map.mpr ⟨i, List.mem_range.mpr hi, rfl⟩) (by rintro ⟨t, e, e2⟩; cases e; rw [if_neg hfree] at e2; cases e2)
          obtain ⟨y, hy, hmem⟩ := atI_mem (xs := ys) (i := 0) (by decide) (by have := List.length_pos_iff.mpr hne; omega)
          have hall := ho.all (P := fun y => ∃ t, y = D.str t ∧ nameS t = true ∧ t ∉ us) (fun x hx y hxy => by
            obtain ⟨j, hj, rfl⟩ := List.mem_map.mp hx
            obtain ⟨t, e, e2⟩ := hxy
            cases e
            by_cases z : spareS j ∈ us
            · rw [if_pos z] at e2; cases e2
            · rw [if_neg z] at e2; cases e2; exact ⟨_, rfl, spare_ok ⟨j, List.mem_range.mp hj⟩, z⟩)
          obtain ⟨t, rfl, h1, h2⟩ := hall y hmem
          exact SeqD.ix (.inr (.inr ⟨p, rfl, hm3⟩)) hy (hR _ _ ⟨t, h1, h2, hE.trans hE3, _, _, _, _, _, rfl⟩)
    · dsimp only [dRet, dSeq, dNext, dIfS, dSet, dExpr, dAsg, dPar, gD, dOp, dUn, dArgs, dCons, dNil, dC, dB, dNot, dCall, dMeth, dMeth0, dIf, dLst, dTup, dSl, dNoPart, dPart, dM1]
      refine dVar_at rfl ⟨d, 5, rfl, by decide, by decide, hd, fun way w0 w5 => ?_⟩
      dsimp only
      refine dVar_at rfl (dVar_at rfl ⟨d, 26, rfl, by decide, by decide, hd, fun r r0 r1 => ?_⟩)
      obtain ⟨c, hc, c1, c2⟩ := ix26 r0 r1
      refine strIx (by rw [l_letters]; decide) hc ⟨_, _, rfl, dVar_at rfl (eqI ⟨_, rfl, iff_T (fun _ => ?_) fun _ => dVar_at rfl (eqI ⟨_, rfl, iff_T (fun _ => ?_) fun _ => ?_⟩)⟩)⟩
      · refine ⟨slk (by decide), fun p hp => dVar_at rfl (dVar_at rfl ⟨d, .ref p, wordsL.map D.str, rfl, hd.ext rfl, .inr (.inr ⟨p, rfl, M.set_same⟩), (fun z => by cases z), by decide, fun y hy => ?_⟩)⟩
        obtain ⟨s, hs, rfl⟩ := List.mem_map.mp hy
        exact hR _ _ ⟨s, words_ok s hs, Ext.new hp, _, _, _, _, _, rfl⟩
      · refine dVar_at rfl ⟨d, 8, rfl, by decide, by decide, hd, fun at' a0 a8 => ?_⟩
        dsimp only
        refine dVar_at rfl (bI ⟨_, rfl, iff_T (fun hz => ?_) fun hz => ?_⟩)
        · have hz : 0 < at' := by simpa using hz
          refine dVar_at rfl ⟨at', rfl, slS (by rw [l_main]; decide) (dVar_at rfl (dVar_at rfl ⟨d, 36, rfl, by decide, by decide, hd, fun r2 r20 r21 => ?_⟩))⟩
          obtain ⟨c', hc', c'2⟩ := ix36 r20 r21
          have hok := main_cut hz a8 c'2
          have hlen := (nameS_len hok).2
          have hl1 : (cutS mainS none (some at') ++ (⟨#[c']⟩ : Str)).length ≤ 1000 := by rw [len_app] at hlen; omega
          refine strIx (by rw [l_letters]; decide) hc' (aS hl1 (dVar_at rfl (aI ⟨_, rfl, slS (by rw [l_main]; decide) (aS (Nat.le_trans hlen (by decide)) (hR _ _ ⟨_, hok, Ext.refl m, _, _, _, _, _, rfl⟩))⟩)))
        · have hz : at' = 0 := by simp at hz; omega
          subst hz
          have hok := main_cut0 c1 c2
          have hlen := (nameS_len hok).2
          refine dVar_at rfl (dVar_at rfl (aI ⟨_, rfl, slS (by rw [l_main]; decide) (aS (Nat.le_trans hlen (by decide)) (hR _ _ ⟨_, hok, Ext.refl m, _, _, _, _, _, rfl⟩))⟩))
      · refine dVar_at rfl ⟨⟨_, rfl⟩, dLC_draw (n := 8) (by decide) (fun R hR => dVar_at rfl ⟨d, 8, rfl, by decide, by decide, hd, hR⟩) fun k hk => ?_⟩
        refine dLC_gen (I := fun _ => True) (Rel := fun d o => ∃ c, sgnC c = true ∧ o = some (.str ⟨#[c]⟩)) trivial (fun _ _ _ _ => trivial) cw_w (slk (by rw [rangeD_len]; omega)) (fun x hx m' hE' _ Ry Rn hy hn => ?_) (fun p m3 ys hp hE3 _ hm3 ho => ?_)
        · dsimp only [dRet, dSeq, dNext, dIfS, dSet, dExpr, dAsg, dPar, gD, dOp, dUn, dArgs, dCons, dNil, dC, dB, dNot, dCall, dMeth, dMeth0, dIf, dLst, dTup, dSl, dNoPart, dPart, dM1]
          refine yesT (dVar_at rfl (dVar_at rfl ⟨d, 36, rfl, by decide, by decide, hd.ext hE'.gh, fun r2 r20 r21 => ?_⟩))
          obtain ⟨c', hc', c'2⟩ := ix36 r20 r21
          exact strIx (by rw [l_letters]; decide) hc' (hy _ _ ⟨c', c'2, rfl⟩ (Ext.refl _))
        · obtain ⟨cs, rfl, h2, h3⟩ := ho.exL
          rw [rangeD_len] at h3
          have hok : nameS (⟨#[c]⟩ ++ Txt.join "" (cs.map fun c => ⟨#[c]⟩)) = true := nameS_of join_signs c1 c2 h2 (by omega)
          have hlen := (nameS_len hok).2
          refine ⟨"", .ref p, cs.map fun c => ⟨#[c]⟩, rfl, rfl, .inr (.inr ⟨p, rfl, by rw [hm3, List.map_map]; rfl⟩), ?_, aS (by omega) (hR _ _ ⟨_, hok, hE3, _, _, _, _, _, rfl⟩)⟩
          have e1 : ("" : Str).length = 0 := rfl
          have e2 : ((cs.map fun c => (⟨#[c]⟩ : Str)).map (·.length)).sum ≤ ((cs.map fun c => (⟨#[c]⟩ : Str)).map (·.length)).length * 1 := sum_le fun x hx => by
            simp only [List.map_map, List.mem_map] at hx
            obtain ⟨_, _, rfl⟩ := hx
            exact Nat.le_refl 1
          simp only [List.length_map] at e2
          rw [e1]; omega


end
end PR

namespace PR
open PySem PySem.Spec PyProof.Rows L2 GA GxR DL PL TM

section
variable {P : Program} {w : World} {K : PySem.W.Frag} {mg : Str → Option Value} {base : Heap} {tl td t8 t3 : Tok} {aK aO aE aP P1 P2 : Addr} (T : Txt K mg w tl td t8 t3 aK aO aE aP) (Ok : M → Prop) (hOk : ∀ a b : M, Ok a → b.gh = a.gh → Ok b)
include T hOk

theorem c_law_joints {f : Addr} {fd : FuncData} (F : Fun K "_law_joints" "_law_joints" s_law_joints f fd) (hm : mg "_law_joints" = some (.ref f)) (c_law_draw : DCal P w K mg base 1 "_law_draw" spDrawG) (c_law_pick : DCal P w K mg base 2 "_law_pick" spPick) : DCal P w K mg base 3 "_law_joints" spJoints2 := by
  refine dcal F hm (F.binds (ps := ["deck", "free", "joined"]) fun _ _ _ _ _ _ us hl => match us, hl with | [_, _, _], _ => rfl) sc_law_joints (fun ds m Q h => ?_) (fun cdv A outer s H E hr => ⟨_, (dss_cons (ds_set (i := 3) sc_law_joints.nd rfl (by first | exact Or.inl rfl | exact Or.inr rfl) (de_lst da_nil))
      (dss_cons (ds_for PassesOwn.never rfl (dpi_range (by rfl) T.range (de_call c_law_draw hr (by decide) (by rfl) (da_cons (de_var 0) (da_cons de_int da_nil)))) (dg_name (i := 4) sc_law_joints.nd rfl (by first | exact Or.inl rfl | exact Or.inr rfl)) (dss_cons (ds_set (i := 5) sc_law_joints.nd rfl (by first | exact Or.inl rfl | exact Or.inr rfl) (de_ifE (dt_cmp (dc_ne hr) (de_var 1) (de_lst da_nil)) (de_call c_law_pick hr (by decide) (by rfl) (da_cons (de_var 0) (da_cons (de_var 1) da_nil))) (de_tup (da_cons de_str (da_cons de_int da_nil)))))
      (dss_cons (ds_setLc (i := 6) (own := [("end", 8)]) rfl sc_law_joints.nd rfl rfl (sw_true rfl rfl rfl (by decide +kernel)) (dpi_list (de_var 1)) (blkOk_by (N := ["deck", "free", "joined", "joints", "turn", "one", "others", "other", "end"]) (sc := defScope s_law_joints) (by decide +kernel)) (fun _ _ _ _ _ => (dg_name (i := 8) sc_law_joints.nd rfl (by first | exact Or.inl rfl | exact Or.inr rfl))) (fun _ _ _ _ _ => (dpts_one (dt_cmp (dc_ne hr) (de_ix (de_var 8) de_int) (de_ix (de_var 5) de_int)))) (fun _ _ _ _ _ => (de_var 8)))
      (dss_one (ds_if (dt_w (dw_and (dt_cmp (dc_ne hr) (de_var 6) (de_lst da_nil)) (dw_and1 (dt_cmp (dc_ne hr) (de_var 1) (de_lst da_nil))))) (dss_cons (ds_set (i := 7) sc_law_joints.nd rfl (by first | exact Or.inl rfl | exact Or.inr rfl) (de_call c_law_pick hr (by decide) (by rfl) (da_cons (de_var 0) (da_cons (de_var 6) da_nil))))
      (dss_cons (ds_expr (de_append (de_var 3) (de_tup (da_cons (de_var 5) (da_cons (de_var 7) da_nil)))))
      (dss_cons (ds_dput hr (de_var 2) (de_var 5) (de_var 7))
      (dss_cons (ds_dput hr (de_var 2) (de_var 7) (de_var 5))
      (dss_cons (ds_expr (de_remove hr (de_var 1) (de_var 5)))
      (dss_one (ds_expr (de_remove hr (de_var 1) (de_var 7))))))))) dss_nil)))))
      (dss_one (ds_ret (de_var 3))))), fun ds m Q h => ?_⟩)
  · obtain ⟨Pe, d, f, j, es, rfl, _⟩ := h; rfl
  · obtain ⟨Pe, d, f, j, es, rfl, hd, hfj, hf, hj, hl, hnd, hes, hok, q⟩ := h
    dsimp only [dRet, dSeq, dNext, dIfS, dSet, dExpr, dAsg, dPar, dPar3, gD, dOp, dUn, dArgs, dCons, dNil, dC, dB, dNot, dCall, dMeth, dMeth0, dIf, dLst, dTup, dSl, dNoPart, dPart, dM1, dOr, dAnd, dAndV, dOrV, dDGet, dSlA, dGet1]
    refine ⟨slk (by simp), fun a ha => ?_⟩
    have naf := neOf hf ha
    have naj := neOf hj ha
    refine dFor_draw (n := 17) (by decide) (fun R hR => dVar_at rfl (drw (hd.ext rfl) (by decide) (by decide) hR)) (fun i δ m' => ∃ (js : List (PL.End × PL.End)) (es' : List PL.End) (kvs : List (PL.End × PL.End)) (d4 d5 d6 d7 d8 : Option D), δ = [some d, some (.ref f), some (.ref j), some (.ref a), d4, d5, d6, d7, d8] ∧ Chg2 f j m m' ∧
      m'.mu f = some (.lst (es'.map endD)) ∧ m'.mu j = some (.dit (joKV kvs)) ∧ m'.mu a = some (.lst (js.map joD)) ∧ (∀ x ∈ js, joOk x) ∧ js.length ≤ i ∧ (∀ e ∈ es', Pe e) ∧ es'.length ≤ es.length ∧ (∀ p ∈ kvs, Pe p.1 ∧ Pe p.2) ∧ kvs.length ≤ 2 * i ∧ JX es js es' kvs) ?_ ?_ ?_
    · exact ⟨[], es, [], _, _, _, _, _, rfl, ⟨rfl, fun x o _ _ z => (Ext.new ha).old x o z⟩, (Ext.new ha).old _ _ hf, (Ext.new ha).old _ _ hj, M.set_same, by simp, by simp, hes, Nat.le_refl _, by simp, by simp, JX.init es⟩
    · rintro i δ m' hi ⟨js, es', kvs, d4, d5, d6, d7, d8, rfl, hC, h1, h2, h3, h4, h5, h6, h7, h8, h9, hX⟩
      have hdk := hd.ext hC.gh
      have fin : ∀ x ∈ es'.map endD, Fine x := fun x hx => by
        obtain ⟨e, he, rfl⟩ := List.mem_map.mp hx
        exact end_fine (hok e (h6 e he))
      dsimp only [gD]
      refine seqR1 (fun δ2 m2 => ∃ nm k d5', (δ2 = [some d, some (.ref f), some (.ref j), some (.ref a), d5', some (.tup [.str nm, .int k]), d6, d7, d8]) ∧ Ext m' m2 ∧ (es' ≠ [] → (nm, k) ∈ es')) ?_ fun R hR => ?_
      · rintro δ2 m2 ⟨nm, k, d5', rfl, hE, hin⟩
        have f1 := hE.old _ _ h1
        refine seqR1 (fun δ3 m3 => ∃ (p : Addr) (os : List PL.End), (δ3 = [some d, some (.ref f), some (.ref j), some (.ref a), d5', some (.tup [.str nm, .int k]), some (.ref p), d7, d8]) ∧ Ext m' m3 ∧ m3.mu p = some (.lst (os.map endD)) ∧ (∀ e ∈ os, e ∈ es' ∧ e.1 ≠ nm) ∧ os.length ≤ es'.length) ?_ fun R hR => ?_
        · rintro δ3 m3 ⟨p, os, rfl, hE3, hp, hos, hosl⟩
          dsimp only [dRet, dSeq, dNext, dIfS, dSet, dExpr, dAsg, dPar, dPar3, gD, dOp, dUn, dArgs, dCons, dNil, dC, dB, dNot, dCall, dMeth, dMeth0, dIf, dLst, dTup, dSl, dNoPart, dPart, dM1, dOr, dAnd, dAndV, dOrV, dDGet, dSlA, dGet1]
          have finO : ∀ x ∈ os.map endD, Fine x := fun x hx => by
            obtain ⟨e, he, rfl⟩ := List.mem_map.mp hx
            exact end_fine (hok e (h6 e (hos e he).1))
          refine dVar_at rfl ⟨slk (by simp), fun p1 hp1 => ne_nil ((Ext.new hp1).old _ _ hp) M.set_same finO ⟨_, rfl, iff_T (fun hne => ?_) fun _ => ?_⟩⟩
          · have hE4 := hE3.trans (Ext.new (o := .lst []) hp1)
            have hp4 := (Ext.new (o := .lst []) hp1).old _ _ hp
            generalize m3.set p1 (.lst []) = m4 at hE4 hp4 ⊢
            refine dVar_at rfl ⟨slk (by simp), fun p2 hp2 => ne_nil ((Ext.new hp2).old _ _ (hE4.old _ _ h1)) M.set_same fin ⟨_, rfl, iff_T (fun _ => ?_) fun _ => ?_⟩⟩
            · have hE5 := hE4.trans (Ext.new (o := .lst []) hp2)
              have hp5 := (Ext.new (o := .lst []) hp2).old _ _ hp4
              generalize m4.set p2 (.lst []) = m5 at hE5 hp5 ⊢
              have hone : os ≠ [] := fun z => by subst z; cases hne
              refine dVar_at rfl (dVar_at rfl (pk (hdk.ext hE5.gh) hp5 hone (by omega) fun e he => ?_))
              obtain ⟨heI, heN⟩ := hos e he
              have hesne : es' ≠ [] := fun z => by subst z; cases heI
              have h0I := hin hesne
              have en : (D.tup [.str nm, .int k]) = endD (nm, k) := rfl
              have g1 := hE5.old _ _ h1
              have g2 := hE5.old _ _ h2
              have g3 := hE5.old _ _ h3
              refine dVar_at rfl ⟨⟨a, _, rfl, g3⟩, dVar_at rfl (dVar_at rfl ⟨slk (by simp), ap g3 (by rw [List.length_map]; omega) ?_⟩)⟩
              have e3 : js.map joD ++ [D.tup [D.tup [.str nm, .int k], endD e]] = (js ++ [((nm, k), e)]).map joD := by rw [List.map_append]; rfl
              rw [e3]
              have k3 : (m5.set a (.lst ((js ++ [((nm, k), e)]).map joD))).mu a = _ := M.set_same
              have k1 : (m5.set a (.lst ((js ++ [((nm, k), e)]).map joD))).mu f = _ := (M.set_ne naf).trans g1
              have k2 : (m5.set a (.lst ((js ++ [((nm, k), e)]).map joD))).mu j = _ := (M.set_ne naj).trans g2
              have k4 : Chg2 f j m (m5.set a (.lst ((js ++ [((nm, k), e)]).map joD))) := ⟨hE5.gh.trans hC.gh, fun x o x1 x2 z => by rw [M.set_ne (neOf z ha)]; exact hE5.old _ _ (hC.old x o x1 x2 z)⟩
              generalize m5.set a (.lst ((js ++ [((nm, k), e)]).map joD)) = m6 at k1 k2 k3 k4 ⊢
              dsimp only [dDPut]
              have hnk1 : ((nm, k) : PL.End) ∉ kvs.map (·.1) := by rw [hX.keys]; exact (hX.nd hnd).2.2 _ h0I
              obtain ⟨kv1, q1, q2, q3, qe1⟩ := putJo2 (e := (nm, k)) (e' := e) (kvs := kvs) hnk1
              have jl : ∀ l : List (PL.End × PL.End), (joKV l).length = l.length := fun l => by unfold joKV; rw [List.length_map]
              refine dVar_at rfl (dVar_at rfl (dVar_at rfl ⟨j, rfl, .inr ⟨joKV kvs, eKey (nm, k), k2, rfl, slk (by rw [jl]; omega), ?_⟩⟩))
              rw [show putD (joKV kvs) (eKey (nm, k)) (endD e) = joKV kv1 from q1]
              have nja : a ≠ j := fun z => naj z.symm
              have nfj : f ≠ j := hfj
              have l2 : (m6.set j (.dit (joKV kv1))).mu j = _ := M.set_same
              have l1 : (m6.set j (.dit (joKV kv1))).mu f = _ := (M.set_ne nfj).trans k1
              have l3 : (m6.set j (.dit (joKV kv1))).mu a = _ := (M.set_ne nja).trans k3
              have l4 : Chg2 f j m (m6.set j (.dit (joKV kv1))) := ⟨k4.gh, fun x o x1 x2 z => by rw [M.set_ne x2]; exact k4.old x o x1 x2 z⟩
              generalize m6.set j (.dit (joKV kv1)) = m7 at l1 l2 l3 l4 ⊢
              have hnk2 : e ∉ kv1.map (·.1) := by
                rw [qe1, List.map_append, hX.keys]
                intro z
                rcases List.mem_append.mp z with z | z
                · exact (hX.nd hnd).2.2 _ heI z
                · have z : e = (nm, k) := by simpa using z
                  exact heN (by rw [z])
              obtain ⟨kv2, q4, q5, q6, qe2⟩ := putJo2 (e := e) (e' := (nm, k)) (kvs := kv1) hnk2
              refine dVar_at rfl (dVar_at rfl (dVar_at rfl ⟨j, rfl, .inr ⟨joKV kv1, eKey e, l2, rfl, slk (by rw [jl]; omega), ?_⟩⟩))
              rw [show putD (joKV kv1) (eKey e) (D.tup [.str nm, .int k]) = joKV kv2 from q4]
              have r2 : (m7.set j (.dit (joKV kv2))).mu j = _ := M.set_same
              have r1 : (m7.set j (.dit (joKV kv2))).mu f = _ := (M.set_ne nfj).trans l1
              have r3 : (m7.set j (.dit (joKV kv2))).mu a = _ := (M.set_ne nja).trans l3
              have r4 : Chg2 f j m (m7.set j (.dit (joKV kv2))) := ⟨l4.gh, fun x o x1 x2 z => by rw [M.set_ne x2]; exact l4.old x o x1 x2 z⟩
              generalize m7.set j (.dit (joKV kv2)) = m8 at r1 r2 r3 r4 ⊢
              refine dVar_at rfl ⟨⟨f, _, rfl, r1⟩, dVar_at rfl (remE (e := (nm, k)) r1 h0I fun i1 hi1 => ?_)⟩
              have heS : e ∈ es'.eraseIdx i1 := stays hi1 heI fun z => heN (by rw [z])
              have s1 : (m8.set f (.lst ((es'.eraseIdx i1).map endD))).mu f = _ := M.set_same
              have s2 : (m8.set f (.lst ((es'.eraseIdx i1).map endD))).mu j = _ := (M.set_ne nfj.symm).trans r2
              have s3 : (m8.set f (.lst ((es'.eraseIdx i1).map endD))).mu a = _ := (M.set_ne naf.symm).trans r3
              have s4 : Chg2 f j m (m8.set f (.lst ((es'.eraseIdx i1).map endD))) := ⟨r4.gh, fun x o x1 x2 z => by rw [M.set_ne x1]; exact r4.old x o x1 x2 z⟩
              generalize m8.set f (.lst ((es'.eraseIdx i1).map endD)) = m9 at s1 s2 s3 s4 ⊢
              refine dVar_at rfl ⟨⟨f, _, rfl, s1⟩, dVar_at rfl (remE (e := e) s1 heS fun i2 hi2 => ?_)⟩
              have hsub : ∀ x ∈ (es'.eraseIdx i1).eraseIdx i2, x ∈ es' := fun x hx => List.mem_of_mem_eraseIdx (List.mem_of_mem_eraseIdx hx)
              have hlen : ((es'.eraseIdx i1).eraseIdx i2).length ≤ es'.length := Nat.le_trans (List.length_eraseIdx_le _ _) (List.length_eraseIdx_le _ _)
              refine ⟨js ++ [((nm, k), e)], (es'.eraseIdx i1).eraseIdx i2, kv2, _, _, _, _, _, rfl, ⟨s4.gh, fun x o x1 x2 z => by rw [M.set_ne x1]; exact s4.old x o x1 x2 z⟩, M.set_same, (M.set_ne nfj.symm).trans s2, (M.set_ne naf.symm).trans s3, ?_, by rw [List.length_append]; show js.length + 1 ≤ i + 1; omega, fun x hx => h6 x (hsub x hx), by omega, ?_, by omega, by rw [qe2, qe1]; exact hX.step hi1 hi2 fun z => heN z.symm⟩
              · intro x hx
                rcases List.mem_append.mp hx with hx | hx
                · exact h4 x hx
                · rw [List.mem_singleton.mp hx]; exact ⟨hok _ (h6 _ h0I), hok _ (h6 _ heI)⟩
              · intro p hp
                rcases q5 p hp with hp | rfl
                · rcases q2 p hp with hp | rfl
                  · exact h8 p hp
                  · exact ⟨h6 _ h0I, h6 _ heI⟩
                · exact ⟨h6 _ heI, h6 _ h0I⟩
            · exact ⟨js, es', kvs, _, _, _, _, _, rfl, ⟨(hE4.trans (Ext.new hp2)).gh.trans hC.gh, fun x o x1 x2 z => (hE4.trans (Ext.new hp2)).old _ _ (hC.old x o x1 x2 z)⟩, (hE4.trans (Ext.new hp2)).old _ _ h1, (hE4.trans (Ext.new hp2)).old _ _ h2, (hE4.trans (Ext.new hp2)).old _ _ h3, h4, by omega, h6, h7, h8, by omega, hX⟩
          · exact ifF rfl ⟨js, es', kvs, _, _, _, _, _, rfl, ⟨(hE3.trans (Ext.new hp1)).gh.trans hC.gh, fun x o x1 x2 z => (hE3.trans (Ext.new hp1)).old _ _ (hC.old x o x1 x2 z)⟩, (hE3.trans (Ext.new hp1)).old _ _ h1, (hE3.trans (Ext.new hp1)).old _ _ h2, (hE3.trans (Ext.new hp1)).old _ _ h3, h4, by omega, h6, h7, h8, by omega, hX⟩
        · dsimp only [dRet, dSeq, dNext, dIfS, dSet, dExpr, dAsg, dPar, dPar3, gD, dOp, dUn, dArgs, dCons, dNil, dC, dB, dNot, dCall, dMeth, dMeth0, dIf, dLst, dTup, dSl, dNoPart, dPart, dM1, dOr, dAnd, dAndV, dOrV, dDGet, dSlA, dGet1]
          refine dLC_gen (I := fun _ => True) (Rel := fun x o => ∃ e : PL.End, e ∈ es' ∧ x = endD e ∧ o = if e.1 = nm then none else some (endD e)) trivial (fun _ _ _ _ => trivial) (iL_w (xs := es'.map endD) (fun R hR => dVar_at rfl hR) f1) (slk (by rw [List.length_map]; omega)) (fun x hx m' hE' _ Ry Rn hy hn => ?_) (fun p m3 ys hp hE3 _ hm3 ho => ?_)
          · obtain ⟨e, he, rfl⟩ := List.mem_map.mp hx
            dsimp only [dRet, dSeq, dNext, dIfS, dSet, dExpr, dAsg, dPar, dPar3, gD, dOp, dUn, dArgs, dCons, dNil, dC, dB, dNot, dCall, dMeth, dMeth0, dIf, dLst, dTup, dSl, dNoPart, dPart, dM1, dOr, dAnd, dAndV, dOrV, dDGet, dSlA, dGet1]
            refine dVar_at rfl (endD_ix0 (dVar_at rfl (SeqD.ix (.inl rfl) rfl (neT ⟨_, rfl, iff_T (fun hc => dVar_at rfl (hy _ _ ⟨e, he, rfl, ?_⟩ (Ext.refl _))) fun hc => hn _ ⟨e, he, rfl, ?_⟩ (Ext.refl _)⟩))))
            · rw [if_neg (by simpa using hc)]
            · rw [if_pos (by simpa using hc)]
          · obtain ⟨os, rfl, hos⟩ := listOf (f := endD) (P := fun e => e ∈ es' ∧ e.1 ≠ nm) (ys := ys) (ho.all fun x hx y hxy => by
              obtain ⟨e, he, _, e2⟩ := hxy
              by_cases z : e.1 = nm
              · rw [if_pos z] at e2; cases e2
              · rw [if_neg z] at e2; cases e2; exact ⟨e, rfl, he, z⟩)
            have := ho.len
            rw [List.length_map, List.length_map] at this
            exact hR _ _ ⟨p, os, rfl, hE.trans hE3, hm3, hos, this⟩
      · dsimp only [dRet, dSeq, dNext, dIfS, dSet, dExpr, dAsg, dPar, dPar3, gD, dOp, dUn, dArgs, dCons, dNil, dC, dB, dNot, dCall, dMeth, dMeth0, dIf, dLst, dTup, dSl, dNoPart, dPart, dM1, dOr, dAnd, dAndV, dOrV, dDGet, dSlA, dGet1]
        refine dVar_at rfl ⟨slk (by simp), fun p hp => ne_nil ((Ext.new hp).old _ _ h1) M.set_same fin ⟨_, rfl, iff_T (fun hc => ?_) fun hc => ?_⟩⟩
        · have hne : es' ≠ [] := fun z => by subst z; cases hc
          exact dVar_at rfl (dVar_at rfl (pk (hdk.ext rfl) ((Ext.new hp).old _ _ h1) hne (by omega) fun e he => hR _ _ ⟨e.1, e.2, _, rfl, Ext.new hp, fun _ => he⟩))
        · exact ⟨slk (by simp), hR _ _ ⟨"", 0, _, rfl, Ext.new hp, fun hne => by cases es' with | nil => exact (hne rfl).elim | cons _ _ => cases hc⟩⟩
    · rintro r δ m' hr ⟨js, es', kvs, d4, d5, d6, d7, d8, rfl, hC, h1, h2, h3, h4, h5, h6, h7, h8, h9, hX⟩
      dsimp only
      exact dVar_at rfl (q a m' js es' kvs hC ha h1 h2 h3 h4 (by omega) h6 h7 h8 (by omega) hX)

end
end PR

namespace PR
open PySem PySem.Spec PyProof.Rows L2 GA GxR DL PL TM

section
variable {P : Program} {w : World} {K : PySem.W.Frag} {mg : Str → Option Value} {base : Heap} {tl td t8 t3 : Tok} {aK aO aE aP P1 P2 : Addr} (T : Txt K mg w tl td t8 t3 aK aO aE aP) (Ok : M → Prop) (hOk : ∀ a b : M, Ok a → b.gh = a.gh → Ok b)
include T hOk

theorem c_law_over {f : Addr} {fd : FuncData} (F : Fun K "_law_over" "_law_over" s_law_over f fd) (hm : mg "_law_over" = some (.ref f)) (c_law_draw : DCal P w K mg base 1 "_law_draw" spDrawG) : DCal P w K mg base 2 "_law_over" spOver2 := by
  refine dcal F hm (F.binds (ps := ["deck", "kinds", "end"]) fun _ _ _ _ _ _ us hl => match us, hl with | [_, _, _], _ => rfl) sc_law_over (fun ds m Q h => ?_) (fun cdv A outer s H E hr => ⟨_, (dss_cons (ds_asg (de_var 2) (dg_tup rfl (dgs_cons (pg_name (i := 3) sc_law_over.nd rfl (by first | exact Or.inl rfl | exact Or.inr rfl)) (dgs_cons (pg_name (i := 4) sc_law_over.nd rfl (by first | exact Or.inl rfl | exact Or.inr rfl)) dgs_nil))))
      (dss_cons (ds_if (dt_w (dw_or (dt_cmp (dc_eq hr) (de_call c_law_draw hr (by decide) (by rfl) (da_cons (de_var 0) (da_cons de_int da_nil))) de_int) (dw_or1 (dt_cmp (dc_eq hr) (de_dget hr (de_var 1) (de_var 3)) de_str)))) (dss_one (ds_ret (de_tup da_nil))) dss_nil)
      (dss_one (ds_ret (de_tup (da_cons (de_tup (da_cons (de_var 3) (da_cons (de_var 4) (da_cons (de_ifE (dt_cmp (dc_eq hr) (de_dget hr (de_var 1) (de_var 3)) de_str) (de_sub de_int (de_var 4)) (de_xor (de_var 4) de_int)) da_nil)))) da_nil)))))), fun ds m Q h => ?_⟩)
  · obtain ⟨d, k, kvs, e, rfl, _⟩ := h; rfl
  · obtain ⟨d, k, kvs, e, rfl, hd, hk, nd, ⟨he, kind, hkm, hks, hlt⟩, q⟩ := h
    dsimp only [dRet, dSeq, dNext, dIfS, dSet, dExpr, dAsg, dPar, dPar3, gD, dOp, dUn, dArgs, dCons, dNil, dC, dB, dNot, dCall, dMeth, dMeth0, dIf, dLst, dTup, dSl, dNoPart, dPart, dM1, dOr, dAnd, dAndV, dOrV, dDGet, dSlA, dGet1]
    have hg : GetD m k (.str e.1) (some (.str kind)) := .inl ⟨_, .inr e.1, hk, rfl, (valStr hkm nd).symm⟩
    refine dVar_at rfl ⟨[.str e.1, .int e.2], .inl rfl, rfl, dVar_at rfl (drw hd (by decide) (by decide) fun r r0 r1 => eqI ⟨_, rfl, iff_T (fun _ => ?_) fun _ => ?_⟩)⟩
    · exact ifT rfl ⟨slk (by simp), q none fun t h => by cases h⟩
    · refine dVar_at rfl (dVar_at rfl ⟨k, _, rfl, hg, eqT ⟨_, rfl, iff_T (fun _ => ⟨slk (by simp), q none fun t h => by cases h⟩) fun hnp => ?_⟩⟩)
      refine dVar_at rfl (dVar_at rfl (dVar_at rfl (dVar_at rfl ⟨k, _, rfl, hg, eqT ⟨_, rfl, iff_T (fun hc => ?_) fun hc => ?_⟩⟩)))
      · have hc : kind = "plain" := by simpa using hc
        subst hc
        have h2 := he.2
        refine dVar_at rfl (rI trivial ⟨slk (by simp), slk (by simp), q (some (e.1, e.2, 1 - e.2)) fun t h => ?_⟩)
        cases h
        have e2 : nEnds "plain" = 2 := rfl
        exact ⟨⟨he.1, he.2, by unfold numOk at h2 ⊢; show 0 ≤ 1 - e.2 ∧ 1 - e.2 ≤ 3; omega⟩, rfl, rfl, "plain", hkm, .inl rfl, way_plain h2.1 hlt⟩
      · have hnp : kind ≠ "points" := by simpa using hnp
        have hnq : kind ≠ "plain" := by simpa using hc
        have hcr : kind = "crossing" := by
          rcases kind3 hks with z | z | z
          · exact (hnq z).elim
          · exact (hnp z).elim
          · exact z
        subst hcr
        refine dVar_at rfl (rI trivial ⟨slk (by simp), slk (by simp), q (some (e.1, e.2, Builtin.bitXor e.2 1)) fun t h => ?_⟩)
        cases h
        exact ⟨⟨he.1, he.2, xor_ok he.2⟩, rfl, rfl, "crossing", hkm, .inr rfl, way_cross he.2.1 he.2.2⟩

end
end PR

namespace PR
open PySem PySem.Spec PyProof.Rows L2 GA GxR DL PL TM

section
variable {P : Program} {w : World} {K : PySem.W.Frag} {mg : Str → Option Value} {base : Heap} {tl td t8 t3 : Tok} {aK aO aE aP P1 P2 : Addr} (T : Txt K mg w tl td t8 t3 aK aO aE aP) (Ok : M → Prop) (hOk : ∀ a b : M, Ok a → b.gh = a.gh → Ok b)
include T hOk

theorem c_law_checked {f : Addr} {fd : FuncData} (F : Fun K "_law_checked" "_law_checked" s_law_checked f fd) (hm : mg "_law_checked" = some (.ref f)) (c_law_draw : DCal P w K mg base 1 "_law_draw" spDrawG) (c_law_pick : DCal P w K mg base 2 "_law_pick" spPick) (c_law_name : DCal P w K mg base 3 "_law_name" spName) (c_law_over : DCal P w K mg base 2 "_law_over" spOver2) (c_law_joints : DCal P w K mg base 3 "_law_joints" spJoints2) : DCal P w K mg base 4 "_law_checked" spChecked2 := by
  refine dcal F hm (F.binds (ps := ["deck", "used", "most"]) fun _ _ _ _ _ _ us hl => match us, hl with | [_, _, _], _ => rfl) sc_law_checked (fun ds m Q h => ?_) (fun cdv A outer s H E hr => ⟨_, (dss_cons (ds_asg (de_tup (da_cons (de_disp (.cons de_int (.cons de_int (.cons de_int .nil)))) (da_cons de_newK (da_cons (de_lst da_nil) (da_cons de_newT da_nil))))) (dg_tup rfl (dgs_cons (pg_name (i := 6) sc_law_checked.nd rfl (by first | exact Or.inl rfl | exact Or.inr rfl)) (dgs_cons (pg_name (i := 7) sc_law_checked.nd rfl (by first | exact Or.inl rfl | exact Or.inr rfl)) (dgs_cons (pg_name (i := 5) sc_law_checked.nd rfl (by first | exact Or.inl rfl | exact Or.inr rfl)) (dgs_cons (pg_name (i := 8) sc_law_checked.nd rfl (by first | exact Or.inl rfl | exact Or.inr rfl)) dgs_nil))))))
      (dss_cons (ds_par3 rfl sc_law_checked.nd (i := 9) (j := 10) (l := 11) rfl rfl rfl (by decide) (by decide) (by decide) rfl rfl rfl (da_cons (de_lst da_nil) (da_cons (de_lst da_nil) (da_cons (de_lst da_nil) da_nil))) (by rfl))
      (dss_cons (ds_for PassesOwn.never rfl (dpi_range (by rfl) T.range (de_call c_law_draw hr (by decide) (by rfl) (da_cons (de_var 0) (da_cons (de_add (de_var 2) de_int) da_nil)))) (dg_name (i := 3) sc_law_checked.nd rfl (by first | exact Or.inl rfl | exact Or.inr rfl)) (dss_cons (ds_set (i := 12) sc_law_checked.nd rfl (by first | exact Or.inl rfl | exact Or.inr rfl) (de_call c_law_pick hr (by decide) (by rfl) (da_cons (de_var 0) (da_cons (de_lst (da_cons de_str (da_cons de_str (da_cons de_str (da_cons de_str (da_cons de_str (da_cons de_str da_nil))))))) da_nil))))
      (dss_cons (ds_set (i := 13) sc_law_checked.nd rfl (by first | exact Or.inl rfl | exact Or.inr rfl) (de_call c_law_name hr (by decide) (by rfl) (da_cons (de_var 0) (da_cons (de_var 1) da_nil))))
      (dss_cons (ds_expr (de_append (de_var 9) (de_tup (da_cons (de_var 13) (da_cons (de_var 12) da_nil)))))
      (dss_cons (ds_dput hr (de_var 7) (de_var 13) (de_var 12))
      (dss_one (ds_set (i := 5) sc_law_checked.nd rfl (by first | exact Or.inl rfl | exact Or.inr rfl) (de_add (de_var 5) (de_lc (own := [("end", 14)]) rfl sc_law_checked.nd (dpi_range (by rfl) T.range (de_dget hr (de_var 6) (de_var 12))) (blkOk_by (N := ["deck", "used", "most", "turn", "joints", "free", "many", "kinds", "joined", "stretches", "gates", "signals", "kind", "name", "end"]) (sc := defScope s_law_checked) (by decide +kernel)) (fun _ _ _ _ _ => (dg_name (i := 14) sc_law_checked.nd rfl (by first | exact Or.inl rfl | exact Or.inr rfl))) (fun _ _ _ _ _ => dpts_nil) (fun _ _ _ _ _ => (de_tup (da_cons (de_var 13) (da_cons (de_var 14) da_nil)))))))))))))
      (dss_cons (ds_set (i := 4) sc_law_checked.nd rfl (by first | exact Or.inl rfl | exact Or.inr rfl) (de_call c_law_joints hr (by decide) (by rfl) (da_cons (de_var 0) (da_cons (de_var 5) (da_cons (de_var 8) da_nil)))))
      (dss_cons (ds_setLc (i := 5) (own := [("end", 14)]) rfl sc_law_checked.nd rfl rfl (sw_true rfl rfl rfl (by decide +kernel)) (dpi_list (de_var 5)) (blkOk_by (N := ["deck", "used", "most", "turn", "joints", "free", "many", "kinds", "joined", "stretches", "gates", "signals", "kind", "name", "end"]) (sc := defScope s_law_checked) (by decide +kernel)) (fun _ _ _ _ _ => (dg_name (i := 14) sc_law_checked.nd rfl (by first | exact Or.inl rfl | exact Or.inr rfl))) (fun _ _ _ _ _ => (dpts_one (dt_cmp (dc_eq hr) (de_dget hr (de_var 7) (de_ix (de_var 14) de_int)) de_str))) (fun _ _ _ _ _ => (de_var 14)))
      (dss_cons (ds_for PassesOwn.never rfl (dpi_range (by rfl) T.range (de_call c_law_draw hr (by decide) (by rfl) (da_cons (de_var 0) (da_cons de_int da_nil)))) (dg_name (i := 3) sc_law_checked.nd rfl (by first | exact Or.inl rfl | exact Or.inr rfl)) (dss_one (ds_if (dt_cmp (dc_ne hr) (de_var 5) (de_lst da_nil)) (dss_one (ds_expr (de_append (de_var 10) (de_tup (da_cons (de_call c_law_name hr (by decide) (by rfl) (da_cons (de_var 0) (da_cons (de_var 1) da_nil))) (da_cons (de_popAt (de_var 5) (de_call c_law_draw hr (by decide) (by rfl) (da_cons (de_var 0) (da_cons (de_len (by rfl) T.len (da_cons (de_var 5) da_nil)) da_nil)))) da_nil)))))) dss_nil)))
      (dss_cons (ds_lock (n := 8) (ds_setLc (i := 5) (own := [("end", 14)]) rfl sc_law_checked.nd rfl rfl (sw_true rfl rfl rfl (by decide +kernel)) (dpi_keys (n := 8) (pe_var rfl (by first | exact Or.inl rfl | exact Or.inr (Or.inl rfl) | exact Or.inr (Or.inr rfl)))) (blkOk_by (N := ["deck", "used", "most", "turn", "joints", "free", "many", "kinds", "joined", "stretches", "gates", "signals", "kind", "name", "end"]) (sc := defScope s_law_checked) (by decide +kernel)) (fun _ _ _ _ _ => (dg_name (i := 14) sc_law_checked.nd rfl (by first | exact Or.inl rfl | exact Or.inr rfl))) (fun _ _ _ _ _ => (dpts_one (dt_cmp (dc_eq hr) (de_dget hr (de_var 7) (de_ix (de_var 14) de_int)) de_str))) (fun _ _ _ _ _ => (de_var 14))))
      (dss_cons (ds_for PassesOwn.never rfl (dpi_range (by rfl) T.range (de_call c_law_draw hr (by decide) (by rfl) (da_cons (de_var 0) (da_cons de_int da_nil)))) (dg_name (i := 3) sc_law_checked.nd rfl (by first | exact Or.inl rfl | exact Or.inr rfl)) (dss_one (ds_if (dt_cmp (dc_ne hr) (de_var 5) (de_lst da_nil)) (dss_cons (ds_set (i := 14) sc_law_checked.nd rfl (by first | exact Or.inl rfl | exact Or.inr rfl) (de_popAt (de_var 5) (de_call c_law_draw hr (by decide) (by rfl) (da_cons (de_var 0) (da_cons (de_len (by rfl) T.len (da_cons (de_var 5) da_nil)) da_nil)))))
      (dss_one (ds_expr (de_append (de_var 11) (de_tup (da_cons (de_call c_law_name hr (by decide) (by rfl) (da_cons (de_var 0) (da_cons (de_var 1) da_nil))) (da_cons (de_var 14) (da_cons (de_call c_law_over hr (by decide) (by rfl) (da_cons (de_var 0) (da_cons (de_var 7) (da_cons (de_dget hr (de_var 8) (de_var 14)) da_nil)))) da_nil)))))))) dss_nil)))
      (dss_one (ds_ret (de_tup (da_cons (de_bty call_tuple_of argl_tuple (by rfl) T.tuple (by decide +kernel) (da_cons (de_var 9) da_nil)) (da_cons (de_bty call_tuple_of argl_tuple (by rfl) T.tuple (by decide +kernel) (da_cons (de_var 4) da_nil)) (da_cons (de_bty call_tuple_of argl_tuple (by rfl) T.tuple (by decide +kernel) (da_cons (de_var 10) da_nil)) (da_cons (de_bty call_tuple_of argl_tuple (by rfl) T.tuple (by decide +kernel) (da_cons (de_var 11) da_nil)) da_nil))))))))))))))), fun ds m Q h => ?_⟩)
  · obtain ⟨d, u, us, k, rfl, _⟩ := h; rfl
  · obtain ⟨d, u, us0, k, rfl, hd, hu, hl0, hk12, q⟩ := h
    dsimp only [dRet, dSeq, dNext, dIfS, dSet, dExpr, dAsg, dPar, dPar3, gD, dOp, dUn, dArgs, dCons, dNil, dC, dB, dNot, dCall, dMeth, dMeth0, dIf, dLst, dTup, dSl, dNoPart, dPart, dM1, dOr, dAnd, dAndV, dOrV, dDGet, dSlA, dGet1]
    refine dDisp_many fun pm hpm => ?_
    dsimp only [dNewK, dNewT]
    have EA : Ext m ((m.set pm (.dic [])).set pm (.dic manyD)) := (Ext.new hpm).set hpm
    have v0 : ∀ a ∈ [u], m.mu a ≠ none := fun a ha => by rw [List.mem_singleton.mp ha, hu]; exact fun z => by cases z
    have ndA := nd_add (o := .dic []) (by simp : [u].Nodup) v0 hpm
    have vA : ∀ a ∈ [u] ++ [pm], ((m.set pm (.dic [])).set pm (.dic manyD)).mu a ≠ none := fun a ha => by
      by_cases z : a = pm
      · subst z; rw [M.set_same]; exact fun z => by cases z
      · rw [M.set_ne z]; exact ndA.2 a ha
    have mA : ((m.set pm (.dic [])).set pm (.dic manyD)).mu pm = some (.dic manyD) := M.set_same
    generalize (m.set pm (.dic [])).set pm (.dic manyD) = m1 at EA vA mA ⊢
    intro pk hpk
    have ndB := nd_add (o := .dic (strKV [])) ndA.1 vA hpk
    have EB := Ext.new (o := .dic (strKV [])) hpk
    have kB : (m1.set pk (.dic (strKV []))).mu pk = _ := M.set_same
    have eqB : m1.set pk (.dic []) = m1.set pk (.dic (strKV [])) := rfl
    rw [eqB]
    generalize m1.set pk (.dic (strKV [])) = m2 at EB ndB kB ⊢
    refine ⟨slk (by simp), fun pf hpf => ?_⟩
    have ndC := nd_add (o := .lst []) ndB.1 ndB.2 hpf
    have EC := Ext.new (o := .lst []) hpf
    have fC : (m2.set pf (.lst [])).mu pf = _ := M.set_same
    generalize m2.set pf (.lst []) = m3 at EC ndC fC ⊢
    intro pj hpj
    have ndD := nd_add (o := .dit []) ndC.1 ndC.2 hpj
    have ED := Ext.new (o := .dit []) hpj
    have jD : (m3.set pj (.dit [])).mu pj = _ := M.set_same
    generalize m3.set pj (.dit []) = m4 at ED ndD jD ⊢
    refine ⟨slk (by simp), [.ref pm, .ref pk, .ref pf, .ref pj], .inl rfl, rfl, slk (by simp), fun ps hps => ?_⟩
    have ndE := nd_add (o := .lst []) ndD.1 ndD.2 hps
    have EE := Ext.new (o := .lst []) hps
    have sE : (m4.set ps (.lst [])).mu ps = _ := M.set_same
    generalize m4.set ps (.lst []) = m5 at EE ndE sE ⊢
    refine ⟨slk (by simp), fun pg hpg => ?_⟩
    have ndF := nd_add (o := .lst []) ndE.1 ndE.2 hpg
    have EF := Ext.new (o := .lst []) hpg
    have gF : (m5.set pg (.lst [])).mu pg = _ := M.set_same
    generalize m5.set pg (.lst []) = m6 at EF ndF gF ⊢
    refine ⟨slk (by simp), fun pi hpi => ?_⟩
    have ndG := nd_add (o := .lst []) ndF.1 ndF.2 hpi
    have EG := Ext.new (o := .lst []) hpi
    have iG : (m6.set pi (.lst [])).mu pi = _ := M.set_same
    generalize m6.set pi (.lst []) = m7 at EG ndG iG ⊢
    have nd := ndG.1
    have E7 := (((((EA.trans EB).trans EC).trans ED).trans EE).trans EF).trans EG
    have N : ∀ (i j : Nat) (a b : Addr), ([u, pm, pk, pf, pj, ps, pg, pi] : List Addr)[i]? = some a → ([u, pm, pk, pf, pj, ps, pg, pi] : List Addr)[j]? = some b → i ≠ j → a ≠ b := fun i j a b h1 h2 h3 => nd_ne nd h1 h2 h3
    have nupm : pm ≠ u := N 1 0 _ _ rfl rfl (by decide)
    have nupk : pk ≠ u := N 2 0 _ _ rfl rfl (by decide)
    have nupj : pj ≠ u := N 4 0 _ _ rfl rfl (by decide)
    have nups : ps ≠ u := N 5 0 _ _ rfl rfl (by decide)
    have nupg : pg ≠ u := N 6 0 _ _ rfl rfl (by decide)
    have nupi : pi ≠ u := N 7 0 _ _ rfl rfl (by decide)
    have nsm : pm ≠ ps := N 1 5 _ _ rfl rfl (by decide)
    have nsk : pk ≠ ps := N 2 5 _ _ rfl rfl (by decide)
    have nsj : pj ≠ ps := N 4 5 _ _ rfl rfl (by decide)
    have nsg : pg ≠ ps := N 6 5 _ _ rfl rfl (by decide)
    have nsi : pi ≠ ps := N 7 5 _ _ rfl rfl (by decide)
    have nkm : pm ≠ pk := N 1 2 _ _ rfl rfl (by decide)
    have nkj : pj ≠ pk := N 4 2 _ _ rfl rfl (by decide)
    have nkg : pg ≠ pk := N 6 2 _ _ rfl rfl (by decide)
    have nki : pi ≠ pk := N 7 2 _ _ rfl rfl (by decide)
    have njm : pm ≠ pj := N 1 4 _ _ rfl rfl (by decide)
    have njg : pg ≠ pj := N 6 4 _ _ rfl rfl (by decide)
    have nji : pi ≠ pj := N 7 4 _ _ rfl rfl (by decide)
    have ngi : pi ≠ pg := N 7 6 _ _ rfl rfl (by decide)
    have ngm : pm ≠ pg := N 1 6 _ _ rfl rfl (by decide)
    have nim : pm ≠ pi := N 1 7 _ _ rfl rfl (by decide)
    have fr : ∀ {x y : M} {p : Addr}, Ext x y → y.mu p = none → x.mu p = none := fun {x y p} hE hp => by
      cases e : x.mu p with
      | none => rfl
      | some o => rw [hE.old _ _ e] at hp; cases hp
    have frC : ∀ {y : M} {p : Addr} {o : DO}, Chg u m y → y.mu u = some o → y.mu p = none → m.mu p = none := fun {y p o} hE hu' hp => by
      cases e : m.mu p with
      | none => rfl
      | some o' => rw [hE.old _ _ (fun z => by subst z; rw [hu'] at hp; cases hp) e] at hp; cases hp
    have f_pk : m.mu pk = none := fr EA hpk
    have f_pj : m.mu pj = none := fr ((EA.trans EB).trans EC) hpj
    have f_ps : m.mu ps = none := fr (((EA.trans EB).trans EC).trans ED) hps
    have f_pg : m.mu pg = none := fr ((((EA.trans EB).trans EC).trans ED).trans EE) hpg
    have f_pi : m.mu pi = none := fr (((((EA.trans EB).trans EC).trans ED).trans EE).trans EF) hpi
    refine ⟨_, _, _, rfl, ?_⟩
    refine dFor_draw (n := (k : Int) + 1) (by omega) (by intro R hR; dsimp only [dRet, dSeq, dNext, dIfS, dSet, dExpr, dAsg, dPar, dPar3, gD, dOp, dUn, dArgs, dCons, dNil, dC, dB, dNot, dCall, dMeth, dMeth0, dIf, dLst, dTup, dSl, dNoPart, dPart, dM1, dOr, dAnd, dAndV, dOrV, dDGet, dSlA, dGet1]; exact dVar_at rfl (dVar_at rfl (aI (drw (hd.ext E7.gh) (by omega) (by omega) hR)))) (fun i δ m' => ∃ (kvs : List (Str × Str)) (es : List PL.End) (pf : Addr) (d3 d12 d13 d14 : Option D),
      δ = [some d, some (.ref u), some (.int k), d3, none, some (.ref pf), some (.ref pm), some (.ref pk), some (.ref pj), some (.ref ps), some (.ref pg), some (.ref pi), d12, d13, d14] ∧ Chg u m m' ∧
      m'.mu u = some (.lst ((us0 ++ kvs.map (·.1)).map D.str)) ∧ m'.mu pm = some (.dic manyD) ∧ m'.mu pk = some (.dic (strKV kvs)) ∧ m'.mu pj = some (.dit []) ∧ m'.mu ps = some (.lst (kvs.map strD)) ∧ m'.mu pg = some (.lst []) ∧ m'.mu pi = some (.lst []) ∧ m'.mu pf = some (.lst (es.map endD)) ∧
      (pf ≠ u ∧ pf ≠ pk ∧ pf ≠ pj ∧ pf ≠ ps ∧ pf ≠ pg ∧ pf ≠ pi ∧ m.mu pf = none) ∧ NV us0 (us0 ++ kvs.map (·.1)) (kvs.map (·.1)) ∧ kvs.length = i ∧ (∀ p ∈ kvs, strOk' p) ∧ (∀ e ∈ es, KE kvs e) ∧ es.length ≤ 4 * i ∧ es = stEnds kvs) ?_ ?_ ?_
    · refine ⟨[], [], pf, _, _, _, _, rfl, E7.chg u, by rw [E7.old _ _ hu]; simp, ?_, ?_, ?_, ?_, ?_, iG, ?_, ⟨N 3 0 _ _ rfl rfl (by decide), N 3 2 _ _ rfl rfl (by decide), N 3 4 _ _ rfl rfl (by decide), N 3 5 _ _ rfl rfl (by decide), N 3 6 _ _ rfl rfl (by decide), N 3 7 _ _ rfl rfl (by decide), fr (EA.trans EB) hpf⟩, by simpa using NV.init us0, rfl, by simp, by simp, by simp, rfl⟩
      · exact (((((EB.trans EC).trans ED).trans EE).trans EF).trans EG).old _ _ mA
      · exact ((((EC.trans ED).trans EE).trans EF).trans EG).old _ _ kB
      · exact ((EE.trans EF).trans EG).old _ _ jD
      · exact (EF.trans EG).old _ _ sE
      · exact EG.old _ _ gF
      · exact (((ED.trans EE).trans EF).trans EG).old _ _ fC
    · rintro i δ m' hi ⟨kvs, es, pf', d3, d12, d13, d14, rfl, hC, h1, h2, h3, h4, h5, h6, h7, h8, ⟨x1, x2, x3, x4, x5, x6, xm⟩, hnv, hkl, hst, hes, hesl, heq⟩
      have hnd := hnv.nd
      dsimp only [dRet, dSeq, dNext, dIfS, dSet, dExpr, dAsg, dPar, dPar3, gD, dOp, dUn, dArgs, dCons, dNil, dC, dB, dNot, dCall, dMeth, dMeth0, dIf, dLst, dTup, dSl, dNoPart, dPart, dM1, dOr, dAnd, dAndV, dOrV, dDGet, dSlA, dGet1]
      have hdk := hd.ext hC.gh
      refine dVar_at rfl ⟨slk (by simp), fun p hp => pk' (l := ["plain", "plain", "plain", "points", "points", "crossing"]) (hdk.ext rfl) M.set_same (by simp) (by simp) fun kind hkind => ?_⟩
      have hkS := kinds6 kind hkind
      have E1 := Ext.new (o := .lst ((["plain", "plain", "plain", "points", "points", "crossing"] : List Str).map D.str)) hp
      have a1 := E1.old _ _ h1; have a2 := E1.old _ _ h2; have a3 := E1.old _ _ h3; have a4 := E1.old _ _ h4; have a5 := E1.old _ _ h5; have a6 := E1.old _ _ h6; have a7 := E1.old _ _ h7; have a8 := E1.old _ _ h8
      have C1 := hC.ext E1
      have eq1 : m'.set p (.lst [.str "plain", .str "plain", .str "plain", .str "points", .str "points", .str "crossing"]) = m'.set p (.lst ((["plain", "plain", "plain", "points", "points", "crossing"] : List Str).map D.str)) := rfl
      rw [eq1]
      generalize m'.set p (.lst ((["plain", "plain", "plain", "points", "points", "crossing"] : List Str).map D.str)) = n1 at C1 a1 a2 a3 a4 a5 a6 a7 a8 ⊢
      refine dVar_at rfl (dVar_at rfl ⟨d, u, us0 ++ kvs.map (·.1), rfl, hd.ext C1.gh, a1, by rw [List.length_append, List.length_map]; omega, fun s n2 hs hn0 hC2 hu2 => ?_⟩)
      have hn : s ∉ kvs.map (·.1) := fun z => hn0 (List.mem_append_right _ z)
      have b2 := hC2.old _ _ nupm a2; have b3 := hC2.old _ _ nupk a3; have b4 := hC2.old _ _ nupj a4; have b5 := hC2.old _ _ nups a5; have b6 := hC2.old _ _ nupg a6; have b7 := hC2.old _ _ nupi a7; have b8 := hC2.old _ _ x1 a8
      have C2 : Chg u m n2 := ⟨hC2.gh.trans C1.gh, fun x o z w => hC2.old x o z (C1.old x o z w)⟩
      refine dVar_at rfl ⟨⟨ps, _, rfl, b5⟩, dVar_at rfl (dVar_at rfl ⟨slk (by simp), ap b5 (by rw [List.length_map]; omega) ?_⟩)⟩
      have e5 : kvs.map strD ++ [D.tup [D.str s, D.str kind]] = (kvs ++ [(s, kind)]).map strD := by rw [List.map_append]; rfl
      rw [e5]
      have c1 : (n2.set ps (.lst ((kvs ++ [(s, kind)]).map strD))).mu u = _ := (M.set_ne nups.symm).trans hu2
      have c2 : (n2.set ps (.lst ((kvs ++ [(s, kind)]).map strD))).mu pm = _ := (M.set_ne nsm).trans b2
      have c3 : (n2.set ps (.lst ((kvs ++ [(s, kind)]).map strD))).mu pk = _ := (M.set_ne nsk).trans b3
      have c4 : (n2.set ps (.lst ((kvs ++ [(s, kind)]).map strD))).mu pj = _ := (M.set_ne nsj).trans b4
      have c5 : (n2.set ps (.lst ((kvs ++ [(s, kind)]).map strD))).mu ps = _ := M.set_same
      have c6 : (n2.set ps (.lst ((kvs ++ [(s, kind)]).map strD))).mu pg = _ := (M.set_ne nsg).trans b6
      have c7 : (n2.set ps (.lst ((kvs ++ [(s, kind)]).map strD))).mu pi = _ := (M.set_ne nsi).trans b7
      have c8 : (n2.set ps (.lst ((kvs ++ [(s, kind)]).map strD))).mu pf' = _ := (M.set_ne x4).trans b8
      have C3 : Chg u m (n2.set ps (.lst ((kvs ++ [(s, kind)]).map strD))) := ⟨C2.gh, fun x o z w => by rw [M.set_ne (neOf w f_ps)]; exact C2.old x o z w⟩
      generalize n2.set ps (.lst ((kvs ++ [(s, kind)]).map strD)) = n3 at c1 c2 c3 c4 c5 c6 c7 c8 C3 ⊢
      dsimp only [dDPut]
      refine dVar_at rfl (dVar_at rfl (dVar_at rfl ⟨pk, rfl, .inl ⟨strKV kvs, .inr s, c3, rfl, slk (by unfold strKV; rw [List.length_map]; omega), ?_⟩⟩))
      rw [putStr hn]
      have g1 : (n3.set pk (.dic (strKV (kvs ++ [(s, kind)])))).mu u = _ := (M.set_ne nupk.symm).trans c1
      have g2 : (n3.set pk (.dic (strKV (kvs ++ [(s, kind)])))).mu pm = _ := (M.set_ne nkm).trans c2
      have g3 : (n3.set pk (.dic (strKV (kvs ++ [(s, kind)])))).mu pk = _ := M.set_same
      have g4 : (n3.set pk (.dic (strKV (kvs ++ [(s, kind)])))).mu pj = _ := (M.set_ne nkj).trans c4
      have g5 : (n3.set pk (.dic (strKV (kvs ++ [(s, kind)])))).mu ps = _ := (M.set_ne nsk.symm).trans c5
      have g6 : (n3.set pk (.dic (strKV (kvs ++ [(s, kind)])))).mu pg = _ := (M.set_ne nkg).trans c6
      have g7 : (n3.set pk (.dic (strKV (kvs ++ [(s, kind)])))).mu pi = _ := (M.set_ne nki).trans c7
      have g8 : (n3.set pk (.dic (strKV (kvs ++ [(s, kind)])))).mu pf' = _ := (M.set_ne x2).trans c8
      have C4 : Chg u m (n3.set pk (.dic (strKV (kvs ++ [(s, kind)])))) := ⟨C3.gh, fun x o z w => by rw [M.set_ne (neOf w f_pk)]; exact C3.old x o z w⟩
      generalize n3.set pk (.dic (strKV (kvs ++ [(s, kind)]))) = n4 at g1 g2 g3 g4 g5 g6 g7 g8 C4 ⊢
      obtain ⟨n, hnE, hval, n0, n4', npl⟩ := many_val2 hkS
      refine dVar_at rfl ?_
      refine dLC_gen (I := fun _ => True) (Rel := fun x o => ∃ j : Nat, x = D.int (j : Int) ∧ (j : Int) < n ∧ o = some (endD (s, (j : Int)))) trivial (fun _ _ _ _ => trivial) (iR_w (j := n) (by intro R hR; dsimp only [dDGet]; exact dVar_at rfl (dVar_at rfl ⟨pm, _, rfl, .inl ⟨manyD, .inr kind, g2, rfl, hval.symm⟩, hR⟩)) (by omega) (by omega)) (slk (by rw [rangeD_len]; omega)) (fun x hx m' hE' _ Ry Rn hy hn => ?_) (fun p m3 ys hp hE3 _ hm3 ho => ?_)
      · unfold rangeD at hx
        obtain ⟨j, hj, rfl⟩ := List.mem_map.mp hx
        have hj : j < n.toNat := List.mem_range.mp hj
        dsimp only [dRet, dSeq, dNext, dIfS, dSet, dExpr, dAsg, dPar, dPar3, gD, dOp, dUn, dArgs, dCons, dNil, dC, dB, dNot, dCall, dMeth, dMeth0, dIf, dLst, dTup, dSl, dNoPart, dPart, dM1, dOr, dAnd, dAndV, dOrV, dDGet, dSlA, dGet1]
        refine yesT ?_
        exact dVar_at rfl (dVar_at rfl ⟨slk (by simp), hy _ _ ⟨j, rfl, by omega, rfl⟩ (Ext.refl _)⟩)
      · have hys := Outs.mapOf (f := fun j : Nat => D.int (j : Int)) (h := fun j : Nat => endD (s, (j : Int))) (P := fun j : Nat => (j : Int) < n) (l := List.range n.toNat) (fun a b e => by
          injection e with e
          rw [e]) ho
        obtain ⟨es2, hes2e, rfl⟩ : ∃ es2 : List PL.End, es2 = (List.range n.toNat).map (fun j : Nat => (s, (j : Int))) ∧ ys = es2.map endD := ⟨_, rfl, by rw [hys, List.map_map]; rfl⟩
        have hl2 : es2.length = n.toNat := by rw [hes2e, List.length_map, List.length_range]
        have hes2 : ∀ x ∈ es2, KE (kvs ++ [(s, kind)]) x := fun x hx => by
          rw [hes2e] at hx
          obtain ⟨j, hj, rfl⟩ := List.mem_map.mp hx
          have hj : j < n.toNat := List.mem_range.mp hj
          refine ⟨⟨hs, by unfold numOk; dsimp only; omega⟩, kind, List.mem_append_right _ List.mem_cons_self, hkS, fun z => ?_⟩
          have := npl z
          show (j : Int) ≤ 1
          omega
        refine addL (hE3.old _ _ g8) hm3 (by simp only [List.length_map]; omega) fun p2 hp2 => ?_
        have e8 : es.map endD ++ es2.map endD = (es ++ es2).map endD := by rw [List.map_append]
        rw [e8]
        have E5 := hE3.trans (Ext.new (o := .lst ((es ++ es2).map endD)) hp2)
        have EN : ∀ a o, n4.mu a = some o → p2 ≠ a := fun a o z => (neOf (hE3.old _ _ z) hp2).symm
        refine ⟨kvs ++ [(s, kind)], es ++ es2, p2, _, _, _, _, rfl, C4.ext E5, by rw [E5.old _ _ g1]; simp, E5.old _ _ g2, E5.old _ _ g3, E5.old _ _ g4, E5.old _ _ g5, E5.old _ _ g6, E5.old _ _ g7, M.set_same, ⟨EN _ _ g1, EN _ _ g3, EN _ _ g4, EN _ _ g5, EN _ _ g6, EN _ _ g7, frC (C4.ext hE3) (hE3.old _ _ g1) hp2⟩, ?_, by rw [List.length_append, hkl]; rfl, ?_, ?_, by rw [List.length_append]; omega, by rw [heq, stEnds_snoc, hes2e, hnE]⟩
        · have z := hnv.step hn0
          rw [List.append_assoc] at z
          rw [List.map_append]; exact z
        · intro x hx
          rcases List.mem_append.mp hx with hx | hx
          · exact hst x hx
          · rw [List.mem_singleton.mp hx]; exact ⟨hs, hkS⟩
        · intro x hx
          rcases List.mem_append.mp hx with hx | hx
          · exact (hes x hx).more
          · exact hes2 x hx
    · rintro r δ m' hr ⟨kvs, es, pf', d3, d12, d13, d14, rfl, hC, h1, h2, h3, h4, h5, h6, h7, h8, ⟨x1, x2, x3, x4, x5, x6, xm⟩, hnv, hkl, hst, hes, hesl, heq⟩
      have hnd := hnv.nd
      dsimp only [dRet, dSeq, dNext, dIfS, dSet, dExpr, dAsg, dPar, dPar3, gD, dOp, dUn, dArgs, dCons, dNil, dC, dB, dNot, dCall, dMeth, dMeth0, dIf, dLst, dTup, dSl, dNoPart, dPart, dM1, dOr, dAnd, dAndV, dOrV, dDGet, dSlA, dGet1]
      have hdk := hd.ext hC.gh
      refine dVar_at rfl (dVar_at rfl (dVar_at rfl ⟨KE kvs, d, pf', pj, es, rfl, hdk, x3, h8, h4, by omega, by rw [heq]; exact stEnds_nd hnd, hes, fun e h => h.1, fun a m2 js es2 jkv hC2 ha y8 y4 ya hjs hjl hes2 hesl2 hjkv hjkl hJX => ?_⟩))
      have y1 := hC2.old _ _ x1.symm nupj.symm h1
      have y3 := hC2.old _ _ x2.symm nkj.symm h3
      have y5 := hC2.old _ _ x4.symm nsj.symm h5
      have y6 := hC2.old _ _ x5.symm njg h6
      have y7 := hC2.old _ _ x6.symm nji h7
      have au := neOf h1 ha
      have ak := neOf h3 ha
      have aj := neOf h4 ha
      have as' := neOf h5 ha
      have ag := neOf h6 ha
      have ai := neOf h7 ha
      have C2 : Chg u m m2 := ⟨hC2.gh.trans hC.gh, fun x o z w => hC2.old _ _ (neOf w xm) (neOf w f_pj) (hC.old _ _ z w)⟩
      have f_a : m.mu a = none := frC hC h1 ha
      clear hC2 ha h1 h2 h3 h4 h5 h6 h7 h8 hC hdk
      have getK : ∀ {x : M} {e : PL.End}, x.mu pk = some (.dic (strKV kvs)) → KE kvs e → ∃ kind, kindAt kvs e.1 = some kind ∧ GetD x pk (.str e.1) (some (.str kind)) := fun {x e} hx he => by
        obtain ⟨_, kind, hm, _⟩ := he
        exact ⟨kind, (kind_iff hnd).mpr hm, .inl ⟨_, .inr e.1, hx, rfl, (valStr hm hnd).symm⟩⟩
      have pT : ∀ {e : PL.End} {kind : Str}, kindAt kvs e.1 = some kind → decide (kind = "plain") = plainAt kvs e := fun {e kind} h => by
        unfold plainAt
        rw [h]; simp
      refine dLC_gen (I := fun _ => True) (Rel := fun x o => ∃ e : PL.End, x = endD e ∧ True ∧ o = if plainAt kvs e = true then some (endD e) else none) trivial (fun _ _ _ _ => trivial) (iL_w (xs := es2.map endD) (fun R hR => dVar_at rfl hR) y8) (slk (by rw [List.length_map]; omega)) (fun x hx m' hE' _ Ry Rn hy hn => ?_) (fun pq m3 ys hpq hE3 _ hm3 ho => ?_)
      · obtain ⟨e, he, rfl⟩ := List.mem_map.mp hx
        obtain ⟨kind, hkk, hg⟩ := getK (hE'.old _ _ y3) (hes2 e he)
        dsimp only [dRet, dSeq, dNext, dIfS, dSet, dExpr, dAsg, dPar, dPar3, gD, dOp, dUn, dArgs, dCons, dNil, dC, dB, dNot, dCall, dMeth, dMeth0, dIf, dLst, dTup, dSl, dNoPart, dPart, dM1, dOr, dAnd, dAndV, dOrV, dDGet, dSlA, dGet1]
        exact dVar_at rfl (dVar_at rfl (endD_ix0 ⟨pk, _, rfl, hg, eqT ⟨_, rfl, iff_T (fun hc => dVar_at rfl (hy _ _ ⟨e, rfl, trivial, by rw [← pT hkk, if_pos hc]⟩ (Ext.refl _))) fun hc => hn _ ⟨e, rfl, trivial, by rw [← pT hkk, hc, if_neg Bool.false_ne_true]⟩ (Ext.refl _)⟩⟩))
      have hys3 := Outs.filterOf (f := endD) (P := fun _ => True) (b := plainAt kvs) (fun a b e => endD_inj e) ho
      obtain ⟨es3, he3, rfl⟩ : ∃ es3 : List PL.End, es3 = es2.filter (plainAt kvs) ∧ ys = es3.map endD := ⟨_, rfl, hys3⟩
      have hes3 : ∀ e ∈ es3, e ∈ es2 := fun e he => by rw [he3] at he; exact (List.mem_filter.mp he).1
      have hl3 := ho.len
      rw [List.length_map, List.length_map] at hl3
      have C3 := C2.ext hE3
      have qu := (neOf y1 hpq).symm
      have qk := (neOf y3 hpq).symm
      have qj := (neOf y4 hpq).symm
      have qs := (neOf y5 hpq).symm
      have qg := (neOf y6 hpq).symm
      have qi := (neOf y7 hpq).symm
      have qa := (neOf ya hpq).symm
      have f_q : m.mu pq = none := frC C2 y1 hpq
      have y1 := hE3.old _ _ y1; have y3 := hE3.old _ _ y3; have y4 := hE3.old _ _ y4; have y5 := hE3.old _ _ y5; have y6 := hE3.old _ _ y6; have y7 := hE3.old _ _ y7; have ya := hE3.old _ _ ya
      refine dFor_draw (n := 5) (by decide) (by intro R hR; dsimp only [dRet, dSeq, dNext, dIfS, dSet, dExpr, dAsg, dPar, dPar3, gD, dOp, dUn, dArgs, dCons, dNil, dC, dB, dNot, dCall, dMeth, dMeth0, dIf, dLst, dTup, dSl, dNoPart, dPart, dM1, dOr, dAnd, dAndV, dOrV, dDGet, dSlA, dGet1]; exact dVar_at rfl (drw (hd.ext C3.gh) (by decide) (by decide) hR)) (fun i δ m' => ∃ (us : List Str) (ga : List (Str × PL.End)) (fs : List PL.End) (d3 d12 d13 d14 : Option D),
        δ = [some d, some (.ref u), some (.int k), d3, some (.ref a), some (.ref pq), some (.ref pm), some (.ref pk), some (.ref pj), some (.ref ps), some (.ref pg), some (.ref pi), d12, d13, d14] ∧ Chg u m m' ∧
        m'.mu u = some (.lst (us.map D.str)) ∧ m'.mu pk = some (.dic (strKV kvs)) ∧ m'.mu pj = some (.dit (joKV jkv)) ∧ m'.mu ps = some (.lst (kvs.map strD)) ∧ m'.mu pg = some (.lst (ga.map gaD)) ∧ m'.mu pi = some (.lst []) ∧ m'.mu a = some (.lst (js.map joD)) ∧ m'.mu pq = some (.lst (fs.map endD)) ∧
        us.length ≤ 32 + i ∧ ga.length ≤ i ∧ (∀ g ∈ ga, gaOk g) ∧ (∀ e ∈ fs, e ∈ es2) ∧ fs.length ≤ 48 ∧ NV us0 us (kvs.map (·.1) ++ ga.map (·.1)) ∧ (ga.map (·.2) ++ fs).Perm es3) ?_ ?_ ?_
      · exact ⟨_, [], es3, _, _, _, _, rfl, C3, y1, y3, y4, y5, y6, y7, ya, hm3, by rw [List.length_append, List.length_map]; omega, by simp, by simp, hes3, by omega, by simpa using hnv, by simp⟩
      · rintro i δ m' hi ⟨us, ga, fs, d3, d12, d13, d14, rfl, hC, h1, h3, h4, h5, h6, h7, h8, h9, hul, hgl, hga, hfs, hfl, hnv2, hpm⟩
        dsimp only [dRet, dSeq, dNext, dIfS, dSet, dExpr, dAsg, dPar, dPar3, gD, dOp, dUn, dArgs, dCons, dNil, dC, dB, dNot, dCall, dMeth, dMeth0, dIf, dLst, dTup, dSl, dNoPart, dPart, dM1, dOr, dAnd, dAndV, dOrV, dDGet, dSlA, dGet1]
        have fin : ∀ x ∈ fs.map endD, Fine x := fun x hx => by
          obtain ⟨e, he, rfl⟩ := List.mem_map.mp hx
          exact end_fine (hes2 e (hfs e he)).1
        refine dVar_at rfl ⟨slk (by simp), fun p hp => ne_nil ((Ext.new hp).old _ _ h9) M.set_same fin ⟨_, rfl, ?_⟩⟩
        have E1 := Ext.new (o := .lst []) hp
        have C1 := hC.ext E1
        have h1 := E1.old _ _ h1; have h3 := E1.old _ _ h3; have h4 := E1.old _ _ h4; have h5 := E1.old _ _ h5; have h6 := E1.old _ _ h6; have h7 := E1.old _ _ h7; have h8 := E1.old _ _ h8; have h9 := E1.old _ _ h9
        generalize m'.set p (.lst []) = n1 at C1 h1 h3 h4 h5 h6 h7 h8 h9 ⊢
        refine iff_T (fun hc => ?_) fun _ => ⟨us, ga, fs, _, _, _, _, rfl, C1, h1, h3, h4, h5, h6, h7, h8, h9, by omega, by omega, hga, hfs, hfl, hnv2, hpm⟩
        have hfn : 0 < fs.length := by cases fs with | nil => cases hc | cons _ _ => simp
        refine dVar_at rfl ⟨⟨pg, _, rfl, h6⟩, dVar_at rfl (dVar_at rfl ⟨d, u, us, rfl, hd.ext C1.gh, h1, by omega, fun s n2 hs hn hC2 hu2 => ?_⟩)⟩
        have b3 := hC2.old _ _ nupk h3; have b4 := hC2.old _ _ nupj h4; have b5 := hC2.old _ _ nups h5; have b6 := hC2.old _ _ nupg h6; have b7 := hC2.old _ _ nupi h7; have b8 := hC2.old _ _ au.symm h8; have b9 := hC2.old _ _ qu h9
        have C2' : Chg u m n2 := ⟨hC2.gh.trans C1.gh, fun x o z w => hC2.old x o z (C1.old x o z w)⟩
        refine dVar_at rfl ⟨⟨pq, _, rfl, b9⟩, dVar_at rfl (dVar_at rfl ⟨.ref pq, fs.length, rfl, ⟨_, b9, (List.length_map ..).symm⟩, drw (hd.ext C2'.gh) (by omega) (by omega) fun r r0 r1 => popL b9 r0 (by rw [List.length_map]; omega) (by rw [List.length_map]; omega) fun y hy hk' => ?_⟩)⟩
        obtain ⟨e, he', rfl⟩ := map_get hk'
        have he := List.mem_of_getElem? he'
        rw [erase_map]
        have c1 : (n2.set pq (.lst ((fs.eraseIdx r.toNat).map endD))).mu u = _ := (M.set_ne qu.symm).trans hu2
        have c3 : (n2.set pq (.lst ((fs.eraseIdx r.toNat).map endD))).mu pk = _ := (M.set_ne qk.symm).trans b3
        have c4 : (n2.set pq (.lst ((fs.eraseIdx r.toNat).map endD))).mu pj = _ := (M.set_ne qj.symm).trans b4
        have c5 : (n2.set pq (.lst ((fs.eraseIdx r.toNat).map endD))).mu ps = _ := (M.set_ne qs.symm).trans b5
        have c6 : (n2.set pq (.lst ((fs.eraseIdx r.toNat).map endD))).mu pg = _ := (M.set_ne qg.symm).trans b6
        have c7 : (n2.set pq (.lst ((fs.eraseIdx r.toNat).map endD))).mu pi = _ := (M.set_ne qi.symm).trans b7
        have c8 : (n2.set pq (.lst ((fs.eraseIdx r.toNat).map endD))).mu a = _ := (M.set_ne qa.symm).trans b8
        have c9 : (n2.set pq (.lst ((fs.eraseIdx r.toNat).map endD))).mu pq = _ := M.set_same
        have C3' : Chg u m (n2.set pq (.lst ((fs.eraseIdx r.toNat).map endD))) := ⟨C2'.gh, fun x o z w => by rw [M.set_ne (neOf w f_q)]; exact C2'.old x o z w⟩
        generalize n2.set pq (.lst ((fs.eraseIdx r.toNat).map endD)) = n3 at c1 c3 c4 c5 c6 c7 c8 c9 C3' ⊢
        refine ⟨slk (by simp), ap c6 (by rw [List.length_map]; omega) ⟨us ++ [s], ga ++ [(s, e)], fs.eraseIdx r.toNat, _, _, _, _, rfl, ⟨C3'.gh, fun x o z w => by rw [M.set_ne (neOf w f_pg)]; exact C3'.old x o z w⟩, (M.set_ne nupg.symm).trans c1, (M.set_ne nkg.symm).trans c3, (M.set_ne njg.symm).trans c4, (M.set_ne nsg.symm).trans c5, by rw [M.set_same, List.map_append]; rfl, (M.set_ne ngi).trans c7, (M.set_ne ag.symm).trans c8, (M.set_ne qg).trans c9, by rw [List.length_append]; show us.length + 1 ≤ _; omega, by rw [List.length_append]; show ga.length + 1 ≤ _; omega, ?_, fun x hx => hfs x (List.mem_of_mem_eraseIdx hx), Nat.le_trans (List.length_eraseIdx_le _ _) hfl, ?_, ?_⟩⟩
        rotate_left
        · have z := hnv2.step hn
          rw [List.append_assoc] at z
          rw [List.map_append]; exact z
        · refine List.Perm.trans ?_ hpm
          rw [List.map_append, List.append_assoc]
          exact (perm_erase he').append_left _
        intro x hx
        rcases List.mem_append.mp hx with hx | hx
        · exact hga x hx
        · rw [List.mem_singleton.mp hx]; exact ⟨hs, (hes2 e (hfs e he)).1⟩
      · rintro r2 δ m' hr2 ⟨us, ga, fs, d3, d12, d13, d14, rfl, hC, h1, h3, h4, h5, h6, h7, h8, h9, hul, hgl, hga, hfs, hfl, hnv2, hpm⟩
        dsimp only [dRet, dSeq, dNext, dIfS, dSet, dExpr, dAsg, dPar, dPar3, gD, dOp, dUn, dArgs, dCons, dNil, dC, dB, dNot, dCall, dMeth, dMeth0, dIf, dLst, dTup, dSl, dNoPart, dPart, dM1, dOr, dAnd, dAndV, dOrV, dDGet, dSlA, dGet1]
        dsimp only [dLockS, dSet]
        refine ⟨pj, joKV jkv, rfl, h4, fun lu => ?_⟩
        have hkeys : (joKV jkv).map (fun p => D.tup (p.1.map kD)) = (jkv.map (·.1)).map endD := by unfold joKV; rw [List.map_map, List.map_map]; rfl
        have Lj : (m'.set pj (.lck (joKV jkv) lu)).mu pj = _ := M.set_same
        have L1 : (m'.set pj (.lck (joKV jkv) lu)).mu u = _ := (M.set_ne nupj.symm).trans h1
        have L3 : (m'.set pj (.lck (joKV jkv) lu)).mu pk = _ := (M.set_ne nkj.symm).trans h3
        have L5 : (m'.set pj (.lck (joKV jkv) lu)).mu ps = _ := (M.set_ne nsj.symm).trans h5
        have L6 : (m'.set pj (.lck (joKV jkv) lu)).mu pg = _ := (M.set_ne njg).trans h6
        have L7 : (m'.set pj (.lck (joKV jkv) lu)).mu pi = _ := (M.set_ne nji).trans h7
        have L8 : (m'.set pj (.lck (joKV jkv) lu)).mu a = _ := (M.set_ne aj.symm).trans h8
        have LC : Chg u m (m'.set pj (.lck (joKV jkv) lu)) := ⟨hC.gh, fun x o z w => by rw [M.set_ne (neOf w f_pj)]; exact hC.old x o z w⟩
        generalize m'.set pj (.lck (joKV jkv) lu) = L0 at Lj L1 L3 L5 L6 L7 L8 LC ⊢
        refine dLC_gen (I := fun _ => True) (xs := (joKV jkv).map fun p => D.tup (p.1.map kD)) (Rel := fun x o => ∃ e : PL.End, x = endD e ∧ True ∧ o = if plainAt kvs e = true then some (endD e) else none) trivial (fun _ _ _ _ => trivial) (fun R hR => ⟨pj, joKV jkv, lu, rfl, Lj, hR _ L0 (Ext.refl _) fun m'' hE => hE.old _ _ Lj⟩) (slk (by unfold joKV; rw [List.length_map, List.length_map]; omega)) (fun x hx m' hE' _ Ry Rn hy hn => ?_) (fun pr m4 ys hpr hE4 _ hm4 ho => ?_)
        · rw [hkeys] at hx
          obtain ⟨e, he, rfl⟩ := List.mem_map.mp hx
          obtain ⟨pp, hpp, rfl⟩ := List.mem_map.mp he
          obtain ⟨kind, hkk, hg⟩ := getK (hE'.old _ _ L3) (hjkv pp hpp).1
          dsimp only [dRet, dSeq, dNext, dIfS, dSet, dExpr, dAsg, dPar, dPar3, gD, dOp, dUn, dArgs, dCons, dNil, dC, dB, dNot, dCall, dMeth, dMeth0, dIf, dLst, dTup, dSl, dNoPart, dPart, dM1, dOr, dAnd, dAndV, dOrV, dDGet, dSlA, dGet1]
          exact dVar_at rfl (dVar_at rfl (endD_ix0 ⟨pk, _, rfl, hg, eqT ⟨_, rfl, iff_T (fun hc => dVar_at rfl (hy _ _ ⟨pp.1, rfl, trivial, by rw [← pT hkk, if_pos hc]⟩ (Ext.refl _))) fun hc => hn _ ⟨pp.1, rfl, trivial, by rw [← pT hkk, hc, if_neg Bool.false_ne_true]⟩ (Ext.refl _)⟩⟩))
        rw [hkeys] at ho
        have hys4 := Outs.filterOf (f := endD) (P := fun _ => True) (b := plainAt kvs) (fun a b e => endD_inj e) ho
        obtain ⟨fs0, hf0, rfl⟩ : ∃ fs0 : List PL.End, fs0 = (jkv.map (·.1)).filter (plainAt kvs) ∧ ys = fs0.map endD := ⟨_, rfl, hys4⟩
        have hfs0 : ∀ e ∈ fs0, e ∈ jkv.map (·.1) := fun e he => by rw [hf0] at he; exact (List.mem_filter.mp he).1
        have hl4 := ho.len
        rw [List.length_map, List.length_map, List.length_map] at hl4
        have ru := (neOf L1 hpr).symm
        have rk := (neOf L3 hpr).symm
        have rj := (neOf Lj hpr).symm
        have rs := (neOf L5 hpr).symm
        have rg := (neOf L6 hpr).symm
        have ri := (neOf L7 hpr).symm
        have ra := (neOf L8 hpr).symm
        have f_r : m.mu pr = none := frC LC L1 hpr
        refine ⟨hE4.old _ _ Lj, ?_⟩
        have C4 := LC.ext hE4
        have y1 : (m4.set pj (.dit (joKV jkv))).mu u = _ := (M.set_ne nupj.symm).trans (hE4.old _ _ L1)
        have y3 : (m4.set pj (.dit (joKV jkv))).mu pk = _ := (M.set_ne nkj.symm).trans (hE4.old _ _ L3)
        have y4 : (m4.set pj (.dit (joKV jkv))).mu pj = _ := M.set_same
        have y5 : (m4.set pj (.dit (joKV jkv))).mu ps = _ := (M.set_ne nsj.symm).trans (hE4.old _ _ L5)
        have y6 : (m4.set pj (.dit (joKV jkv))).mu pg = _ := (M.set_ne njg).trans (hE4.old _ _ L6)
        have y7 : (m4.set pj (.dit (joKV jkv))).mu pi = _ := (M.set_ne nji).trans (hE4.old _ _ L7)
        have y8 : (m4.set pj (.dit (joKV jkv))).mu a = _ := (M.set_ne aj.symm).trans (hE4.old _ _ L8)
        have y9 : (m4.set pj (.dit (joKV jkv))).mu pr = _ := (M.set_ne rj).trans hm4
        have C5 : Chg u m (m4.set pj (.dit (joKV jkv))) := ⟨C4.gh, fun x o z w => by rw [M.set_ne (neOf w f_pj)]; exact C4.old x o z w⟩
        generalize m4.set pj (.dit (joKV jkv)) = m5 at y1 y3 y4 y5 y6 y7 y8 y9 C5 ⊢
        refine dFor_draw (n := 11) (by decide) (by intro R hR; dsimp only [dRet, dSeq, dNext, dIfS, dSet, dExpr, dAsg, dPar, dPar3, gD, dOp, dUn, dArgs, dCons, dNil, dC, dB, dNot, dCall, dMeth, dMeth0, dIf, dLst, dTup, dSl, dNoPart, dPart, dM1, dOr, dAnd, dAndV, dOrV, dDGet, dSlA, dGet1]; exact dVar_at rfl (drw (hd.ext C5.gh) (by decide) (by decide) hR)) (fun i δ m' => ∃ (us : List Str) (ss : List (Str × PL.End × Option PL.Step)) (fs : List PL.End) (d3 d12 d13 d14 : Option D),
          δ = [some d, some (.ref u), some (.int k), d3, some (.ref a), some (.ref pr), some (.ref pm), some (.ref pk), some (.ref pj), some (.ref ps), some (.ref pg), some (.ref pi), d12, d13, d14] ∧ Chg u m m' ∧
          m'.mu u = some (.lst (us.map D.str)) ∧ m'.mu pk = some (.dic (strKV kvs)) ∧ m'.mu pj = some (.dit (joKV jkv)) ∧ m'.mu ps = some (.lst (kvs.map strD)) ∧ m'.mu pg = some (.lst (ga.map gaD)) ∧ m'.mu pi = some (.lst (ss.map siD)) ∧ m'.mu a = some (.lst (js.map joD)) ∧ m'.mu pr = some (.lst (fs.map endD)) ∧
          us.length ≤ 37 + i ∧ ss.length ≤ i ∧ (∀ g ∈ ss, siOk g) ∧ (∀ e ∈ fs, e ∈ jkv.map (·.1)) ∧ fs.length ≤ 32 ∧ NV us0 us (kvs.map (·.1) ++ ga.map (·.1) ++ ss.map (·.1)) ∧ (ss.map (·.2.1) ++ fs).Perm fs0 ∧ ∀ s ∈ ss, ∀ t, s.2.2 = some t → ∃ e', (s.2.1, e') ∈ jkv ∧ ovOk kvs e' t) ?_ ?_ ?_
        · exact ⟨us, [], fs0, _, _, _, _, rfl, C5, y1, y3, y4, y5, y6, y7, y8, y9, by omega, by simp, by simp, hfs0, by omega, by simpa using hnv2, by simp, by simp⟩
        · rintro i δ m' hi ⟨us, ss, fs, d3, d12, d13, d14, rfl, hC, h1, h3, h4, h5, h6, h7, h8, h9, hul, hgl, hss, hfs, hfl, hnv3, hpm3, hov⟩
          dsimp only [dRet, dSeq, dNext, dIfS, dSet, dExpr, dAsg, dPar, dPar3, gD, dOp, dUn, dArgs, dCons, dNil, dC, dB, dNot, dCall, dMeth, dMeth0, dIf, dLst, dTup, dSl, dNoPart, dPart, dM1, dOr, dAnd, dAndV, dOrV, dDGet, dSlA, dGet1]
          have hKe : ∀ e ∈ jkv.map (·.1), KE kvs e := fun e he => by
            obtain ⟨pp, hpp, rfl⟩ := List.mem_map.mp he
            exact (hjkv pp hpp).1
          have fin : ∀ x ∈ fs.map endD, Fine x := fun x hx => by
            obtain ⟨e, he, rfl⟩ := List.mem_map.mp hx
            exact end_fine (hKe e (hfs e he)).1
          refine dVar_at rfl ⟨slk (by simp), fun p hp => ne_nil ((Ext.new hp).old _ _ h9) M.set_same fin ⟨_, rfl, ?_⟩⟩
          have E1 := Ext.new (o := .lst []) hp
          have C1 := hC.ext E1
          have h1 := E1.old _ _ h1; have h3 := E1.old _ _ h3; have h4 := E1.old _ _ h4; have h5 := E1.old _ _ h5; have h6 := E1.old _ _ h6; have h7 := E1.old _ _ h7; have h8 := E1.old _ _ h8; have h9 := E1.old _ _ h9
          generalize m'.set p (.lst []) = n1 at C1 h1 h3 h4 h5 h6 h7 h8 h9 ⊢
          refine iff_T (fun hc => ?_) fun _ => ⟨us, ss, fs, _, _, _, _, rfl, C1, h1, h3, h4, h5, h6, h7, h8, h9, by omega, by omega, hss, hfs, hfl, hnv3, hpm3, hov⟩
          have hfn : 0 < fs.length := by cases fs with | nil => cases hc | cons _ _ => simp
          refine dVar_at rfl ⟨⟨pr, _, rfl, h9⟩, dVar_at rfl (dVar_at rfl ⟨.ref pr, fs.length, rfl, ⟨_, h9, (List.length_map ..).symm⟩, drw (hd.ext C1.gh) (by omega) (by omega) fun r r0 r1 => popL h9 r0 (by rw [List.length_map]; omega) (by rw [List.length_map]; omega) fun y hy hk' => ?_⟩)⟩
          obtain ⟨e, he', rfl⟩ := map_get hk'
          have he := List.mem_of_getElem? he'
          rw [erase_map]
          have c1 : (n1.set pr (.lst ((fs.eraseIdx r.toNat).map endD))).mu u = _ := (M.set_ne ru.symm).trans h1
          have c3 : (n1.set pr (.lst ((fs.eraseIdx r.toNat).map endD))).mu pk = _ := (M.set_ne rk.symm).trans h3
          have c4 : (n1.set pr (.lst ((fs.eraseIdx r.toNat).map endD))).mu pj = _ := (M.set_ne rj.symm).trans h4
          have c5 : (n1.set pr (.lst ((fs.eraseIdx r.toNat).map endD))).mu ps = _ := (M.set_ne rs.symm).trans h5
          have c6 : (n1.set pr (.lst ((fs.eraseIdx r.toNat).map endD))).mu pg = _ := (M.set_ne rg.symm).trans h6
          have c7 : (n1.set pr (.lst ((fs.eraseIdx r.toNat).map endD))).mu pi = _ := (M.set_ne ri.symm).trans h7
          have c8 : (n1.set pr (.lst ((fs.eraseIdx r.toNat).map endD))).mu a = _ := (M.set_ne ra.symm).trans h8
          have c9 : (n1.set pr (.lst ((fs.eraseIdx r.toNat).map endD))).mu pr = _ := M.set_same
          have C3' : Chg u m (n1.set pr (.lst ((fs.eraseIdx r.toNat).map endD))) := ⟨C1.gh, fun x o z w => by rw [M.set_ne (neOf w f_r)]; exact C1.old x o z w⟩
          generalize n1.set pr (.lst ((fs.eraseIdx r.toNat).map endD)) = n3 at c1 c3 c4 c5 c6 c7 c8 c9 C3' ⊢
          refine dVar_at rfl ⟨⟨pi, _, rfl, c7⟩, dVar_at rfl (dVar_at rfl ⟨d, u, us, rfl, hd.ext C3'.gh, c1, by omega, fun s n2 hs hn hC2 hu2 => ?_⟩)⟩
          have b3 := hC2.old _ _ nupk c3; have b4 := hC2.old _ _ nupj c4; have b5 := hC2.old _ _ nups c5; have b6 := hC2.old _ _ nupg c6; have b7 := hC2.old _ _ nupi c7; have b8 := hC2.old _ _ au.symm c8; have b9 := hC2.old _ _ ru c9
          have C2' : Chg u m n2 := ⟨hC2.gh.trans C3'.gh, fun x o z w => hC2.old x o z (C3'.old x o z w)⟩
          obtain ⟨e', hv, hm'⟩ := getJo (hfs e he)
          refine dVar_at rfl (dVar_at rfl (dVar_at rfl (dVar_at rfl (dVar_at rfl ⟨pj, endD e', rfl, .inr ⟨joKV jkv, eKey e, b4, rfl, hv.symm⟩, d, pk, kvs, e', rfl, hd.ext C2'.gh, b3, hnd, ⟨(hjkv _ hm').2.1, by
            rw [hJX.kv] at hm'
            obtain ⟨j, hj, w⟩ := mem_jpairs.mp hm'
            obtain ⟨sk, hsk, z1, z2, z3⟩ := mem_stEnds.mp (show e' ∈ stEnds kvs by rw [← heq]; exact hJX.sub (mem_jends.mpr ⟨j, hj, by rcases w with ⟨_, w⟩ | ⟨_, w⟩ <;> simp [w]⟩))
            exact ⟨sk.2, by rw [z1]; exact hsk, (hst _ hsk).2, z3⟩⟩, fun o ho' => ?_⟩))))
          refine ⟨slk (by simp), ap b7 (by rw [List.length_map]; omega) ⟨us ++ [s], ss ++ [(s, e, o)], fs.eraseIdx r.toNat, _, _, _, _, rfl, ⟨C2'.gh, fun x o z w => by rw [M.set_ne (neOf w f_pi)]; exact C2'.old x o z w⟩, (M.set_ne nupi.symm).trans hu2, (M.set_ne nki.symm).trans b3, (M.set_ne nji.symm).trans b4, (M.set_ne nsi.symm).trans b5, (M.set_ne ngi.symm).trans b6, by rw [M.set_same, List.map_append]; rfl, (M.set_ne ai.symm).trans b8, (M.set_ne ri).trans b9, by rw [List.length_append]; show us.length + 1 ≤ _; omega, by rw [List.length_append]; show ss.length + 1 ≤ _; omega, ?_, fun x hx => hfs x (List.mem_of_mem_eraseIdx hx), Nat.le_trans (List.length_eraseIdx_le _ _) hfl, ?_, ?_, ?_⟩⟩
          · intro x hx
            rcases List.mem_append.mp hx with hx | hx
            · exact hss x hx
            · rw [List.mem_singleton.mp hx]; exact ⟨hs, (hKe e (hfs e he)).1, fun t ht => (ho' t ht).1⟩
          · have z := hnv3.step hn
            rw [List.append_assoc] at z
            rw [List.map_append]; exact z
          · refine List.Perm.trans ?_ hpm3
            rw [List.map_append, List.append_assoc]
            exact (perm_erase he').append_left _
          · intro x hx t ht
            rcases List.mem_append.mp hx with hx | hx
            · exact hov x hx t ht
            · have hx := List.mem_singleton.mp hx
              subst hx
              exact ⟨e', hm', (ho' t ht).2⟩
        · rintro r3 δ m' hr3 ⟨us, ss, fs, d3, d12, d13, d14, rfl, hC, h1, h3, h4, h5, h6, h7, h8, h9, hul, hgl', hss, hfs, hfl, hnv3, hpm3, hov⟩
          dsimp only
          refine dVar_at rfl (tupL h5 (dVar_at rfl (tupL h8 (dVar_at rfl (tupL h6 (dVar_at rfl (tupL h7 ⟨slk (by simp), q ⟨kvs, js, ga, ss⟩ m' ⟨hst, hjs, hga, hss, ?_, ?_, ?_, ?_⟩ (chk_drawn hnv3.nd (heq ▸ hJX) (he3 ▸ hpm) (hf0 ▸ hpm3) hov) (by show kvs.length ≤ k; omega) hnv3.new hC (by rw [h1, hnv3.eq]; rfl)⟩)))))))
          · show kvs.length ≤ 12; omega
          · exact hjl
          · show ga.length ≤ 4; omega
          · show ss.length ≤ 10; omega

end
end PR

namespace PR
open PySem PySem.Spec PyProof.Rows L2 GA GxR DL PL TM

section
variable {P : Program} {w : World} {K : PySem.W.Frag} {mg : Str → Option Value} {base : Heap} {tl td t8 t3 : Tok} {aK aO aE aP P1 P2 : Addr} (T : Txt K mg w tl td t8 t3 aK aO aE aP) (Ok : M → Prop) (hOk : ∀ a b : M, Ok a → b.gh = a.gh → Ok b)
include T hOk

theorem c_law_ends {f : Addr} {fd : FuncData} (F : Fun K "_law_ends" "_law_ends" s_law_ends f fd) (hm : mg "_law_ends" = some (.ref f))  : DCal P w K mg base 1 "_law_ends" spEnds := by
  refine dcal F hm (F.binds (ps := ["plan"]) fun _ _ _ _ _ _ us hl => match us, hl with | [_], _ => rfl) sc_law_ends (fun ds m Q h => ?_) (fun cdv A outer s H E hr => ⟨_, (dss_cons (ds_set (i := 1) sc_law_ends.nd rfl (by first | exact Or.inl rfl | exact Or.inr rfl) (de_lst da_nil))
      (dss_cons (ds_for PassesOwn.never rfl (dpi_tup (de_ix (de_var 0) de_int)) (dg_tup rfl (dgs_cons (pg_name (i := 2) sc_law_ends.nd rfl (by first | exact Or.inl rfl | exact Or.inr rfl)) (dgs_cons (pg_name (i := 3) sc_law_ends.nd rfl (by first | exact Or.inl rfl | exact Or.inr rfl)) dgs_nil))) (dss_one (ds_set (i := 1) sc_law_ends.nd rfl (by first | exact Or.inl rfl | exact Or.inr rfl) (de_add (de_var 1) (de_lc (own := [("end", 4)]) rfl sc_law_ends.nd (dpi_range (by rfl) T.range (de_dget hr (de_disp (.cons de_int (.cons de_int (.cons de_int .nil)))) (de_var 3))) (blkOk_by (N := ["plan", "found", "name", "kind", "end"]) (sc := defScope s_law_ends) (by decide +kernel)) (fun _ _ _ _ _ => (dg_name (i := 4) sc_law_ends.nd rfl (by first | exact Or.inl rfl | exact Or.inr rfl))) (fun _ _ _ _ _ => dpts_nil) (fun _ _ _ _ _ => (de_tup (da_cons (de_var 2) (da_cons (de_var 4) da_nil)))))))))
      (dss_one (ds_ret (de_var 1))))), fun ds m Q h => ?_⟩)
  · obtain ⟨p, rfl, _⟩ := h; rfl
  · obtain ⟨p, rfl, hp, q⟩ := h
    have b1 := hp.n1
    dsimp only [dRet, dSeq, dNext, dIfS, dSet, dExpr, dAsg, dPar, dPar3, gD, dOp, dUn, dArgs, dCons, dNil, dC, dB, dNot, dCall, dMeth, dMeth0, dIf, dLst, dTup, dSl, dNoPart, dPart, dM1, dOr, dAnd, dAndV, dOrV, dDGet, dSlA, dGet1, dNewT, dNewK, dFor, iT, dDPut, dDIn, dSet0S, dSet0T, dSAddS, dSAddT, dTru]
    refine ⟨slk (by simp), fun a0 ha0 => ?_⟩
    refine dVar_at rfl (SeqD.ix (.inl rfl) rfl ⟨p.st.map strD, .inl rfl, fun i δ m' => ∃ (a : Addr) (d2 d3 d4 : Option D), δ = [some p.d, some (.ref a), d2, d3, d4] ∧ Ext m m' ∧ m.mu a = none ∧ m'.mu a = some (.lst ((stEnds (p.st.take i)).map endD)), ⟨a0, _, _, _, rfl, Ext.new ha0, ha0, M.set_same⟩, fun _ _ _ _ => trivial, ?_, ?_⟩)
    · rintro i d δ m' hd ⟨a, d2, d3, d4, rfl, hE, ha, hm⟩
      obtain ⟨⟨nm, kd⟩, hj, rfl⟩ := map_get hd
      have ok := hp.st _ (List.mem_of_getElem? hj)
      refine ⟨[.str nm, .str kd], .inl rfl, rfl, dVar_at rfl ?_⟩
      obtain ⟨n, hnE, hval, n0, n4, npl⟩ := many_val2 ok.2
      have hle := stEnds_len (kvs := p.st.take i) fun s hs => (hp.st s (List.mem_of_mem_take hs)).2
      have htl : (p.st.take i).length ≤ 12 := by rw [List.length_take]; omega
      refine dLC_gen (I := fun _ => True) (xs := rangeD n.toNat) (Rel := fun x o => ∃ j : Nat, x = D.int (j : Int) ∧ True ∧ o = some (endD (nm, (j : Int)))) trivial (fun _ _ _ _ => trivial) (iR_new (fun R hR => dDisp_many fun pd hpd => dVar_at rfl ⟨pd, _, rfl, .inl ⟨manyD, .inr kd, M.set_same, rfl, hval.symm⟩, hR _ ((Ext.new hpd).set hpd)⟩) (by omega) (by omega)) (slk (by rw [rangeD_len]; omega)) (fun x hx m'' hE' _ Ry Rn hy hn => ?_) (fun pp m3 ys hpp hE3 _ hm3 ho => ?_)
      · unfold rangeD at hx
        obtain ⟨j, hj, rfl⟩ := List.mem_map.mp hx
        dsimp only [dRet, dSeq, dNext, dIfS, dSet, dExpr, dAsg, dPar, dPar3, gD, dOp, dUn, dArgs, dCons, dNil, dC, dB, dNot, dCall, dMeth, dMeth0, dIf, dLst, dTup, dSl, dNoPart, dPart, dM1, dOr, dAnd, dAndV, dOrV, dDGet, dSlA, dGet1]
        exact yesT (dVar_at rfl (dVar_at rfl ⟨slk (by simp), hy _ _ ⟨j, rfl, trivial, rfl⟩ (Ext.refl _)⟩))
      · have hys := Outs.mapOf (f := fun j : Nat => D.int (j : Int)) (h := fun j : Nat => endD (nm, (j : Int))) (P := fun _ => True) (l := List.range n.toNat) (fun a b e => by
          injection e with e
          rw [e]) ho
        have hyl : ys.length = n.toNat := by rw [hys, List.length_map, List.length_range]
        refine addL (hE3.old _ _ hm) hm3 (by rw [List.length_map]; omega) fun p2 hp2 => ?_
        refine ⟨p2, _, _, _, rfl, (hE.trans hE3).trans (Ext.new hp2), (hE.trans hE3).fr hp2, ?_⟩
        rw [M.set_same, take_snoc hj, stEnds_snoc, List.map_append, hys, List.map_map, ← hnE]; rfl
    · rintro δ m' ⟨a, d2, d3, d4, rfl, hE, ha, hm⟩
      rw [List.length_map, List.take_length] at hm
      exact dVar_at rfl (q a m' ha hE hm)

end
end PR

namespace PR
open PySem PySem.Spec PyProof.Rows L2 GA GxR DL PL TM

section
variable {P : Program} {w : World} {K : PySem.W.Frag} {mg : Str → Option Value} {base : Heap} {tl td t8 t3 : Tok} {aK aO aE aP P1 P2 : Addr} (T : Txt K mg w tl td t8 t3 aK aO aE aP) (Ok : M → Prop) (hOk : ∀ a b : M, Ok a → b.gh = a.gh → Ok b)
include T hOk

theorem c_law_joined {f : Addr} {fd : FuncData} (F : Fun K "_law_joined" "_law_joined" s_law_joined f fd) (hm : mg "_law_joined" = some (.ref f))  : DCal P w K mg base 1 "_law_joined" spParts := by
  refine dcal F hm (F.binds (ps := ["plan"]) fun _ _ _ _ _ _ us hl => match us, hl with | [_], _ => rfl) sc_law_joined (fun ds m Q h => ?_) (fun cdv A outer s H E hr => ⟨_, (dss_cons (ds_set (i := 1) sc_law_joined.nd rfl (by first | exact Or.inl rfl | exact Or.inr rfl) de_newT)
      (dss_cons (ds_for PassesOwn.never rfl (dpi_tup (de_ix (de_var 0) de_int)) (dg_tup rfl (dgs_cons (pg_name (i := 2) sc_law_joined.nd rfl (by first | exact Or.inl rfl | exact Or.inr rfl)) (dgs_cons (pg_name (i := 3) sc_law_joined.nd rfl (by first | exact Or.inl rfl | exact Or.inr rfl)) dgs_nil))) (dss_cons (ds_dput hr (de_var 1) (de_var 2) (de_var 3))
      (dss_one (ds_dput hr (de_var 1) (de_var 3) (de_var 2)))))
      (dss_one (ds_ret (de_var 1))))), fun ds m Q h => ?_⟩)
  · obtain ⟨p, rfl, _⟩ := h; rfl
  · obtain ⟨p, rfl, hp, q⟩ := h
    dsimp only [dRet, dSeq, dNext, dIfS, dSet, dExpr, dAsg, dPar, dPar3, gD, dOp, dUn, dArgs, dCons, dNil, dC, dB, dNot, dCall, dMeth, dMeth0, dIf, dLst, dTup, dSl, dNoPart, dPart, dM1, dOr, dAnd, dAndV, dOrV, dDGet, dSlA, dGet1]
    dsimp only [dRet, dSeq, dNext, dIfS, dSet, dExpr, dAsg, dPar, dPar3, gD, dOp, dUn, dArgs, dCons, dNil, dC, dB, dNot, dCall, dMeth, dMeth0, dIf, dLst, dTup, dSl, dNoPart, dPart, dM1, dOr, dAnd, dAndV, dOrV, dDGet, dSlA, dGet1, dNewT, dNewK, dFor, iT, dDPut, dDIn, dSet0S, dSet0T, dSAddS, dSAddT, dTru]
    intro a ha
    refine dVar_at rfl (SeqD.ix (.inl rfl) rfl ⟨p.jo.map joD, .inl rfl, fun i δ m' => ∃ d2 d3, δ = [some p.d, some (.ref a), d2, d3] ∧ Ext m m' ∧ m'.mu a = some (.dit (partKV (p.jo.take i))), ⟨_, _, rfl, Ext.new ha, M.set_same⟩, fun _ _ _ _ => trivial, ?_, ?_⟩)
    · rintro i d δ m' hd ⟨d2, d3, rfl, hE, hm⟩
      obtain ⟨j, hj, rfl⟩ := map_get hd
      have l1 := partKV_len (p.jo.take i)
      have l2 := putD_len (k := endK j.1) (v := endD j.2) (kvs := partKV (p.jo.take i))
      have l0 : (p.jo.take i).length ≤ 16 := by rw [List.length_take]; have := hp.n2; omega
      refine ⟨[endD j.1, endD j.2], .inl rfl, rfl, ?_⟩
      refine dVar_at rfl (dVar_at rfl (dVar_at rfl ⟨a, rfl, .inr ⟨_, endK j.1, hm, rfl, slt (by omega), ?_⟩⟩))
      refine dVar_at rfl (dVar_at rfl (dVar_at rfl ⟨a, rfl, .inr ⟨_, endK j.2, M.set_same, rfl, slt (by omega), ?_⟩⟩))
      refine ⟨_, _, rfl, (hE.set ha).set ha, ?_⟩
      rw [M.set_same, take_snoc hj, partKV_snoc]
    · rintro δ m' ⟨d2, d3, rfl, hE, hm⟩
      rw [List.length_map, List.take_length] at hm
      exact dVar_at rfl (q a m' ha hE hm)

end
end PR

namespace PR
open PySem PySem.Spec PyProof.Rows L2 GA GxR DL PL TM

section
variable {P : Program} {w : World} {K : PySem.W.Frag} {mg : Str → Option Value} {base : Heap} {tl td t8 t3 : Tok} {aK aO aE aP P1 P2 : Addr} (T : Txt K mg w tl td t8 t3 aK aO aE aP) (Ok : M → Prop) (hOk : ∀ a b : M, Ok a → b.gh = a.gh → Ok b)
include T hOk

theorem c_law_put {f : Addr} {fd : FuncData} (F : Fun K "_law_put" "_law_put" s_law_put f fd) (hm : mg "_law_put" = some (.ref f))  : DCal P w K mg base 1 "_law_put" spPut := by
  refine dcal F hm (F.binds (ps := ["plan", "part", "place", "item"]) fun _ _ _ _ _ _ us hl => match us, hl with | [_, _, _, _], _ => rfl) sc_law_put (fun ds m Q h => ?_) (fun cdv A outer s H E hr => ⟨_, (dss_one (ds_ret (de_addA (de_addA (de_sliceA (de_var 0) dpo_none (dpo_some (de_var 1))) (de_tup (da_cons (de_addA (de_addA (de_sliceA (de_ix (de_var 0) (de_var 1)) dpo_none (dpo_some (de_var 2))) (de_tup (da_cons (de_var 3) da_nil))) (de_sliceA (de_ix (de_var 0) (de_var 1)) (dpo_some (de_var 2)) dpo_none)) da_nil))) (de_sliceA (de_var 0) (dpo_some (de_add (de_var 1) de_int)) dpo_none)))), fun ds m Q h => ?_⟩)
  · obtain ⟨L, i, k, x, rfl, _⟩ := h; rfl
  · obtain ⟨L, i, k, x, rfl, h4, hl, l, hli, q⟩ := h
    have ll := hl l (List.mem_of_getElem? hli)
    have hi := (List.getElem?_eq_some_iff.mp hli).1
    dsimp only [dRet, dSeq, dNext, dIfS, dSet, dExpr, dAsg, dPar, dPar3, gD, dOp, dUn, dArgs, dCons, dNil, dC, dB, dNot, dCall, dMeth, dMeth0, dIf, dLst, dTup, dSl, dNoPart, dPart, dM1, dOr, dAnd, dAndV, dOrV, dDGet, dSlA, dGet1, dNewT, dNewK, dFor, iT, dDPut, dDIn, dSet0S, dSet0T, dSAddS, dSAddT, dTru]
    refine dVar_at rfl (dVar_at rfl ⟨(i : Int), rfl, slT_take ?_⟩)
    refine dVar_at rfl (dVar_at rfl (ix_tups hli (dVar_at rfl ⟨(k : Int), rfl, slT_take (dVar_at rfl ⟨slk (by simp), adT (by simp only [List.length_take, List.length_cons, List.length_nil]; omega) ?_⟩)⟩)))
    refine dVar_at rfl (dVar_at rfl (ix_tups hli (dVar_at rfl ⟨(k : Int), rfl, slT_drop (adT (by simp only [List.length_append, List.length_take, List.length_drop, List.length_cons, List.length_nil]; omega) ⟨slk (by simp), adT (by simp only [List.length_take, List.length_map, List.length_cons, List.length_nil]; omega) ?_⟩)⟩)))
    refine dVar_at rfl (dVar_at rfl (aI ⟨(i : Int) + 1, rfl, slT_drop1 (adT (by simp only [List.length_append, List.length_take, List.length_drop, List.length_map, List.length_cons, List.length_nil]; omega) ?_)⟩))
    rw [put_eq hli, List.append_assoc]; exact q

end
end PR

namespace PR
open PySem PySem.Spec PyProof.Rows L2 GA GxR DL PL TM

section
variable {P : Program} {w : World} {K : PySem.W.Frag} {mg : Str → Option Value} {base : Heap} {tl td t8 t3 : Tok} {aK aO aE aP P1 P2 : Addr} (T : Txt K mg w tl td t8 t3 aK aO aE aP) (Ok : M → Prop) (hOk : ∀ a b : M, Ok a → b.gh = a.gh → Ok b)
include T hOk

theorem c_law_without {f : Addr} {fd : FuncData} (F : Fun K "_law_without" "_law_without" s_law_without f fd) (hm : mg "_law_without" = some (.ref f))  : DCal P w K mg base 1 "_law_without" spWo := by
  refine dcal F hm (F.binds (ps := ["plan", "part", "place"]) fun _ _ _ _ _ _ us hl => match us, hl with | [_, _, _], _ => rfl) sc_law_without (fun ds m Q h => ?_) (fun cdv A outer s H E hr => ⟨_, (dss_one (ds_ret (de_addA (de_addA (de_sliceA (de_var 0) dpo_none (dpo_some (de_var 1))) (de_tup (da_cons (de_addA (de_sliceA (de_ix (de_var 0) (de_var 1)) dpo_none (dpo_some (de_var 2))) (de_sliceA (de_ix (de_var 0) (de_var 1)) (dpo_some (de_add (de_var 2) de_int)) dpo_none)) da_nil))) (de_sliceA (de_var 0) (dpo_some (de_add (de_var 1) de_int)) dpo_none)))), fun ds m Q h => ?_⟩)
  · obtain ⟨L, i, k, rfl, _⟩ := h; rfl
  · obtain ⟨L, i, k, rfl, h4, hl, l, hli, q⟩ := h
    have ll := hl l (List.mem_of_getElem? hli)
    have hi := (List.getElem?_eq_some_iff.mp hli).1
    dsimp only [dRet, dSeq, dNext, dIfS, dSet, dExpr, dAsg, dPar, dPar3, gD, dOp, dUn, dArgs, dCons, dNil, dC, dB, dNot, dCall, dMeth, dMeth0, dIf, dLst, dTup, dSl, dNoPart, dPart, dM1, dOr, dAnd, dAndV, dOrV, dDGet, dSlA, dGet1, dNewT, dNewK, dFor, iT, dDPut, dDIn, dSet0S, dSet0T, dSAddS, dSAddT, dTru]
    refine dVar_at rfl (dVar_at rfl ⟨(i : Int), rfl, slT_take ?_⟩)
    refine dVar_at rfl (dVar_at rfl (ix_tups hli (dVar_at rfl ⟨(k : Int), rfl, slT_take ?_⟩)))
    refine dVar_at rfl (dVar_at rfl (ix_tups hli (dVar_at rfl (aI ⟨(k : Int) + 1, rfl, slT_drop1 (adT (by simp only [List.length_append, List.length_take, List.length_drop, List.length_cons, List.length_nil]; omega) ⟨slk (by simp), adT (by simp only [List.length_take, List.length_map, List.length_cons, List.length_nil]; omega) ?_⟩)⟩))))
    refine dVar_at rfl (dVar_at rfl (aI ⟨(i : Int) + 1, rfl, slT_drop1 (adT (by simp only [List.length_append, List.length_take, List.length_drop, List.length_map, List.length_cons, List.length_nil]; omega) ?_)⟩))
    rw [put_eq hli, erase_cut]; exact q

end
end PR

namespace PR
open PySem PySem.Spec PyProof.Rows L2 GA GxR DL PL TM

section
variable {P : Program} {w : World} {K : PySem.W.Frag} {mg : Str → Option Value} {base : Heap} {tl td t8 t3 : Tok} {aK aO aE aP P1 P2 : Addr} (T : Txt K mg w tl td t8 t3 aK aO aE aP) (Ok : M → Prop) (hOk : ∀ a b : M, Ok a → b.gh = a.gh → Ok b)
include T hOk

theorem c_law_is {f : Addr} {fd : FuncData} (F : Fun K "_law_is" "_law_is" s_law_is f fd) (hm : mg "_law_is" = some (.ref f)) (c_fault : DCal P w K mg base 13 "fault" (spPlT Ok fun p => optF (faultP p))) (c_is_checked : DCal P w K mg base 14 "is_checked" (spPlT Ok fun p => .bl (faultP p).isNone)) : DCalG P w K mg base 15 "_law_is" (spIs Ok) := by
  refine dcalG F hm (F.binds (ps := ["plan", "due"]) fun _ _ _ _ _ _ us hl => match us, hl with | [_, _], _ => rfl) sc_law_is (fun ds m Q h => ?_) (fun cdv A outer s H E hr ng => ⟨_, (dss_one (ds_ret (de_and (de_cmp (dc_eq hr) (de_repr hr ng (by rfl) T.repr (by decide +kernel) (da_cons (de_call c_fault hr (by decide) (by rfl) (da_cons (de_var 0) da_nil)) da_nil)) (de_repr hr ng (by rfl) T.repr (by decide +kernel) (da_cons (de_var 1) da_nil))) (de_one (de_or (de_cmp dc_notN (de_var 1) de_non) (de_one (de_cmp dc_isB (de_call c_is_checked hr (by decide) (by rfl) (da_cons (de_var 0) da_nil)) de_bl))))))), fun ds m Q h => ?_⟩)
  · obtain ⟨p, due, rfl, _⟩ := h; rfl
  · obtain ⟨p, due, rfl, ⟨hp, hO⟩, hok, hf, q⟩ := h
    dsimp only [dRet, dSeq, dNext, dIfS, dSet, dExpr, dAsg, dPar, dPar3, gD, dOp, dUn, dArgs, dCons, dNil, dC, dB, dNot, dCall, dMeth, dMeth0, dIf, dLst, dTup, dSl, dNoPart, dPart, dM1, dOr, dAnd, dAndV, dOrV, dDGet, dSlA, dGet1]
    refine dVar_at rfl ⟨p, rfl, ⟨hp, hO⟩, fun m1 E1 => ?_⟩
    dsimp only
    rw [hf]
    refine reprF hok (dVar_at rfl (reprF hok (eqT ⟨_, rfl, ifT (decide_eq_true rfl) (dVar_at rfl ?_)⟩)))
    cases due with
    | some f => exact ⟨true, rfl, ifT rfl (q m1 E1)⟩
    | none =>
      refine ⟨false, rfl, ifF rfl (dVar_at rfl ⟨p, rfl, ⟨hp, hOk _ _ hO E1.gh⟩, fun m2 E2 => ?_⟩)⟩
      dsimp only
      rw [hf]
      exact q m2 (E1.trans E2)

end
end PR

namespace PR
open PySem PySem.Spec PyProof.Rows L2 GA GxR DL PL TM

section
variable {P : Program} {w : World} {K : PySem.W.Frag} {mg : Str → Option Value} {base : Heap} {tl td t8 t3 : Tok} {aK aO aE aP P1 P2 : Addr} (T : Txt K mg w tl td t8 t3 aK aO aE aP) (Ok : M → Prop) (hOk : ∀ a b : M, Ok a → b.gh = a.gh → Ok b)
include T hOk

theorem c_law_are_taken_out {f : Addr} {fd : FuncData} (F : Fun K "_law_are_taken_out" "_law_are_taken_out" s_law_are_taken_out f fd) (hm : mg "_law_are_taken_out" = some (.ref f)) (c_law_is : DCalG P w K mg base 15 "_law_is" (spIs Ok)) (c_law_without : DCal P w K mg base 1 "_law_without" spWo) : DCalG P w K mg base 16 "_law_are_taken_out" (spAll Ok) := by
  refine dcalG F hm (F.binds (ps := ["plan"]) fun _ _ _ _ _ _ us hl => match us, hl with | [_], _ => rfl) sc_law_are_taken_out (fun ds m Q h => ?_) (fun cdv A outer s H E hr ng => ⟨_, (dss_cons (ds_for PassesOwn.never rfl (dpi_tup (de_tup (da_cons de_int (da_cons de_int da_nil)))) (dg_name (i := 1) sc_law_are_taken_out.nd rfl (by first | exact Or.inl rfl | exact Or.inr rfl)) (dss_one (ds_for PassesOwn.never rfl (dpi_range (by rfl) T.range (de_len (by rfl) T.len (da_cons (de_ix (de_var 0) (de_var 1)) da_nil))) (dg_name (i := 2) sc_law_are_taken_out.nd rfl (by first | exact Or.inl rfl | exact Or.inr rfl)) (dss_one (ds_if (dt_not (dt_val (de_callG c_law_is hr ng (by decide) (by rfl) (da_cons (de_call c_law_without hr (by decide) (by rfl) (da_cons (de_var 0) (da_cons (de_var 1) (da_cons (de_var 2) da_nil)))) (da_cons de_non da_nil))))) (dss_one (ds_ret de_bl)) dss_nil)))))
      (dss_cons (ds_for PassesOwn.never rfl (dpi_enum (by rfl) T.enumerate (de_ix (de_var 0) de_int)) (dg_tup rfl (dgs_cons (pg_name (i := 2) sc_law_are_taken_out.nd rfl (by first | exact Or.inl rfl | exact Or.inr rfl)) (dgs_cons (pg_name (i := 3) sc_law_are_taken_out.nd rfl (by first | exact Or.inl rfl | exact Or.inr rfl)) dgs_nil))) (dss_cons (ds_setLc (i := 4) (own := [("it", 6)]) rfl sc_law_are_taken_out.nd rfl rfl (sw_true rfl rfl rfl (by decide +kernel)) (dpi_tup (de_ix (de_var 0) de_int)) (blkOk_by (N := ["plan", "part", "place", "joint", "near", "stretch", "it", "one", "other", "name", "end"]) (sc := defScope s_law_are_taken_out) (by decide +kernel)) (fun _ _ _ _ _ => (dg_name (i := 6) sc_law_are_taken_out.nd rfl (by first | exact Or.inl rfl | exact Or.inr rfl))) (fun _ _ _ _ _ => (dpts_one (dt_cmp (dc_inP hr) (de_ix (de_var 6) de_int) (de_var 3)))) (fun _ _ _ _ _ => (de_ix (de_var 6) de_int)))
      (dss_one (ds_if (dt_not (dt_val (de_callG c_law_is hr ng (by decide) (by rfl) (da_cons (de_call c_law_without hr (by decide) (by rfl) (da_cons (de_var 0) (da_cons de_int (da_cons (de_var 2) da_nil)))) (da_cons (de_ifE (dt_cmp (dc_ne hr) (de_var 4) (de_lst da_nil)) (de_tup (da_cons de_str (da_cons (de_ix (de_var 4) de_int) da_nil))) de_non) da_nil))))) (dss_one (ds_ret de_bl)) dss_nil))))
      (dss_cons (ds_for PassesOwn.never rfl (dpi_enum (by rfl) T.enumerate (de_ix (de_var 0) de_int)) (dg_tup rfl (dgs_cons (pg_name (i := 2) sc_law_are_taken_out.nd rfl (by first | exact Or.inl rfl | exact Or.inr rfl)) (dgs_cons (pg_name (i := 5) sc_law_are_taken_out.nd rfl (by first | exact Or.inl rfl | exact Or.inr rfl)) dgs_nil))) (dss_cons (ds_setLc (i := 4) (own := [("one", 7), ("other", 8)]) rfl sc_law_are_taken_out.nd rfl rfl (sw_true rfl rfl rfl (by decide +kernel)) (dpi_tup (de_ix (de_var 0) de_int)) (blkOk_by (N := ["plan", "part", "place", "joint", "near", "stretch", "it", "one", "other", "name", "end"]) (sc := defScope s_law_are_taken_out) (by decide +kernel)) (fun _ _ _ _ _ => (dg_tup rfl (dgs_cons (pg_name (i := 7) sc_law_are_taken_out.nd rfl (by first | exact Or.inl rfl | exact Or.inr rfl)) (dgs_cons (pg_name (i := 8) sc_law_are_taken_out.nd rfl (by first | exact Or.inl rfl | exact Or.inr rfl)) dgs_nil)))) (fun _ _ _ _ _ => (dpts_one (dt_cmp dc_in (de_ix (de_var 5) de_int) (de_tup (da_cons (de_ix (de_var 7) de_int) (da_cons (de_ix (de_var 8) de_int) da_nil)))))) (fun _ _ _ _ _ => (de_ix (de_var 7) de_int)))
      (dss_cons (ds_set (i := 4) sc_law_are_taken_out.nd rfl (by first | exact Or.inl rfl | exact Or.inr rfl) (de_add (de_var 4) (de_lc (own := [("name", 9), ("end", 10)]) rfl sc_law_are_taken_out.nd (dpi_tup (de_ix (de_var 0) de_int)) (blkOk_by (N := ["plan", "part", "place", "joint", "near", "stretch", "it", "one", "other", "name", "end"]) (sc := defScope s_law_are_taken_out) (by decide +kernel)) (fun _ _ _ _ _ => (dg_tup rfl (dgs_cons (pg_name (i := 9) sc_law_are_taken_out.nd rfl (by first | exact Or.inl rfl | exact Or.inr rfl)) (dgs_cons (pg_name (i := 10) sc_law_are_taken_out.nd rfl (by first | exact Or.inl rfl | exact Or.inr rfl)) dgs_nil)))) (fun _ _ _ _ _ => (dpts_one (dt_cmp (dc_eq hr) (de_ix (de_var 10) de_int) (de_ix (de_var 5) de_int)))) (fun _ _ _ _ _ => (de_var 9)))))
      (dss_one (ds_if (dt_not (dt_val (de_callG c_law_is hr ng (by decide) (by rfl) (da_cons (de_call c_law_without hr (by decide) (by rfl) (da_cons (de_var 0) (da_cons de_int (da_cons (de_var 2) da_nil)))) (da_cons (de_ifE (dt_cmp (dc_ne hr) (de_var 4) (de_lst da_nil)) (de_tup (da_cons de_str (da_cons (de_ix (de_var 4) de_int) da_nil))) de_non) da_nil))))) (dss_one (ds_ret de_bl)) dss_nil)))))
      (dss_one (ds_ret de_bl))))), fun ds m Q h => ?_⟩)
  · obtain ⟨p, rfl, _⟩ := h; rfl
  · obtain ⟨p, rfl, hp, hc, hO, q⟩ := h
    have b1 := hp.n1; have b2 := hp.n2; have b3 := hp.n3; have b4 := hp.n4
    have oO : ∀ {x y : M}, Ext m x → Ext x y → Ok y := fun {x y} E1 E2 => hOk _ _ hO (E1.trans E2).gh
    dsimp only [dSeq]
    refine dFor_T (xs := [.int 2, .int 3]) (fun R hR => ⟨slk (by simp), hR⟩) (fun _ δ m' => ∃ d1 d2 d3 d4 d5 d6 d7 d8 d9 d10, δ = [some p.d, d1, d2, d3, d4, d5, d6, d7, d8, d9, d10] ∧ Ext m m') ⟨_, _, _, _, _, _, _, _, _, _, rfl, Ext.refl m⟩ ?_ ?_
    · rintro i d δ m1 hd ⟨d1, d2, d3, d4, d5, d6, d7, d8, d9, d10, rfl, E1⟩
      have two : d = .int 2 ∨ d = .int 3 := by
        have := List.mem_of_getElem? hd
        simpa using this
      dsimp only [gD]
      rcases two with rfl | rfl
      · refine dFor_R (n := p.ga.length) (fun R hR => by dsimp only [dArgs, dOp, dCons, dNil]; exact dVar_at rfl (dVar_at rfl ⟨_, rfl, _, _, rfl, (List.length_map ..).symm, hR⟩)) (by omega) (fun _ δ m' => ∃ d2 d3 d4 d5 d6 d7 d8 d9 d10, δ = [some p.d, some (.int 2), d2, d3, d4, d5, d6, d7, d8, d9, d10] ∧ Ext m m') ⟨_, _, _, _, _, _, _, _, _, rfl, E1⟩ ?_ ?_
        · rintro k δ m2 hk ⟨d2, d3, d4, d5, d6, d7, d8, d9, d10, rfl, E2⟩
          dsimp only [gD]
          exact isOk (p := ⟨p.st, p.jo, p.ga.eraseIdx k, p.si⟩) (due := none) (fun R hR => by dsimp only [dOp, dC, dArgs, dCons, dNil, dCall, dTup, dB, dSlA, dNoPart, dPart]; exact dVar_at rfl (dVar_at rfl (dVar_at rfl (wo2 hp hR)))) (fun R hR => hR _ (Ext.refl _)) (hp.sub (List.Sublist.refl _) (List.Sublist.refl _) (List.eraseIdx_sublist ..) (List.Sublist.refl _)) (fun m1 E => oO E2 E) okF_none (chk_iff.mpr (hc.sub (List.eraseIdx_sublist ..) (List.Sublist.refl _))) fun m3 E3 => ⟨_, _, _, _, _, _, _, _, _, rfl, E2.trans E3⟩
        · rintro δ m2 ⟨d2, d3, d4, d5, d6, d7, d8, d9, d10, rfl, E2⟩
          exact ⟨_, _, _, _, _, _, _, _, _, _, rfl, E2⟩
      · refine dFor_R (n := p.si.length) (fun R hR => by dsimp only [dArgs, dOp, dCons, dNil]; exact dVar_at rfl (dVar_at rfl ⟨_, rfl, _, _, rfl, (List.length_map ..).symm, hR⟩)) (by omega) (fun _ δ m' => ∃ d2 d3 d4 d5 d6 d7 d8 d9 d10, δ = [some p.d, some (.int 3), d2, d3, d4, d5, d6, d7, d8, d9, d10] ∧ Ext m m') ⟨_, _, _, _, _, _, _, _, _, rfl, E1⟩ ?_ ?_
        · rintro k δ m2 hk ⟨d2, d3, d4, d5, d6, d7, d8, d9, d10, rfl, E2⟩
          dsimp only [gD]
          exact isOk (p := ⟨p.st, p.jo, p.ga, p.si.eraseIdx k⟩) (due := none) (fun R hR => by dsimp only [dOp, dC, dArgs, dCons, dNil, dCall, dTup, dB, dSlA, dNoPart, dPart]; exact dVar_at rfl (dVar_at rfl (dVar_at rfl (wo3 hp hR)))) (fun R hR => hR _ (Ext.refl _)) (hp.sub (List.Sublist.refl _) (List.Sublist.refl _) (List.Sublist.refl _) (List.eraseIdx_sublist ..)) (fun m1 E => oO E2 E) okF_none (chk_iff.mpr (hc.sub (List.Sublist.refl _) (List.eraseIdx_sublist ..))) fun m3 E3 => ⟨_, _, _, _, _, _, _, _, _, rfl, E2.trans E3⟩
        · rintro δ m2 ⟨d2, d3, d4, d5, d6, d7, d8, d9, d10, rfl, E2⟩
          exact ⟨_, _, _, _, _, _, _, _, _, _, rfl, E2⟩
    · rintro δ m1 ⟨d1, d2, d3, d4, d5, d6, d7, d8, d9, d10, rfl, E1⟩
      dsimp only
      refine dFor_En (l := p.jo) (f := joD) (fun R hR => by dsimp only [dOp, dC]; exact dVar_at rfl ⟨_, rfl, hR⟩) (fun _ δ m' => ∃ d1 d2 d3 d4 d5 d6 d7 d8 d9 d10, δ = [some p.d, d1, d2, d3, d4, d5, d6, d7, d8, d9, d10] ∧ Ext m m') ⟨_, _, _, _, _, _, _, _, _, _, rfl, E1⟩ ?_ ?_
      · rintro k j δ m2 hj ⟨d1, d2, d3, d4, d5, d6, d7, d8, d9, d10, rfl, E2⟩
        have jok := hp.jo j (List.mem_of_getElem? hj)
        refine ⟨[.int (k : Int), joD j], .inl rfl, rfl, ?_⟩
        dsimp only [dSeq, dSet]
        refine lcT (l := p.si) (f := siD) (h := fun s => .str s.1) (fun s => decide (s.2.1 = j.1 ∨ s.2.1 = j.2)) (fun x y e => siD_inj e) (fun R hR => by dsimp only [dOp, dC]; exact dVar_at rfl ⟨_, rfl, hR⟩) (by omega) (fun s hs m' E' Ry Rn hr => ?_) (fun a m3 ha E3 hm3 => ?_)
        · dsimp only [gD]
          dsimp only [dOp, dC, dArgs, dCons, dNil, dCall, dTup, dB, dSlA, dNoPart, dPart]
          refine dVar_at rfl ⟨_, rfl, dVar_at rfl (inPair (e := s.2.1) (hp.si s hs).2.1 jok.1 jok.2 ⟨_, rfl, ?_⟩)⟩
          have := hr m' (Ext.refl _)
          refine iff_T (fun z => ?_) fun z => ?_
          · rw [if_pos z] at this; exact dVar_at rfl ⟨_, rfl, this⟩
          · rw [if_neg (by rw [z]; decide)] at this; exact this
        · have e3 : (p.si.filter fun s => decide (s.2.1 = j.1 ∨ s.2.1 = j.2)).map (fun s => D.str s.1) = ((p.si.filter fun s => decide (s.2.1 = j.1 ∨ s.2.1 = j.2)).map (·.1)).map D.str := by rw [List.map_map]; rfl
          rw [e3] at hm3
          have hn : ∀ x ∈ (p.si.filter fun s => decide (s.2.1 = j.1 ∨ s.2.1 = j.2)).map (·.1), nameS x = true := fun x hx => by
            obtain ⟨s, hs, rfl⟩ := List.mem_map.mp hx
            exact (hp.si s (List.mem_filter.mp hs).1).1
          exact isOk (p := ⟨p.st, p.jo.eraseIdx k, p.ga, p.si⟩) (fun R hR => by dsimp only [dOp, dC, dArgs, dCons, dNil, dCall, dTup, dB, dSlA, dNoPart, dPart]; exact dVar_at rfl (dVar_at rfl (wo1 hp hR))) (fun R hR => firstI rfl hm3 hn hR) (hp.sub (List.Sublist.refl _) (List.eraseIdx_sublist ..) (List.Sublist.refl _) (List.Sublist.refl _)) (fun m4 E4 => oO (E2.trans E3) E4) (okF_tag okW_words.2.2.2.2.1 hn) (by rw [hc.cutj hj, cutj_head]) fun m4 E4 => ⟨_, _, _, _, _, _, _, _, _, _, rfl, (E2.trans E3).trans E4⟩
      · rintro δ m2 ⟨d1, d2, d3, d4, d5, d6, d7, d8, d9, d10, rfl, E2⟩
        dsimp only
        refine dFor_En (l := p.st) (f := strD) (fun R hR => by dsimp only [dOp, dC]; exact dVar_at rfl ⟨_, rfl, hR⟩) (fun _ δ m' => ∃ d1 d2 d3 d4 d5 d6 d7 d8 d9 d10, δ = [some p.d, d1, d2, d3, d4, d5, d6, d7, d8, d9, d10] ∧ Ext m m') ⟨_, _, _, _, _, _, _, _, _, _, rfl, E2⟩ ?_ ?_
        · rintro k s δ m3 hs ⟨d1, d2, d3, d4, d5, d6, d7, d8, d9, d10, rfl, E3⟩
          refine ⟨[.int (k : Int), strD s], .inl rfl, rfl, ?_⟩
          dsimp only [dSeq, dSet]
          refine lcT (l := p.jo) (f := joD) (h := fun j => .str j.1.1) (fun j => decide (s.1 = j.1.1 ∨ s.1 = j.2.1)) (fun x y e => joD_inj e) (fun R hR => by dsimp only [dOp, dC]; exact dVar_at rfl ⟨_, rfl, hR⟩) (by omega) (fun j hj m' E' Ry Rn hr => ?_) (fun a m4 ha E4 hm4 => ?_)
          · refine ⟨[endD j.1, endD j.2], .inl rfl, rfl, ?_⟩
            dsimp only [dOp, dC, dArgs, dCons, dNil, dCall, dTup, dB, dSlA, dNoPart, dPart]
            refine dVar_at rfl ⟨_, rfl, dVar_at rfl (endD_ix0 (dVar_at rfl (endD_ix0 ⟨slk (by simp), inTwo ⟨_, rfl, ?_⟩⟩)))⟩
            have := hr m' (Ext.refl _)
            refine iff_T (fun z => ?_) fun z => ?_
            · rw [if_pos z] at this; exact dVar_at rfl (endD_ix0 this)
            · rw [if_neg (by rw [z]; decide)] at this; exact this
          · dsimp only [dOp]
            refine dVar_at rfl (lcT (l := p.ga) (f := gaD) (h := fun g => .str g.1) (fun g => decide (g.2.1 = s.1)) (fun x y e => gaD_inj e) (fun R hR => by dsimp only [dOp, dC]; exact dVar_at rfl ⟨_, rfl, hR⟩) (by omega) (fun g hg m' E' Ry Rn hr => ?_) (fun a2 m5 ha2 E5 hm5 => ?_))
            · refine ⟨[.str g.1, endD g.2], .inl rfl, rfl, ?_⟩
              dsimp only [dOp, dC, dArgs, dCons, dNil, dCall, dTup, dB, dSlA, dNoPart, dPart]
              refine dVar_at rfl (endD_ix0 (dVar_at rfl ⟨_, rfl, eqT ⟨_, rfl, ?_⟩⟩))
              have := hr m' (Ext.refl _)
              refine iff_T (fun z => ?_) fun z => ?_
              · rw [if_pos z] at this; exact dVar_at rfl this
              · rw [if_neg (by rw [z]; decide)] at this; exact this
            · refine addL (E5.old _ _ hm4) hm5 (by
                have h1 := List.length_filter_le (fun j => decide (s.1 = j.1.1 ∨ s.1 = j.2.1)) p.jo
                have h2 := List.length_filter_le (fun g : Str × PL.End => decide (g.2.1 = s.1)) p.ga
                rw [List.length_map, List.length_map]; omega) fun a3 ha3 => ?_
              have e3 : ((p.jo.filter fun j => decide (s.1 = j.1.1 ∨ s.1 = j.2.1)).map fun j => D.str j.1.1) ++ ((p.ga.filter fun g => decide (g.2.1 = s.1)).map fun g => D.str g.1) = (((p.jo.filter fun j => decide (s.1 = j.1.1 ∨ s.1 = j.2.1)).map fun j => j.1.1) ++ (p.ga.filter fun g => decide (g.2.1 = s.1)).map (·.1)).map D.str := by rw [List.map_append, List.map_map, List.map_map]; rfl
              rw [e3]
              have hn : ∀ x ∈ ((p.jo.filter fun j => decide (s.1 = j.1.1 ∨ s.1 = j.2.1)).map fun j => j.1.1) ++ (p.ga.filter fun g => decide (g.2.1 = s.1)).map (·.1), nameS x = true := fun x hx => by
                rcases List.mem_append.mp hx with hx | hx
                · obtain ⟨j, hj, rfl⟩ := List.mem_map.mp hx
                  exact (hp.jo j (List.mem_filter.mp hj).1).1.1
                · obtain ⟨g, hg, rfl⟩ := List.mem_map.mp hx
                  exact (hp.ga g (List.mem_filter.mp hg).1).1
              have E6 := ((E3.trans E4).trans E5).trans (Ext.new (o := .lst ((((p.jo.filter fun j => decide (s.1 = j.1.1 ∨ s.1 = j.2.1)).map fun j => j.1.1) ++ (p.ga.filter fun g => decide (g.2.1 = s.1)).map (·.1)).map D.str)) ha3)
              exact isOk (p := ⟨p.st.eraseIdx k, p.jo, p.ga, p.si⟩) (fun R hR => by dsimp only [dOp, dC, dArgs, dCons, dNil, dCall, dTup, dB, dSlA, dNoPart, dPart]; exact dVar_at rfl (dVar_at rfl (wo0 hp hR))) (fun R hR => firstI rfl M.set_same hn hR) (hp.sub (List.eraseIdx_sublist ..) (List.Sublist.refl _) (List.Sublist.refl _) (List.Sublist.refl _)) (fun m7 E7 => oO E6 E7) (okF_tag okW_words.2.1 hn) (hc.cuts hs) fun m7 E7 => ⟨_, _, _, _, _, _, _, _, _, _, rfl, E6.trans E7⟩
        · rintro δ m3 ⟨d1, d2, d3, d4, d5, d6, d7, d8, d9, d10, rfl, E3⟩
          exact q m3 E3

end
end PR

namespace PR
open PySem PySem.Spec PyProof.Rows L2 GA GxR DL PL TM

section
variable {P : Program} {w : World} {K : PySem.W.Frag} {mg : Str → Option Value} {base : Heap} {tl td t8 t3 : Tok} {aK aO aE aP P1 P2 : Addr} (T : Txt K mg w tl td t8 t3 aK aO aE aP) (Ok : M → Prop) (hOk : ∀ a b : M, Ok a → b.gh = a.gh → Ok b)
include T hOk

theorem c_law_are_names_put_in {f : Addr} {fd : FuncData} (F : Fun K "_law_are_names_put_in" "_law_are_names_put_in" s_law_are_names_put_in f fd) (hm : mg "_law_are_names_put_in" = some (.ref f)) (c_law_is : DCalG P w K mg base 15 "_law_is" (spIs Ok)) (c_law_put : DCal P w K mg base 1 "_law_put" spPut) (c_law_draw : DCal P w K mg base 1 "_law_draw" spDrawG) (c_law_pick : DCal P w K mg base 2 "_law_pick" spPick) : DCalG P w K mg base 16 "_law_are_names_put_in" (spNames Ok) := by
  refine dcalG F hm (F.binds (ps := ["deck", "plan", "name"]) fun _ _ _ _ _ _ us hl => match us, hl with | [_, _, _], _ => rfl) sc_law_are_names_put_in (fun ds m Q h => ?_) (fun cdv A outer s H E hr ng => ⟨_, (dss_cons (ds_set (i := 3) sc_law_are_names_put_in.nd rfl (by first | exact Or.inl rfl | exact Or.inr rfl) (de_add (de_lc (own := [("it", 11)]) rfl sc_law_are_names_put_in.nd (dpi_tup (de_addA (de_ix (de_var 1) de_int) (de_ix (de_var 1) de_int))) (blkOk_by (N := ["deck", "plan", "name", "used", "turn", "item", "due", "part", "old", "place", "kind", "it"]) (sc := defScope s_law_are_names_put_in) (by decide +kernel)) (fun _ _ _ _ _ => (dg_name (i := 11) sc_law_are_names_put_in.nd rfl (by first | exact Or.inl rfl | exact Or.inr rfl))) (fun _ _ _ _ _ => dpts_nil) (fun _ _ _ _ _ => (de_ix (de_var 11) de_int))) (de_lc (own := [("it", 11)]) rfl sc_law_are_names_put_in.nd (dpi_tup (de_ix (de_var 1) de_int)) (blkOk_by (N := ["deck", "plan", "name", "used", "turn", "item", "due", "part", "old", "place", "kind", "it"]) (sc := defScope s_law_are_names_put_in) (by decide +kernel)) (fun _ _ _ _ _ => (dg_name (i := 11) sc_law_are_names_put_in.nd rfl (by first | exact Or.inl rfl | exact Or.inr rfl))) (fun _ _ _ _ _ => dpts_nil) (fun _ _ _ _ _ => (de_ix (de_var 11) de_int)))))
      (dss_cons (ds_for PassesOwn.never rfl (dpi_range (by rfl) T.range de_int) (dg_name (i := 4) sc_law_are_names_put_in.nd rfl (by first | exact Or.inl rfl | exact Or.inr rfl)) (dss_cons (ds_par rfl sc_law_are_names_put_in.nd (i := 7) (j := 8) rfl rfl (by decide) rfl rfl (da_cons (de_call c_law_pick hr (by decide) (by rfl) (da_cons (de_var 0) (da_cons (de_lst (da_cons de_int (da_cons de_int (da_cons de_int da_nil)))) da_nil))) (da_cons (de_ifE (dt_cmp (dc_ne hr) (de_var 3) (de_lst da_nil)) (de_call c_law_pick hr (by decide) (by rfl) (da_cons (de_var 0) (da_cons (de_var 3) da_nil))) (de_var 2)) da_nil)) (by rfl))
      (dss_cons (ds_par rfl sc_law_are_names_put_in.nd (i := 9) (j := 10) rfl rfl (by decide) rfl rfl (da_cons (de_call c_law_draw hr (by decide) (by rfl) (da_cons (de_var 0) (da_cons (de_add (de_len (by rfl) T.len (da_cons (de_ix (de_var 1) (de_var 7)) da_nil)) de_int) da_nil))) (da_cons (de_call c_law_pick hr (by decide) (by rfl) (da_cons (de_var 0) (da_cons (de_lst (da_cons de_str (da_cons de_str (da_cons de_str da_nil)))) da_nil))) da_nil)) (by rfl))
      (dss_cons (ds_set (i := 5) sc_law_are_names_put_in.nd rfl (by first | exact Or.inl rfl | exact Or.inr rfl) (de_ifE (dt_cmp (dc_eq hr) (de_var 7) de_int) (de_tup (da_cons (de_var 8) (da_cons (de_var 10) da_nil))) (de_ifE (dt_cmp (dc_eq hr) (de_var 7) de_int) (de_tup (da_cons (de_var 8) (da_cons (de_tup (da_cons (de_var 2) (da_cons de_int da_nil))) da_nil))) (de_tup (da_cons (de_var 8) (da_cons (de_tup (da_cons (de_var 2) (da_cons de_int da_nil))) (da_cons (de_tup da_nil) da_nil)))))))
      (dss_cons (ds_set (i := 6) sc_law_are_names_put_in.nd rfl (by first | exact Or.inl rfl | exact Or.inr rfl) (de_ifE (dt_cmp (dc_ne hr) (de_var 3) (de_lst da_nil)) (de_tup (da_cons de_str (da_cons (de_var 8) da_nil))) (de_ifE (dt_cmp (dc_eq hr) (de_var 7) de_int) de_non (de_tup (da_cons de_str (da_cons (de_var 8) da_nil))))))
      (dss_cons (ds_if (dt_not (dt_val (de_callG c_law_is hr ng (by decide) (by rfl) (da_cons (de_call c_law_put hr (by decide) (by rfl) (da_cons (de_var 1) (da_cons (de_var 7) (da_cons (de_var 9) (da_cons (de_var 5) da_nil))))) (da_cons (de_var 6) da_nil))))) (dss_one (ds_ret de_bl)) dss_nil)
      (dss_one (ds_if (dt_not (dt_val (de_callG c_law_is hr ng (by decide) (by rfl) (da_cons (de_call c_law_put hr (by decide) (by rfl) (da_cons (de_var 1) (da_cons de_int (da_cons (de_var 9) (da_cons (de_tup (da_cons (de_var 2) (da_cons (de_var 10) da_nil))) da_nil))))) (da_cons de_non da_nil))))) (dss_one (ds_ret de_bl)) dss_nil))))))))
      (dss_one (ds_ret de_bl)))), fun ds m Q h => ?_⟩)
  · obtain ⟨d, p, n, rfl, _⟩ := h; rfl
  · obtain ⟨d, p, n, rfl, hd, hp, hc, hO, hn, hnn, hst, hga, hsi, q⟩ := h
    have b1 := hp.n1; have b2 := hp.n2; have b3 := hp.n3; have b4 := hp.n4
    have oO : ∀ {x y : M}, Ext m x → Ext x y → Ok y := fun {x y} E1 E2 => hOk _ _ hO (E1.trans E2).gh
    refine seqR1 (fun δ m2 => ∃ u d4 d5 d6 d7 d8 d9 d10 d11, δ = [some d, some p.d, some (.str n), some (.ref u), d4, d5, d6, d7, d8, d9, d10, d11] ∧ Ext m m2 ∧ m2.mu u = some (.lst (p.nms.map D.str))) ?_ (fun R hR => seqI ?_)
    · rintro δ m2 ⟨u, d4, d5, d6, d7, d8, d9, d10, d11, rfl, E2, hu⟩
      refine seqI (dFor_R (n := 6) (fun R hR => hR) (by decide) (fun _ δ m' => ∃ d4 d5 d6 d7 d8 d9 d10 d11, δ = [some d, some p.d, some (.str n), some (.ref u), d4, d5, d6, d7, d8, d9, d10, d11] ∧ Ext m m' ∧ m'.mu u = some (.lst (p.nms.map D.str))) ⟨_, _, _, _, _, _, _, _, rfl, E2, hu⟩ ?_ ?_)
      · rintro i δ m3 hi ⟨d4, d5, d6, d7, d8, d9, d10, d11, rfl, E3, hu⟩
        dsimp only [gD]
        refine seqR1 (fun δ m2 => ∃ (pt : Int) (o : Str) (d4 d5 d6 d9 d10 d11 : Option D), δ = [some d, some p.d, some (.str n), some (.ref u), d4, d5, d6, some (.int pt), some (.str o), d9, d10, d11] ∧ Ext m m2 ∧ m2.mu u = some (.lst (p.nms.map D.str)) ∧ (pt = 0 ∨ pt = 2 ∨ pt = 3) ∧ nameS o = true ∧ (p.nms ≠ [] → o ∈ p.nms)) ?_ (fun R hR => seqI ?_)
        · rintro δ m4 ⟨pt, o, d4, d5, d6, d9, d10, d11, rfl, E4, hu, hpt, ho, hop⟩
          refine seqR1 (fun δ m2 => ∃ (k : Nat) (kd : Str) (d4 d5 d6 d11 : Option D), δ = [some d, some p.d, some (.str n), some (.ref u), d4, d5, d6, some (.int pt), some (.str o), some (.int (k : Int)), some (.str kd), d11] ∧ Ext m m2 ∧ m2.mu u = some (.lst (p.nms.map D.str)) ∧ kindS kd = true) ?_ (fun R hR => seqI ?_)
          · rintro δ m5 ⟨k, kd, d4, d5, d6, d11, rfl, E5, hu, hkd⟩
            refine seqR1 (fun δ m2 => ∃ (x : D) (d4 d6 d11 : Option D), δ = [some d, some p.d, some (.str n), some (.ref u), d4, some x, d6, some (.int pt), some (.str o), some (.int (k : Int)), some (.str kd), d11] ∧ Ext m m2 ∧ m2.mu u = some (.lst (p.nms.map D.str)) ∧
              ∃ p', p'.Ok ∧ faultP p' = dueN p pt o ∧ ∀ m (R : DK), R p'.d m → spPut [p.d, .int pt, .int (k : Int), x] m R) ?_ (fun R hR => seqI ?_)
            · rintro δ m6 ⟨x, d4, d6, d11, rfl, E6, hu, p', hp', hf, hx⟩
              refine seqR1 (fun δ m2 => ∃ (d4 d11 : Option D), δ = [some d, some p.d, some (.str n), some (.ref u), d4, some x, some (optF (dueN p pt o)), some (.int pt), some (.str o), some (.int (k : Int)), some (.str kd), d11] ∧ Ext m m2 ∧ m2.mu u = some (.lst (p.nms.map D.str))) ?_ (fun R hR => seqI ?_)
              · rintro δ m7 ⟨d4, d11, rfl, E7, hu⟩
                refine seqI (isOk (p := p') (due := dueN p pt o) (fun R hR => by dsimp only [dOp, dC, dArgs, dCons, dNil, dCall, dTup, dB, dSlA, dNoPart, dPart]; exact dVar_at rfl (dVar_at rfl (dVar_at rfl (dVar_at rfl (hx _ _ hR))))) (fun R hR => dVar_at rfl (hR _ (Ext.refl _))) hp' (fun m1 E => oO E7 E) (dueN_ok ho) hf fun m8 E8 => ?_)
                dsimp only
                refine isOk (p := ⟨insA p.st k (n, kd), p.jo, p.ga, p.si⟩) (due := none) (fun R hR => by dsimp only [dOp, dC, dArgs, dCons, dNil, dCall, dTup, dB, dSlA, dNoPart, dPart]; exact dVar_at rfl (dVar_at rfl (dVar_at rfl (dVar_at rfl ⟨slk (by simp), put0 hp (x := (n, kd)) hR⟩)))) (fun R hR => hR _ (Ext.refl _)) (hp.put0 ⟨hn, hkd⟩ (by omega)) (fun m1 E => oO (E7.trans E8) E) okF_none (chk_iff.mpr (hc.inst hnn kd k)) fun m9 E9 => ?_
                exact ⟨_, _, _, _, _, _, _, _, rfl, (E7.trans E8).trans E9, (E8.trans E9).old _ _ hu⟩
              · dsimp only [dSet, dIf]
                dsimp only [dOp, dC, dArgs, dCons, dNil, dCall, dTup, dB, dSlA, dNoPart, dPart]
                refine dVar_at rfl ⟨slk (by simp), fun p1 hp1 => ne_nil ((Ext.new hp1).old _ _ hu) M.set_same (fine_names (nms_ok hp)) ⟨_, rfl, iff_T (fun hz => ?_) fun hz => ?_⟩⟩
                · refine dVar_at rfl ⟨slk (by simp), hR _ _ ⟨d4, d11, ?_, E6.trans (Ext.new hp1), (Ext.new hp1).old _ _ hu⟩⟩
                  unfold dueN; rw [if_pos (ne_of' hz)]; rfl
                · have hz := nil_of hz
                  refine dVar_at rfl (eqI ⟨_, rfl, iff_T (fun hy => ?_) fun hy => ?_⟩)
                  · refine hR _ _ ⟨d4, d11, ?_, E6.trans (Ext.new hp1), (Ext.new hp1).old _ _ hu⟩
                    unfold dueN; rw [if_neg (by rw [hz]; simp), if_pos (by simpa using hy)]; rfl
                  · refine dVar_at rfl ⟨slk (by simp), hR _ _ ⟨d4, d11, ?_, E6.trans (Ext.new hp1), (Ext.new hp1).old _ _ hu⟩⟩
                    unfold dueN; rw [if_neg (by rw [hz]; simp), if_neg (by simpa using hy)]; rfl
            · dsimp only [dSet, dIf]
              dsimp only [dOp, dC, dArgs, dCons, dNil, dCall, dTup, dB, dSlA, dNoPart, dPart]
              rcases hpt with rfl | rfl | rfl
              · refine dVar_at rfl (eqI ⟨_, rfl, ifT rfl (dVar_at rfl (dVar_at rfl ⟨slk (by simp), hR _ _ ⟨_, _, _, _, rfl, E5, hu, ⟨insA p.st k (o, kd), p.jo, p.ga, p.si⟩, hp.put0 ⟨ho, hkd⟩ (by omega), dueN_st hc hop, fun m R hR => put0 hp (x := (o, kd)) hR⟩⟩))⟩)
              · refine dVar_at rfl (eqI ⟨_, rfl, ifF rfl (dVar_at rfl (eqI ⟨_, rfl, ifT rfl (dVar_at rfl (dVar_at rfl ⟨slk (by simp), slk (by simp), hR _ _ ⟨_, _, _, _, rfl, E5, hu, ⟨p.st, p.jo, insA p.ga k (o, (n, 0)), p.si⟩, hp.put2 ⟨ho, end0 hn⟩ (by omega), dueN_ga hc hop, fun m R hR => put2 hp (x := (o, (n, 0))) hR⟩⟩))⟩))⟩)
              · refine dVar_at rfl (eqI ⟨_, rfl, ifF rfl (dVar_at rfl (eqI ⟨_, rfl, ifF rfl (dVar_at rfl (dVar_at rfl ⟨slk (by simp), slk (by simp), slk (by simp), hR _ _ ⟨_, _, _, _, rfl, E5, hu, ⟨p.st, p.jo, p.ga, insA p.si k (o, (n, 0), none)⟩, hp.put3 ⟨ho, end0 hn, fun t h => by cases h⟩ (by omega), dueN_si hc hop, fun m R hR => put3 hp (x := (o, (n, 0), none)) hR⟩⟩))⟩))⟩)
          · dsimp only [dPar]
            dsimp only [dOp, dC, dArgs, dCons, dNil, dCall, dTup, dB, dSlA, dNoPart, dPart]
            rcases hpt with rfl | rfl | rfl
            all_goals
              refine dVar_at rfl (dVar_at rfl (dVar_at rfl ⟨_, rfl, _, _, rfl, (List.length_map ..).symm, aI (drw (hd.ext E4.gh) (by omega) (by omega) fun r r0 r1 => ?_)⟩))
              obtain ⟨k, rfl⟩ : ∃ k : Nat, r = (k : Int) := ⟨r.toNat, by omega⟩
              refine dVar_at rfl ⟨slk (by simp), fun p1 hp1 => pickL (hd.ext E4.gh) (by simp) (by decide) fun y hy => ?_⟩
              obtain ⟨kd, rfl, hkd⟩ : ∃ kd, y = D.str kd ∧ kindS kd = true := by
                simp only [List.mem_cons, List.not_mem_nil, or_false] at hy
                rcases hy with rfl | rfl | rfl <;> exact ⟨_, rfl, by decide⟩
              exact ⟨_, _, rfl, hR _ _ ⟨k, kd, _, _, _, _, rfl, E4.trans (Ext.new hp1), (Ext.new hp1).old _ _ hu, hkd⟩⟩
        · dsimp only [dPar, dIf]
          dsimp only [dOp, dC, dArgs, dCons, dNil, dCall, dTup, dB, dSlA, dNoPart, dPart]
          refine dVar_at rfl ⟨slk (by simp), fun p1 hp1 => pickL (hd.ext E3.gh) (by simp) (by decide) fun y hy => ?_⟩
          obtain ⟨pt, rfl, hpt⟩ : ∃ pt : Int, y = .int pt ∧ (pt = 0 ∨ pt = 2 ∨ pt = 3) := by
            simp only [List.mem_cons, List.not_mem_nil, or_false] at hy
            rcases hy with rfl | rfl | rfl <;> exact ⟨_, rfl, by decide⟩
          have hu1 := (Ext.new (o := .lst [.int 0, .int 2, .int 3]) hp1).old _ _ hu
          have E4 := E3.trans (Ext.new (o := .lst [.int 0, .int 2, .int 3]) hp1)
          dsimp only [dIf]
          dsimp only [dOp, dC, dArgs, dCons, dNil, dCall, dTup, dB, dSlA, dNoPart, dPart]
          refine dVar_at rfl ⟨slk (by simp), fun p2 hp2 => ne_nil ((Ext.new hp2).old _ _ hu1) M.set_same (fine_names (nms_ok hp)) ⟨_, rfl, iff_T (fun hz => ?_) fun hz => ?_⟩⟩
          · have hz := ne_of' hz
            exact dVar_at rfl (dVar_at rfl (pk (f := D.str) (l := p.nms) (hd.ext (E4.trans (Ext.new hp2)).gh) ((Ext.new hp2).old _ _ hu1) hz (by have := nms_len hp; omega) fun o ho => ⟨_, _, rfl, hR _ _ ⟨pt, o, _, _, _, _, _, _, rfl, E4.trans (Ext.new hp2), (Ext.new hp2).old _ _ hu1, hpt, nms_ok hp o ho, fun _ => ho⟩⟩))
          · have hz := nil_of hz
            exact dVar_at rfl ⟨_, _, rfl, hR _ _ ⟨pt, n, _, _, _, _, _, _, rfl, E4.trans (Ext.new hp2), (Ext.new hp2).old _ _ hu1, hpt, hn, fun z => (z hz).elim⟩⟩
      · rintro δ m3 ⟨d4, d5, d6, d7, d8, d9, d10, d11, rfl, E3, hu⟩
        exact q m3 E3
    · dsimp only [dSet]
      dsimp only [dOp]
      refine lcT (l := sgI p) (f := nmD) (h := fun z => .str z.1) (fun _ => true) (fun x y e => nmD_inj e) (fun R hR => by dsimp only [dOp, dC, dArgs, dCons, dNil, dCall, dTup, dB, dSlA, dNoPart, dPart]; exact dVar_at rfl ⟨_, rfl, dVar_at rfl ⟨_, rfl, adT (by simp only [List.length_map]; omega) (by rw [← sgI_d]; exact hR)⟩⟩) (by unfold sgI; rw [List.length_append, List.length_map, List.length_map]; omega) (fun x hx m' E' Ry Rn hr => ?_) (fun a m3 ha E3 hm3 => ?_)
      · dsimp only [gD]
        dsimp only [dOp, dC, dArgs, dCons, dNil, dCall, dTup, dB, dSlA, dNoPart, dPart]
        have := hr m' (Ext.refl _)
        rw [if_pos rfl] at this
        refine yesT ?_
        exact dVar_at rfl (nm_ix0 this)
      · refine lcT (l := p.si) (f := siD) (h := fun s => .str s.1) (fun _ => true) (fun x y e => siD_inj e) (fun R hR => by dsimp only [dOp, dC, dArgs, dCons, dNil, dCall, dTup, dB, dSlA, dNoPart, dPart]; exact dVar_at rfl ⟨_, rfl, hR⟩) (by omega) (fun x hx m' E' Ry Rn hr => ?_) (fun a2 m4 ha2 E4 hm4 => ?_)
        · dsimp only [gD]
          dsimp only [dOp, dC, dArgs, dCons, dNil, dCall, dTup, dB, dSlA, dNoPart, dPart]
          have := hr m' (Ext.refl _)
          rw [if_pos rfl] at this
          refine yesT ?_
          exact dVar_at rfl ⟨_, rfl, this⟩
        · rw [fT] at hm3 hm4
          refine addL (E4.old _ _ hm3) hm4 (by unfold sgI; rw [List.length_map, List.length_map, List.length_append, List.length_map, List.length_map]; omega) fun a3 ha3 => ?_
          rw [used_e]
          exact hR _ _ ⟨a3, _, _, _, _, _, _, _, _, rfl, (E3.trans E4).trans (Ext.new ha3), M.set_same⟩

end
end PR

namespace PR
open PySem PySem.Spec PyProof.Rows L2 GA GxR DL PL TM

section
variable {P : Program} {w : World} {K : PySem.W.Frag} {mg : Str → Option Value} {base : Heap} {tl td t8 t3 : Tok} {aK aO aE aP P1 P2 : Addr} (T : Txt K mg w tl td t8 t3 aK aO aE aP) (Ok : M → Prop) (hOk : ∀ a b : M, Ok a → b.gh = a.gh → Ok b)
include T hOk

theorem c_law_are_joints_put_in {f : Addr} {fd : FuncData} (F : Fun K "_law_are_joints_put_in" "_law_are_joints_put_in" s_law_are_joints_put_in f fd) (hm : mg "_law_are_joints_put_in" = some (.ref f)) (c_law_is : DCalG P w K mg base 15 "_law_is" (spIs Ok)) (c_law_put : DCal P w K mg base 1 "_law_put" spPut) (c_law_draw : DCal P w K mg base 1 "_law_draw" spDrawG) (c_law_pick : DCal P w K mg base 2 "_law_pick" spPick) (c_law_ends : DCal P w K mg base 1 "_law_ends" spEnds) : DCalG P w K mg base 16 "_law_are_joints_put_in" (spJns Ok) := by
  refine dcalG F hm (F.binds (ps := ["deck", "plan"]) fun _ _ _ _ _ _ us hl => match us, hl with | [_, _], _ => rfl) sc_law_are_joints_put_in (fun ds m Q h => ?_) (fun cdv A outer s H E hr ng => ⟨_, (dss_cons (ds_set (i := 2) sc_law_are_joints_put_in.nd rfl (by first | exact Or.inl rfl | exact Or.inr rfl) (de_call c_law_ends hr (by decide) (by rfl) (da_cons (de_var 1) da_nil)))
      (dss_cons (ds_for PassesOwn.never rfl (dpi_range (by rfl) T.range (de_ifE (dt_w (dw_and (dt_cmp (dc_ne hr) (de_var 2) (de_lst da_nil)) (dw_and1 (dt_cmp dc_lt (de_len (by rfl) T.len (da_cons (de_ix (de_var 1) de_int) da_nil)) de_int)))) de_int de_int)) (dg_name (i := 3) sc_law_are_joints_put_in.nd rfl (by first | exact Or.inl rfl | exact Or.inr rfl)) (dss_cons (ds_asg (de_tup (da_cons (de_call c_law_pick hr (by decide) (by rfl) (da_cons (de_var 0) (da_cons (de_var 2) da_nil))) (da_cons (de_call c_law_pick hr (by decide) (by rfl) (da_cons (de_var 0) (da_cons (de_var 2) da_nil))) (da_cons (de_call c_law_draw hr (by decide) (by rfl) (da_cons (de_var 0) (da_cons (de_add (de_len (by rfl) T.len (da_cons (de_ix (de_var 1) de_int) da_nil)) de_int) da_nil))) da_nil)))) (dg_tup rfl (dgs_cons (pg_name (i := 7) sc_law_are_joints_put_in.nd rfl (by first | exact Or.inl rfl | exact Or.inr rfl)) (dgs_cons (pg_name (i := 8) sc_law_are_joints_put_in.nd rfl (by first | exact Or.inl rfl | exact Or.inr rfl)) (dgs_cons (pg_name (i := 9) sc_law_are_joints_put_in.nd rfl (by first | exact Or.inl rfl | exact Or.inr rfl)) dgs_nil)))))
      (dss_cons (ds_setLc (i := 4) (own := [("at", 10), ("joint", 11)]) rfl sc_law_are_joints_put_in.nd rfl rfl (sw_true rfl rfl rfl (by decide +kernel)) (dpi_enum (by rfl) T.enumerate (de_ix (de_var 1) de_int)) (blkOk_by (N := ["deck", "plan", "ends", "turn", "shared", "gates", "due", "one", "other", "place", "at", "joint", "name", "end"]) (sc := defScope s_law_are_joints_put_in) (by decide +kernel)) (fun _ _ _ _ _ => (dg_tup rfl (dgs_cons (pg_name (i := 10) sc_law_are_joints_put_in.nd rfl (by first | exact Or.inl rfl | exact Or.inr rfl)) (dgs_cons (pg_name (i := 11) sc_law_are_joints_put_in.nd rfl (by first | exact Or.inl rfl | exact Or.inr rfl)) dgs_nil)))) (fun _ _ _ _ _ => (dpts_one (dt_w (dw_or (dt_cmp (dc_inP hr) (de_var 7) (de_var 11)) (dw_or1 (dt_cmp (dc_inP hr) (de_var 8) (de_var 11))))))) (fun _ _ _ _ _ => (de_var 10)))
      (dss_cons (ds_setLc (i := 5) (own := [("name", 12), ("end", 13)]) rfl sc_law_are_joints_put_in.nd rfl rfl (sw_true rfl rfl rfl (by decide +kernel)) (dpi_tup (de_ix (de_var 1) de_int)) (blkOk_by (N := ["deck", "plan", "ends", "turn", "shared", "gates", "due", "one", "other", "place", "at", "joint", "name", "end"]) (sc := defScope s_law_are_joints_put_in) (by decide +kernel)) (fun _ _ _ _ _ => (dg_tup rfl (dgs_cons (pg_name (i := 12) sc_law_are_joints_put_in.nd rfl (by first | exact Or.inl rfl | exact Or.inr rfl)) (dgs_cons (pg_name (i := 13) sc_law_are_joints_put_in.nd rfl (by first | exact Or.inl rfl | exact Or.inr rfl)) dgs_nil)))) (fun _ _ _ _ _ => (dpts_one (dt_cmp (dc_inP hr) (de_var 13) (de_tup (da_cons (de_var 7) (da_cons (de_var 8) da_nil)))))) (fun _ _ _ _ _ => (de_var 12)))
      (dss_cons (ds_set (i := 6) sc_law_are_joints_put_in.nd rfl (by first | exact Or.inl rfl | exact Or.inr rfl) (de_ifE (dt_cmp (dc_ne hr) (de_var 5) (de_lst da_nil)) (de_tup (da_cons de_str (da_cons (de_ix (de_var 5) de_int) da_nil))) de_non))
      (dss_cons (ds_if (dt_w (dw_or (dt_cmp (dc_eq hr) (de_ix (de_var 7) de_int) (de_ix (de_var 8) de_int)) (dw_or1 (dt_w (dw_and (dt_cmp (dc_ne hr) (de_var 4) (de_lst da_nil)) (dw_and1 (dt_cmp dc_lt (de_ix (de_var 4) de_int) (de_var 9)))))))) (dss_one (ds_set (i := 6) sc_law_are_joints_put_in.nd rfl (by first | exact Or.inl rfl | exact Or.inr rfl) (de_tup (da_cons de_str (da_cons (de_ix (de_var 7) de_int) da_nil))))) (dss_one (ds_if (dt_cmp (dc_ne hr) (de_var 4) (de_lst da_nil)) (dss_one (ds_set (i := 6) sc_law_are_joints_put_in.nd rfl (by first | exact Or.inl rfl | exact Or.inr rfl) (de_tup (da_cons de_str (da_cons (de_ix (de_ix (de_ix (de_ix (de_var 1) de_int) (de_ix (de_var 4) de_int)) de_int) de_int) da_nil))))) dss_nil)))
      (dss_one (ds_if (dt_not (dt_val (de_callG c_law_is hr ng (by decide) (by rfl) (da_cons (de_call c_law_put hr (by decide) (by rfl) (da_cons (de_var 1) (da_cons de_int (da_cons (de_var 9) (da_cons (de_tup (da_cons (de_var 7) (da_cons (de_var 8) da_nil))) da_nil))))) (da_cons (de_var 6) da_nil))))) (dss_one (ds_ret de_bl)) dss_nil))))))))
      (dss_one (ds_ret de_bl)))), fun ds m Q h => ?_⟩)
  · obtain ⟨d, p, rfl, _⟩ := h; rfl
  · obtain ⟨d, p, rfl, hd, hp, hc, hO, q⟩ := h
    have b1 := hp.n1; have b2 := hp.n2; have b3 := hp.n3; have b4 := hp.n4
    have oO : ∀ {x y : M}, Ext m x → Ext x y → Ok y := fun {x y} E1 E2 => hOk _ _ hO (E1.trans E2).gh
    have hel := stEnds_le hp
    have heo : ∀ e ∈ stEnds p.st, endOk e := fun e he => stEnds_ok hp he
    refine seqI ?_
    dsimp only [dSet]
    dsimp only [dOp, dC, dArgs, dCons, dNil, dCall, dTup, dB, dSlA, dNoPart, dPart]
    refine dVar_at rfl ⟨p, rfl, hp, fun u m1 hu0 E1 hu => ?_⟩
    by_cases hne : stEnds p.st ≠ [] ∧ p.jo.length < 16
    · refine seqI (dFor_RE (n := 12) (fun R hR => ?_) (by decide) (fun _ δ m' => ∃ d3 d4 d5 d6 d7 d8 d9 d10 d11 d12 d13, δ = [some d, some p.d, some (.ref u), d3, d4, d5, d6, d7, d8, d9, d10, d11, d12, d13] ∧ Ext m m' ∧ m'.mu u = some (.lst ((stEnds p.st).map endD))) (fun m2 E2 => ⟨_, _, _, _, _, _, _, _, _, _, _, rfl, E1.trans E2, E2.old _ _ hu⟩) ?_ ?_)
      · dsimp only [dIf, dAnd]
        dsimp only [dOp, dC, dArgs, dCons, dNil, dCall, dTup, dB, dSlA, dNoPart, dPart]
        refine dVar_at rfl ⟨slk (by simp), fun p1 hp1 => ne_nil ((Ext.new hp1).old _ _ hu) M.set_same (fine_ends heo) ⟨_, rfl, iff_T (fun hz => ?_) fun hz => (hne.1 (nil_of hz)).elim⟩⟩
        exact dVar_at rfl ⟨_, rfl, _, _, rfl, (List.length_map ..).symm, bI ⟨_, rfl, ifT (decide_eq_true (by omega)) (hR _ (Ext.new hp1))⟩⟩
      · rintro i δ m2 hi ⟨d3, d4, d5, d6, d7, d8, d9, d10, d11, d12, d13, rfl, E2, hu⟩
        dsimp only [gD]
        refine seqR1 (fun δ m2 => ∃ (a b : PL.End) (k : Nat) (d3 d4 d5 d6 d10 d11 d12 d13 : Option D), δ = [some d, some p.d, some (.ref u), d3, d4, d5, d6, some (endD a), some (endD b), some (.int (k : Int)), d10, d11, d12, d13] ∧ Ext m m2 ∧ m2.mu u = some (.lst ((stEnds p.st).map endD)) ∧ a ∈ stEnds p.st ∧ b ∈ stEnds p.st) ?_ (fun R hR => seqI ?_)
        · rintro δ m3 ⟨a, b, k, d3, d4, d5, d6, d10, d11, d12, d13, rfl, E3, hu, ha, hb⟩
          have oa := heo a ha
          have ob := heo b hb
          refine seqR1 (fun δ m2 => ∃ (s : Addr) (d3 d5 d6 d10 d11 d12 d13 : Option D), δ = [some d, some p.d, some (.ref u), d3, some (.ref s), d5, d6, some (endD a), some (endD b), some (.int (k : Int)), d10, d11, d12, d13] ∧ Ext m m2 ∧ m2.mu u = some (.lst ((stEnds p.st).map endD)) ∧ m2.mu s = some (.lst ((ixs (shB a b) 0 p.jo).map fun j : Nat => D.int (j : Int)))) ?_ (fun R hR => seqI ?_)
          · rintro δ m4 ⟨s, d3, d5, d6, d10, d11, d12, d13, rfl, E4, hu, hs⟩
            refine seqR1 (fun δ m2 => ∃ (g : Addr) (d3 d6 d10 d11 d12 d13 : Option D), δ = [some d, some p.d, some (.ref u), d3, some (.ref s), some (.ref g), d6, some (endD a), some (endD b), some (.int (k : Int)), d10, d11, d12, d13] ∧ Ext m m2 ∧ m2.mu u = some (.lst ((stEnds p.st).map endD)) ∧ m2.mu s = some (.lst ((ixs (shB a b) 0 p.jo).map fun j : Nat => D.int (j : Int))) ∧ m2.mu g = some (.lst (((p.ga.filter fun g => decide (g.2 = a ∨ g.2 = b)).map (·.1)).map D.str))) ?_ (fun R hR => seqI ?_)
            · rintro δ m5 ⟨g, d3, d6, d10, d11, d12, d13, rfl, E5, hu, hs, hg⟩
              have hgn : ∀ x ∈ (p.ga.filter fun g => decide (g.2 = a ∨ g.2 = b)).map (·.1), nameS x = true := fun x hx => by
                obtain ⟨s, hs, rfl⟩ := List.mem_map.mp hx
                exact (hp.ga s (List.mem_filter.mp hs).1).1
              refine seqI ?_
              dsimp only [dSet]
              refine firstI rfl hg hgn fun m6 E6 => ?_
              have hu := E6.old _ _ hu
              have hs := E6.old _ _ hs
              have E6 := E5.trans E6
              clear hg E5
              refine seqR1 (fun δ m2 => ∃ (due : Option (Str × Str)) (d3 d5 d10 d11 d12 d13 : Option D), δ = [some d, some p.d, some (.ref u), d3, some (.ref s), d5, some (optF due), some (endD a), some (endD b), some (.int (k : Int)), d10, d11, d12, d13] ∧ Ext m m2 ∧ m2.mu u = some (.lst ((stEnds p.st).map endD)) ∧ okF due ∧ joinFault p k a b = due) ?_ (fun R hR => seqI ?_)
              · rintro δ m7 ⟨due, d3, d5, d10, d11, d12, d13, rfl, E7, hu, hok, hdue⟩
                have nd := hc.stnd
                refine isOk (p := ⟨p.st, insA p.jo k (a, b), p.ga, p.si⟩) (due := due) (fun R hR => by dsimp only [dOp, dC, dArgs, dCons, dNil, dCall, dTup, dB, dSlA, dNoPart, dPart]; exact dVar_at rfl (dVar_at rfl (dVar_at rfl (dVar_at rfl ⟨slk (by simp), put1 hp (x := (a, b)) hR⟩)))) (fun R hR => dVar_at rfl (hR _ (Ext.refl _))) (hp.put1 ⟨oa, ob⟩ hne.2) (fun m1 E => oO E7 E) hok (by rw [hc.injo k (stEnds_ex nd ha) (stEnds_ex nd hb), hdue]) fun m8 E8 => ?_
                exact ⟨_, _, _, _, _, _, _, _, _, _, _, rfl, E7.trans E8, E8.old _ _ hu⟩
              · have jk := okW_words.2.2.1
                have fin := fine_nats (ixs (shB a b) 0 p.jo)
                dsimp only [dIfS, dOr, dAnd, dSet, dNext]
                dsimp only [dOp, dC, dArgs, dCons, dNil, dCall, dTup, dB, dSlA, dNoPart, dPart]
                refine dVar_at rfl (endD_ix0 (dVar_at rfl (endD_ix0 (eqT ⟨_, rfl, iff_T (fun h0 => ?_) fun h0 => ?_⟩))))
                · have h0 : a.1 = b.1 := by simpa using h0
                  refine ifT rfl (dVar_at rfl (endD_ix0 ⟨slk (by simp), hR _ _ ⟨some (("joint" : Str), a.1), _, _, _, _, _, _, rfl, E6, hu, okF_some jk oa.1, joinF1 h0⟩⟩))
                · have h0 : a.1 ≠ b.1 := by simpa using h0
                  refine dVar_at rfl ⟨slk (by simp), fun p1 hp1 => ne_nil ((Ext.new hp1).old _ _ hs) M.set_same fin ⟨_, rfl, ?_⟩⟩
                  have E7 := E6.trans (Ext.new (o := .lst []) hp1)
                  have hu := (Ext.new (o := .lst []) hp1).old _ _ hu
                  have hs := (Ext.new (o := .lst []) hp1).old _ _ hs
                  generalize m6.set p1 (.lst []) = m7 at E7 hu hs ⊢
                  cases hsh : ixs (shB a b) 0 p.jo with
                  | nil =>
                    rw [hsh] at hs
                    refine ifF rfl (ifF rfl (dVar_at rfl ⟨slk (by simp), fun p2 hp2 => ne_nil ((Ext.new hp2).old _ _ hs) M.set_same (by simp) ⟨_, rfl, ?_⟩⟩))
                    exact ifF rfl (hR _ _ ⟨_, _, _, _, _, _, _, rfl, E7.trans (Ext.new hp2), (Ext.new hp2).old _ _ hu, okF_tag okW_words.2.2.2.1 hgn, joinF4 h0 hsh⟩)
                  | cons i r =>
                    refine ifT rfl (dVar_at rfl (ix_nat hs hsh (dVar_at rfl (bI ⟨_, rfl, iff_T (fun hlt => ?_) fun hlt => ?_⟩))))
                    · have hlt : i < k := by simpa using hlt
                      exact dVar_at rfl (endD_ix0 ⟨slk (by simp), hR _ _ ⟨some (("joint" : Str), a.1), _, _, _, _, _, _, rfl, E7, hu, okF_some jk oa.1, joinF2 hsh hlt⟩⟩)
                    · have hlt : ¬ i < k := by simpa using hlt
                      obtain ⟨j, hj, hf⟩ := joinF3 h0 hsh hlt
                      have oj := hp.jo j (List.mem_of_getElem? hj)
                      refine dVar_at rfl ⟨slk (by simp), fun p2 hp2 => ne_nil ((Ext.new hp2).old _ _ hs) M.set_same fin ⟨_, rfl, ?_⟩⟩
                      rw [hsh]
                      refine ifT rfl (dVar_at rfl ⟨_, rfl, dVar_at rfl (ix_nat ((Ext.new hp2).old _ _ hs) hsh (ix_map (f := joD) hj ⟨_, rfl, endD_ix0 ⟨slk (by simp), hR _ _ ⟨some (("joint" : Str), j.1.1), _, _, _, _, _, _, rfl, E7.trans (Ext.new hp2), (Ext.new hp2).old _ _ hu, okF_some jk oj.1.1, hf⟩⟩⟩))⟩)
            · dsimp only [dSet]
              refine lcT (l := p.ga) (f := gaD) (h := fun g => .str g.1) (fun g => decide (g.2 = a ∨ g.2 = b)) (fun x y e => gaD_inj e) (fun R hR => by dsimp only [dOp, dC, dArgs, dCons, dNil, dCall, dTup, dB, dSlA, dNoPart, dPart]; exact dVar_at rfl ⟨_, rfl, hR⟩) (by omega) (fun g hg m' E' Ry Rn hr => ?_) (fun g m5 hg E5 hm5 => ?_)
              · refine ⟨[.str g.1, endD g.2], .inl rfl, rfl, ?_⟩
                dsimp only [dOp, dC, dArgs, dCons, dNil, dCall, dTup, dB, dSlA, dNoPart, dPart]
                refine dVar_at rfl (dVar_at rfl (dVar_at rfl ⟨slk (by simp), inPair (hp.ga g hg).2 oa ob ⟨_, rfl, ?_⟩⟩))
                have := hr m' (Ext.refl _)
                refine iff_T (fun z => ?_) fun z => ?_
                · rw [if_pos z] at this; exact dVar_at rfl this
                · rw [if_neg (by rw [z]; decide)] at this; exact this
              · have e3 : ((p.ga.filter fun g => decide (g.2 = a ∨ g.2 = b)).map fun g => D.str g.1) = ((p.ga.filter fun g => decide (g.2 = a ∨ g.2 = b)).map (·.1)).map D.str := by rw [List.map_map]; rfl
                rw [e3] at hm5
                exact hR _ _ ⟨g, _, _, _, _, _, _, rfl, E4.trans E5, E5.old _ _ hu, E5.old _ _ hs, hm5⟩
          · dsimp only [dSet]
            refine lcE (l := p.jo) (f := joD) (shB a b) (fun x y e => joD_inj e) (fun R hR => by dsimp only [dOp, dC, dArgs, dCons, dNil, dCall, dTup, dB, dSlA, dNoPart, dPart]; exact dVar_at rfl ⟨_, rfl, hR⟩) (by omega) (fun x hx j m' E' Ry Rn hr => ?_) (fun s m4 hs E4 hm4 => ?_)
            · refine ⟨[.int (j : Int), joD x], .inl rfl, rfl, ?_⟩
              dsimp only [dOr]
              dsimp only [dOp, dC, dArgs, dCons, dNil, dCall, dTup, dB, dSlA, dNoPart, dPart]
              have ox := hp.jo x hx
              have := hr m' (Ext.refl _)
              unfold shB at this
              refine dVar_at rfl (dVar_at rfl (inPair oa ox.1 ox.2 ⟨_, rfl, iff_T (fun z => ?_) fun z => ?_⟩))
              · rw [z, Bool.true_or, if_pos rfl] at this
                exact ifT rfl (dVar_at rfl this)
              · rw [z, Bool.false_or] at this
                refine dVar_at rfl (dVar_at rfl (inPair ob ox.1 ox.2 ⟨_, rfl, iff_T (fun z => ?_) fun z => ?_⟩))
                · rw [if_pos z] at this; exact dVar_at rfl this
                · rw [if_neg (by rw [z]; decide)] at this; exact this
            · exact hR _ _ ⟨s, _, _, _, _, _, _, _, rfl, E3.trans E4, E4.old _ _ hu, hm4⟩
        · dsimp only [dAsg]
          dsimp only [dOp, dC, dArgs, dCons, dNil, dCall, dTup, dB, dSlA, dNoPart, dPart]
          refine dVar_at rfl (dVar_at rfl (pk (f := endD) (hd.ext E2.gh) hu hne.1 (by omega) fun a ha => ?_))
          refine dVar_at rfl (dVar_at rfl (pk (f := endD) (hd.ext E2.gh) hu hne.1 (by omega) fun b hb => ?_))
          refine dVar_at rfl (dVar_at rfl ⟨_, rfl, _, _, rfl, (List.length_map ..).symm, aI (drw (hd.ext E2.gh) (by omega) (by omega) fun r r0 r1 => ?_)⟩)
          obtain ⟨k, rfl⟩ : ∃ k : Nat, r = (k : Int) := ⟨r.toNat, by omega⟩
          exact ⟨slk (by simp), [endD a, endD b, .int (k : Int)], .inl rfl, rfl, hR _ _ ⟨a, b, k, _, _, _, _, _, _, _, _, rfl, E2, hu, ha, hb⟩⟩
      · rintro δ m2 ⟨d3, d4, d5, d6, d7, d8, d9, d10, d11, d12, d13, rfl, E2, hu⟩
        exact q m2 E2
    · refine seqI (dFor_RE (n := 0) (fun R hR => ?_) (by decide) (fun _ δ m' => Ext m m') (fun m2 E2 => E1.trans E2) (fun i δ m' hi => absurd hi (by omega)) fun δ m' E => q m' E)
      dsimp only [dIf, dAnd]
      dsimp only [dOp, dC, dArgs, dCons, dNil, dCall, dTup, dB, dSlA, dNoPart, dPart]
      refine dVar_at rfl ⟨slk (by simp), fun p1 hp1 => ne_nil ((Ext.new hp1).old _ _ hu) M.set_same (fine_ends heo) ⟨_, rfl, iff_T (fun hz => ?_) fun hz => ifF rfl (hR _ (Ext.new hp1))⟩⟩
      exact dVar_at rfl ⟨_, rfl, _, _, rfl, (List.length_map ..).symm, bI ⟨_, rfl, ifF (decide_eq_false fun hl => hne ⟨ne_of' hz, by omega⟩) (hR _ (Ext.new hp1))⟩⟩

end
end PR

namespace PR
open PySem PySem.Spec PyProof.Rows L2 GA GxR DL PL TM

section
variable {P : Program} {w : World} {K : PySem.W.Frag} {mg : Str → Option Value} {base : Heap} {tl td t8 t3 : Tok} {aK aO aE aP P1 P2 : Addr} (T : Txt K mg w tl td t8 t3 aK aO aE aP) (Ok : M → Prop) (hOk : ∀ a b : M, Ok a → b.gh = a.gh → Ok b)
include T hOk

theorem c_law_is_signal_put_in {f : Addr} {fd : FuncData} (F : Fun K "_law_is_signal_put_in" "_law_is_signal_put_in" s_law_is_signal_put_in f fd) (hm : mg "_law_is_signal_put_in" = some (.ref f)) (c_law_is : DCalG P w K mg base 15 "_law_is" (spIs Ok)) (c_law_put : DCal P w K mg base 1 "_law_put" spPut) (c_law_draw : DCal P w K mg base 1 "_law_draw" spDrawG) (c_law_pick : DCal P w K mg base 2 "_law_pick" spPick) (c_law_ends : DCal P w K mg base 1 "_law_ends" spEnds) : DCalG P w K mg base 16 "_law_is_signal_put_in" (spSig Ok) := by
  refine dcalG F hm (F.binds (ps := ["deck", "plan", "name", "end", "is_plain", "to"]) fun _ _ _ _ _ _ us hl => match us, hl with | [_, _, _, _, _, _], _ => rfl) sc_law_is_signal_put_in (fun ds m Q h => ?_) (fun cdv A outer s H E hr ng => ⟨_, (dss_cons (ds_par rfl sc_law_is_signal_put_in.nd (i := 11) (j := 12) rfl rfl (by decide) rfl rfl (da_cons (de_call c_law_draw hr (by decide) (by rfl) (da_cons (de_var 0) (da_cons (de_add (de_len (by rfl) T.len (da_cons (de_ix (de_var 1) de_int) da_nil)) de_int) da_nil))) (da_cons (de_lc (own := [("at", 15), ("it", 16)]) rfl sc_law_is_signal_put_in.nd (dpi_enum (by rfl) T.enumerate (de_ix (de_var 1) de_int)) (blkOk_by (N := ["deck", "plan", "name", "end", "is_plain", "to", "due", "begin", "step", "kinds", "ways", "place", "near", "other", "kind", "at", "it"]) (sc := defScope s_law_is_signal_put_in) (by decide +kernel)) (fun _ _ _ _ _ => (dg_tup rfl (dgs_cons (pg_name (i := 15) sc_law_is_signal_put_in.nd rfl (by first | exact Or.inl rfl | exact Or.inr rfl)) (dgs_cons (pg_name (i := 16) sc_law_is_signal_put_in.nd rfl (by first | exact Or.inl rfl | exact Or.inr rfl)) dgs_nil)))) (fun _ _ _ _ _ => (dpts_one (dt_cmp (dc_eq hr) (de_ix (de_var 16) de_int) (de_var 3)))) (fun _ _ _ _ _ => (de_var 15))) da_nil)) (by rfl))
      (dss_cons (ds_set (i := 6) sc_law_is_signal_put_in.nd rfl (by first | exact Or.inl rfl | exact Or.inr rfl) de_non)
      (dss_cons (ds_if (dt_w (dw_or (dt_not (dt_val (de_var 4))) (dw_or (dt_cmp dc_isN (de_var 5) de_non) (dw_or1 (dt_w (dw_and (dt_cmp (dc_ne hr) (de_var 12) (de_lst da_nil)) (dw_and1 (dt_cmp dc_lt (de_ix (de_var 12) de_int) (de_var 11))))))))) (dss_one (ds_set (i := 6) sc_law_is_signal_put_in.nd rfl (by first | exact Or.inl rfl | exact Or.inr rfl) (de_tup (da_cons de_str (da_cons (de_var 2) da_nil))))) (dss_one (ds_if (dt_cmp (dc_ne hr) (de_var 12) (de_lst da_nil)) (dss_one (ds_set (i := 6) sc_law_is_signal_put_in.nd rfl (by first | exact Or.inl rfl | exact Or.inr rfl) (de_tup (da_cons de_str (da_cons (de_ix (de_ix (de_ix (de_var 1) de_int) (de_ix (de_var 12) de_int)) de_int) da_nil))))) dss_nil)))
      (dss_cons (ds_if (dt_not (dt_val (de_callG c_law_is hr ng (by decide) (by rfl) (da_cons (de_call c_law_put hr (by decide) (by rfl) (da_cons (de_var 1) (da_cons de_int (da_cons (de_var 11) (da_cons (de_tup (da_cons (de_var 2) (da_cons (de_var 3) (da_cons (de_tup da_nil) da_nil)))) da_nil))))) (da_cons (de_var 6) da_nil))))) (dss_one (ds_ret de_bl)) dss_nil)
      (dss_cons (ds_set (i := 7) sc_law_is_signal_put_in.nd rfl (by first | exact Or.inl rfl | exact Or.inr rfl) (de_ifE (dt_w (dw_and (dt_cmp dc_notN (de_var 5) de_non) (dw_and1 (dt_cmp dc_gt (de_call c_law_draw hr (by decide) (by rfl) (da_cons (de_var 0) (da_cons de_int da_nil))) de_int)))) (de_var 5) (de_call c_law_pick hr (by decide) (by rfl) (da_cons (de_var 0) (da_cons (de_call c_law_ends hr (by decide) (by rfl) (da_cons (de_var 1) da_nil)) da_nil)))))
      (dss_cons (ds_set (i := 8) sc_law_is_signal_put_in.nd rfl (by first | exact Or.inl rfl | exact Or.inr rfl) (de_addA (de_var 7) (de_tup (da_cons (de_call c_law_draw hr (by decide) (by rfl) (da_cons (de_var 0) (da_cons de_int da_nil))) da_nil))))
      (dss_cons (ds_setLc (i := 9) (own := [("other", 13), ("kind", 14)]) rfl sc_law_is_signal_put_in.nd rfl rfl (sw_true rfl rfl rfl (by decide +kernel)) (dpi_tup (de_ix (de_var 1) de_int)) (blkOk_by (N := ["deck", "plan", "name", "end", "is_plain", "to", "due", "begin", "step", "kinds", "ways", "place", "near", "other", "kind", "at", "it"]) (sc := defScope s_law_is_signal_put_in) (by decide +kernel)) (fun _ _ _ _ _ => (dg_tup rfl (dgs_cons (pg_name (i := 13) sc_law_is_signal_put_in.nd rfl (by first | exact Or.inl rfl | exact Or.inr rfl)) (dgs_cons (pg_name (i := 14) sc_law_is_signal_put_in.nd rfl (by first | exact Or.inl rfl | exact Or.inr rfl)) dgs_nil)))) (fun _ _ _ _ _ => (dpts_one (dt_cmp (dc_eq hr) (de_var 13) (de_ix (de_var 8) de_int)))) (fun _ _ _ _ _ => (de_var 14)))
      (dss_cons (ds_set (i := 10) sc_law_is_signal_put_in.nd rfl (by first | exact Or.inl rfl | exact Or.inr rfl) (de_dget hr (de_disp (.cons (de_lst (da_cons (de_tup (da_cons de_int (da_cons de_int da_nil))) (da_cons (de_tup (da_cons de_int (da_cons de_int da_nil))) da_nil))) (.cons (de_lst da_nil) (.cons (de_lst (da_cons (de_tup (da_cons de_int (da_cons de_int da_nil))) (da_cons (de_tup (da_cons de_int (da_cons de_int da_nil))) (da_cons (de_tup (da_cons de_int (da_cons de_int da_nil))) (da_cons (de_tup (da_cons de_int (da_cons de_int da_nil))) da_nil))))) .nil)))) (de_ix (de_var 9) de_int)))
      (dss_cons (ds_if (dt_w (dw_and (dt_cmp dc_isN (de_var 6) de_non) (dw_and1 (dt_w (dw_or (dt_cmp (dc_ne hr) (de_var 7) (de_var 5)) (dw_or1 (dt_cmp (dc_notInD hr) (de_sliceA (de_var 8) (dpo_some de_int) dpo_none) (de_var 10)))))))) (dss_one (ds_set (i := 6) sc_law_is_signal_put_in.nd rfl (by first | exact Or.inl rfl | exact Or.inr rfl) (de_tup (da_cons de_str (da_cons (de_var 2) da_nil))))) dss_nil)
      (dss_one (ds_ret (de_callG c_law_is hr ng (by decide) (by rfl) (da_cons (de_call c_law_put hr (by decide) (by rfl) (da_cons (de_var 1) (da_cons de_int (da_cons (de_var 11) (da_cons (de_tup (da_cons (de_var 2) (da_cons (de_var 3) (da_cons (de_tup (da_cons (de_var 8) da_nil)) da_nil)))) da_nil))))) (da_cons (de_var 6) da_nil)))))))))))))), fun ds m Q h => ?_⟩)
  · obtain ⟨d, p, n, e, rfl, _⟩ := h; rfl
  · obtain ⟨d, p, n, e, rfl, hd, hp, hc, hO, hn, hnn, hsi, he, q⟩ := h
    have b1 := hp.n1; have b2 := hp.n2; have b3 := hp.n3; have b4 := hp.n4
    have oO : ∀ {x y : M}, Ext m x → Ext x y → Ok y := fun {x y} E1 E2 => hOk _ _ hO (E1.trans E2).gh
    have hel := stEnds_le hp
    have nd := hc.stnd
    have oe := stEnds_ok hp he
    have exe := stEnds_ex nd he
    have sk := okW_words.2.2.2.2.1
    have fin := fine_nats (nearS p e)
    have opt : ∀ f, partAt p.jo e = some f → endOk f := fun f hf => partAt_ok hp hf
    refine seqR1 (fun δ m2 => ∃ (k : Nat) (s : Addr) (d6 d7 d8 d9 d10 d13 d14 d15 d16 : Option D), δ = [some d, some p.d, some (.str n), some (endD e), some (.bl (plainAt p.st e)), some (optE (partAt p.jo e)), d6, d7, d8, d9, d10, some (.int (k : Int)), some (.ref s), d13, d14, d15, d16] ∧ Ext m m2 ∧ m2.mu s = some (.lst ((nearS p e).map fun j : Nat => D.int (j : Int)))) ?_ (fun R hR => seqI ?_)
    · rintro δ m1 ⟨k, s, d6, d7, d8, d9, d10, d13, d14, d15, d16, rfl, E1, hs⟩
      refine seqI ?_
      dsimp only [dSet]
      dsimp only [dOp, dC, dArgs, dCons, dNil, dCall, dTup, dB, dSlA, dNoPart, dPart]
      refine seqR1 (fun δ m2 => ∃ (due : Option (Str × Str)) (d7 d8 d9 d10 d12 d13 d14 d15 d16 : Option D), δ = [some d, some p.d, some (.str n), some (endD e), some (.bl (plainAt p.st e)), some (optE (partAt p.jo e)), some (optF due), d7, d8, d9, d10, some (.int (k : Int)), d12, d13, d14, d15, d16] ∧ Ext m m2 ∧ okF due ∧
        ((due = none ∧ ∀ o, signalFault p k n e o = if badOv p (n, e, o) = true then some (("overlap" : Str), n) else none) ∨ (due.isNone = false ∧ ∀ o, signalFault p k n e o = due))) ?_ (fun R hR => seqI ?_)
      · rintro δ m2 ⟨due, d7, d8, d9, d10, d12, d13, d14, d15, d16, rfl, E2, hok, hdue⟩
        have s0 : signalFault p k n e none = due := by
          rcases hdue with ⟨rfl, h⟩ | ⟨_, h⟩
          · rw [h none]; rfl
          · exact h none
        refine seqI (isOk (p := ⟨p.st, p.jo, p.ga, insA p.si k (n, e, none)⟩) (due := due) (fun R hR => by dsimp only [dOp, dC, dArgs, dCons, dNil, dCall, dTup, dB, dSlA, dNoPart, dPart]; exact dVar_at rfl (dVar_at rfl (dVar_at rfl (dVar_at rfl ⟨slk (by simp), slk (by simp), put3 hp (x := (n, e, none)) hR⟩)))) (fun R hR => dVar_at rfl (hR _ (Ext.refl _))) (hp.put3 ⟨hn, oe, fun t h => by cases h⟩ (by omega)) (fun m1 E => oO E2 E) hok (by rw [hc.insi k none hnn exe, s0]) fun m3 E3 => ?_)
        have E3 := E2.trans E3
        dsimp only
        refine seqR1 (fun δ m2 => ∃ (b : PL.End) (kd : Str) (d8 d9 d10 d12 d13 d14 d15 d16 : Option D), δ = [some d, some p.d, some (.str n), some (endD e), some (.bl (plainAt p.st e)), some (optE (partAt p.jo e)), some (optF due), some (endD b), d8, d9, d10, some (.int (k : Int)), d12, d13, d14, d15, d16] ∧ Ext m m2 ∧ endOk b ∧ kindAt p.st b.1 = some kd ∧ kindS kd = true) ?_ (fun R hR => seqI ?_)
        · rintro δ m4 ⟨b, kd, d8, d9, d10, d12, d13, d14, d15, d16, rfl, E4, ob, hkd, hks⟩
          refine seqI ?_
          dsimp only [dSet]
          dsimp only [dOp, dC, dArgs, dCons, dNil, dCall, dTup, dB, dSlA, dNoPart, dPart]
          refine dVar_at rfl (dVar_at rfl (drw (hd.ext E4.gh) (by decide) (by decide) fun r r0 r1 => ⟨slk (by simp), slk (by simp), ?_⟩))
          have ot : stepOk (b.1, b.2, r) := ⟨ob.1, ob.2, r0, by show r ≤ 3; omega⟩
          dsimp only
          refine seqI ?_
          dsimp only [dSet]
          refine lcT (l := p.st) (f := strD) (h := fun s => .str s.2) (fun s => decide (s.1 = b.1)) (fun x y e => strD_inj e) (fun R hR => by dsimp only [dOp, dC, dArgs, dCons, dNil, dCall, dTup, dB, dSlA, dNoPart, dPart]; exact dVar_at rfl ⟨_, rfl, hR⟩) (by omega) (fun x hx m' E' Ry Rn hr => ?_) (fun a m5 ha E5 hm5 => ?_)
          · refine ⟨[.str x.1, .str x.2], .inl rfl, rfl, ?_⟩
            dsimp only [dOp, dC, dArgs, dCons, dNil, dCall, dTup, dB, dSlA, dNoPart, dPart]
            refine dVar_at rfl (dVar_at rfl ⟨_, rfl, eqT ⟨_, rfl, ?_⟩⟩)
            have := hr m' (Ext.refl _)
            refine iff_T (fun z => ?_) fun z => ?_
            · rw [if_pos z] at this; exact dVar_at rfl this
            · rw [if_neg (by rw [z]; decide)] at this; exact this
          · have hin := kindAt_ok hkd
            have hkl : ∃ y r, p.st.filter (fun s => decide (s.1 = b.1)) = y :: r ∧ y.2 = kd := by
              cases ef : p.st.filter (fun s => decide (s.1 = b.1)) with
              | nil =>
                have := List.filter_eq_nil_iff.mp ef _ hin
                simp at this
              | cons y r =>
                refine ⟨y, r, rfl, ?_⟩
                have hy : y ∈ p.st.filter (fun s => decide (s.1 = b.1)) := by rw [ef]; exact List.mem_cons_self
                obtain ⟨h1, h2⟩ := List.mem_filter.mp hy
                have h2 : y.1 = b.1 := by simpa using h2
                have := (kind_iff nd).mpr (show (b.1, y.2) ∈ p.st by rw [← h2]; exact h1)
                rw [this] at hkd; cases hkd; rfl
            obtain ⟨y, ry, hy, rfl⟩ := hkl
            rw [hy] at hm5
            refine seqI ?_
            dsimp only [dSet, dDGet]
            refine dDisp_ways fun dp wa wb wc m6 E6 h6 ha6 hb6 hc6 => ?_
            obtain ⟨w, hg, hw⟩ := ways_get hks h6 ha6 hb6 hc6
            dsimp only [dOp, dC, dArgs, dCons, dNil, dCall, dTup, dB, dSlA, dNoPart, dPart]
            refine dVar_at rfl ⟨_, .str y.2, E6.old _ _ hm5, by unfold atI ixN; rw [if_pos (by decide), if_pos (by simp only [List.map_cons, List.length_cons]; omega)]; rfl, dp, _, rfl, hg, ?_⟩
            have E7 := (E4.trans E5).trans E6
            refine seqR1 (fun δ m2 => ∃ (du : Option (Str × Str)) (d9 d10 d12 d13 d14 d15 d16 : Option D), δ = [some d, some p.d, some (.str n), some (endD e), some (.bl (plainAt p.st e)), some (optE (partAt p.jo e)), some (optF du), some (endD b), some (stepD (b.1, b.2, r)), d9, d10, some (.int (k : Int)), d12, d13, d14, d15, d16] ∧ Ext m m2 ∧ okF du ∧ signalFault p k n e (some (b.1, b.2, r)) = du) ?_ (fun R hR => seqI ?_)
            · rintro δ m8 ⟨du, d9, d10, d12, d13, d14, d15, d16, rfl, E8, hok2, hdu⟩
              exact isRet (p := ⟨p.st, p.jo, p.ga, insA p.si k (n, e, some (b.1, b.2, r))⟩) (due := du) (fun R hR => by dsimp only [dOp, dC, dArgs, dCons, dNil, dCall, dTup, dB, dSlA, dNoPart, dPart]; exact dVar_at rfl (dVar_at rfl (dVar_at rfl (dVar_at rfl (dVar_at rfl ⟨slk (by simp), slk (by simp), put3 hp (x := (n, e, some (b.1, b.2, r))) hR⟩))))) (fun R hR => dVar_at rfl (hR _ (Ext.refl _))) (hp.put3 ⟨hn, oe, fun t h => by cases h; exact ot⟩ (by omega)) (fun m1 E => oO E8 E) hok2 (by rw [hc.insi k (some (b.1, b.2, r)) hnn exe, hdu]) fun m9 E9 => q m9 (E8.trans E9)
            · dsimp only [dIfS, dAnd, dOr, dSet, dNext]
              dsimp only [dOp, dC, dArgs, dCons, dNil, dCall, dTup, dB, dSlA, dNoPart, dPart]
              rcases hdue with ⟨rfl, hsf⟩ | ⟨hdn, hsf⟩
              · have hb := badOv_iff (p := p) (n := n) (e := e) (b := b) (r := r) hkd hks
                refine dVar_at rfl (isN_F ⟨_, rfl, ifT rfl (dVar_at rfl (dVar_at rfl (neE ob opt ⟨_, rfl, iff_T (fun hz => ?_) fun hz => ?_⟩)))⟩)
                · have : badOv p (n, e, some (b.1, b.2, r)) = true := by rw [hb, hz]; rfl
                  refine ifT rfl (dVar_at rfl ⟨slk (by simp), hR _ _ ⟨some (("overlap" : Str), n), _, _, _, _, _, _, _, rfl, E7, okF_some okW_words.2.2.2.2.2 hn, by rw [hsf, if_pos this]⟩⟩)
                · refine dVar_at rfl ⟨1, rfl, slT_drop (k := 1) (dVar_at rfl (inW2 hw ⟨_, rfl, iff_T (fun hy => ?_) fun hy => ?_⟩))⟩
                  · have : badOv p (n, e, some (b.1, b.2, r)) = true := by rw [hb, hz, hy]; rfl
                    refine dVar_at rfl ⟨slk (by simp), hR _ _ ⟨some ("overlap", n), _, _, _, _, _, _, _, rfl, E7, okF_some okW_words.2.2.2.2.2 hn, by rw [hsf, if_pos this]⟩⟩
                  · have : ¬ badOv p (n, e, some (b.1, b.2, r)) = true := by rw [hb, hz, hy]; decide
                    refine hR _ _ ⟨none, _, _, _, _, _, _, _, rfl, E7, okF_none, by rw [hsf, if_neg this]⟩
              · refine dVar_at rfl (isN_F ⟨_, rfl, ?_⟩)
                rw [hdn]
                refine ifF rfl (ifF rfl (hR _ _ ⟨due, _, _, _, _, _, _, _, rfl, E7, hok, hsf _⟩))
        · dsimp only [dSet, dIf, dAnd]
          dsimp only [dOp, dC, dArgs, dCons, dNil, dCall, dTup, dB, dSlA, dNoPart, dPart]
          have pick : ∀ (mm : M) (RR : DK), Ext m3 mm → (∀ (b : PL.End) m', Ext m3 m' → endOk b → (∃ kd, kindAt p.st b.1 = some kd ∧ kindS kd = true) → RR (endD b) m') → spEnds [p.d] mm fun x m' => spPick [d, x] m' RR := fun mm RR Em h => ⟨p, rfl, hp, fun a m' ha E' hl =>
            pk (f := endD) (hd.ext ((E3.trans Em).trans E').gh) hl (fun z => by rw [z] at he; cases he) (by omega) fun b hb => h b m' (Em.trans E') (stEnds_ok hp hb) (by
              obtain ⟨s, hs, h1, _⟩ := mem_stEnds.mp hb
              exact ⟨s.2, (kind_iff nd).mpr (by rw [h1]; exact hs), (hp.st s hs).2⟩)⟩
          refine dVar_at rfl (notN_E ⟨_, rfl, iff_T (fun hz => ?_) fun hz => ?_⟩)
          · obtain ⟨f, hf⟩ : ∃ f, partAt p.jo e = some f := by
              cases hpa : partAt p.jo e with
              | none => rw [hpa] at hz; cases hz
              | some f => exact ⟨f, rfl⟩
            refine dVar_at rfl (drw (hd.ext E3.gh) (by decide) (by decide) fun r r0 r1 => bI ⟨_, rfl, iff_T (fun hy => ?_) fun hy => ?_⟩)
            · refine dVar_at rfl ?_
              have ef : optE (partAt p.jo e) = endD f := by rw [hf]; rfl
              obtain ⟨j, hj, w⟩ := partAt_in hf
              have exf : endEx p.st f = true := by
                rcases w with ⟨_, rfl⟩ | ⟨_, rfl⟩
                · exact (hc.jex j hj).1
                · exact (hc.jex j hj).2
              obtain ⟨kd, hk⟩ := endEx_kind exf
              exact hR _ m3 ⟨f, kd, d8, d9, d10, d12, d13, d14, d15, d16, by rw [hf]; rfl, E3, opt f hf, hk, (hp.st _ (kindAt_ok hk)).2⟩
            · exact dVar_at rfl (dVar_at rfl (pick m3 _ (Ext.refl _) (fun b m' E' ob ⟨kd, hk1, hk2⟩ => hR _ m' ⟨b, kd, _, _, _, _, _, _, _, _, rfl, E3.trans E', ob, hk1, hk2⟩)))
          · exact ifF rfl (dVar_at rfl (dVar_at rfl (pick m3 _ (Ext.refl _) (fun b m' E' ob ⟨kd, hk1, hk2⟩ => hR _ m' ⟨b, kd, _, _, _, _, _, _, _, _, rfl, E3.trans E', ob, hk1, hk2⟩))))
      · dsimp only [dIfS, dOr, dAnd, dNot, dSet, dNext]
        dsimp only [dOp, dC, dArgs, dCons, dNil, dCall, dTup, dB, dSlA, dNoPart, dPart]
        by_cases hpl2 : plainAt p.st e = false
        · refine dVar_at rfl ⟨plainAt p.st e, rfl, ifT (by rw [hpl2]; rfl) (ifT rfl (dVar_at rfl ⟨slk (by simp), ?_⟩))⟩
          exact hR _ _ ⟨some (("signal" : Str), n), _, _, _, _, _, _, _, _, _, rfl, E1, okF_some sk hn, .inr ⟨rfl, fun o => sigF1 (.inl hpl2)⟩⟩
        · have hpl2 : plainAt p.st e = true := by simpa using hpl2
          refine dVar_at rfl ⟨plainAt p.st e, rfl, ifF (by rw [hpl2]; rfl) ?_⟩
          by_cases hpa2 : partAt p.jo e = none
          · refine dVar_at rfl (isN_E ⟨_, rfl, ifT (by rw [hpa2]; rfl) (ifT rfl (dVar_at rfl ⟨slk (by simp), ?_⟩))⟩)
            exact hR _ _ ⟨some (("signal" : Str), n), _, _, _, _, _, _, _, _, _, rfl, E1, okF_some sk hn, .inr ⟨rfl, fun o => sigF1 (.inr hpa2)⟩⟩
          · obtain ⟨f, hpa2⟩ : ∃ f, partAt p.jo e = some f := Option.ne_none_iff_exists'.mp hpa2
            refine dVar_at rfl (isN_E ⟨_, rfl, ifF (by rw [hpa2]; rfl) ?_⟩)
            refine dVar_at rfl ⟨slk (by simp), fun p1 hp1 => ne_nil ((Ext.new hp1).old _ _ hs) M.set_same fin ⟨_, rfl, ?_⟩⟩
            have E2 := E1.trans (Ext.new (o := .lst []) hp1)
            have hs2 := (Ext.new (o := .lst []) hp1).old _ _ hs
            generalize m1.set p1 (.lst []) = m2 at E2 hs2 ⊢
            cases hsh : nearS p e with
            | nil =>
              rw [hsh] at hs2
              refine ifF rfl (ifF rfl (dVar_at rfl ⟨slk (by simp), fun p2 hp2 => ne_nil ((Ext.new hp2).old _ _ hs2) M.set_same (by simp) ⟨_, rfl, ?_⟩⟩))
              exact ifF rfl (hR _ _ ⟨none, _, _, _, _, _, _, _, _, _, rfl, E2.trans (Ext.new hp2), okF_none, .inl ⟨rfl, sigF4 hpl2 hpa2 hsh⟩⟩)
            | cons i r =>
              refine ifT rfl (dVar_at rfl (ix_nat hs2 hsh (dVar_at rfl (bI ⟨_, rfl, iff_T (fun hlt => ?_) fun hlt => ?_⟩))))
              · have hlt : i < k := by simpa using hlt
                exact dVar_at rfl ⟨slk (by simp), hR _ _ ⟨some (("signal" : Str), n), _, _, _, _, _, _, _, _, _, rfl, E2, okF_some sk hn, .inr ⟨rfl, fun o => sigF2 hsh hlt⟩⟩⟩
              · have hlt : ¬ i < k := by simpa using hlt
                obtain ⟨s2, hj, hf⟩ := sigF3 (n := n) hpl2 hpa2 hsh hlt
                have on := (hp.si s2 (List.mem_of_getElem? hj)).1
                refine dVar_at rfl ⟨slk (by simp), fun p2 hp2 => ne_nil ((Ext.new hp2).old _ _ hs2) M.set_same fin ⟨_, rfl, ?_⟩⟩
                rw [hsh]
                refine ifT rfl (dVar_at rfl ⟨_, rfl, dVar_at rfl (ix_nat ((Ext.new hp2).old _ _ hs2) hsh (ix_map (f := siD) hj ⟨_, rfl, slk (by simp), hR _ _ ⟨some (("signal" : Str), s2.1), _, _, _, _, _, _, _, _, _, rfl, E2.trans (Ext.new hp2), okF_some sk on, .inr ⟨rfl, hf⟩⟩⟩))⟩)
    · dsimp only [dPar]
      dsimp only [dOp, dC, dArgs, dCons, dNil, dCall, dTup, dB, dSlA, dNoPart, dPart]
      refine dVar_at rfl (dVar_at rfl ⟨_, rfl, _, _, rfl, (List.length_map ..).symm, aI (drw hd (by omega) (by omega) fun r r0 r1 => ?_)⟩)
      obtain ⟨k, rfl⟩ : ∃ k : Nat, r = (k : Int) := ⟨r.toNat, by omega⟩
      refine lcE (l := p.si) (f := siD) (fun s => decide (s.2.1 = e)) (fun x y e => siD_inj e) (fun R hR => by dsimp only [dOp, dC, dArgs, dCons, dNil, dCall, dTup, dB, dSlA, dNoPart, dPart]; exact dVar_at rfl ⟨_, rfl, hR⟩) (by omega) (fun x hx j m' E' Ry Rn hr => ?_) (fun s m4 hs E4 hm4 => ?_)
      · refine ⟨[.int (j : Int), siD x], .inl rfl, rfl, ?_⟩
        dsimp only [dOp, dC, dArgs, dCons, dNil, dCall, dTup, dB, dSlA, dNoPart, dPart]
        refine dVar_at rfl ⟨_, rfl, dVar_at rfl (eqE (a := x.2.1) (hp.si x hx).2.1 oe ⟨_, rfl, ?_⟩)⟩
        have := hr m' (Ext.refl _)
        refine iff_T (fun z => ?_) fun z => ?_
        · rw [if_pos z] at this; exact dVar_at rfl this
        · rw [if_neg (by rw [z]; decide)] at this; exact this
      · exact ⟨_, _, rfl, hR _ _ ⟨k, s, _, _, _, _, _, _, _, _, _, rfl, E4, hm4⟩⟩

end
end PR

namespace PR
open PySem PySem.Spec PyProof.Rows L2 GA GxR DL PL TM

section
variable {P : Program} {w : World} {K : PySem.W.Frag} {mg : Str → Option Value} {base : Heap} {tl td t8 t3 : Tok} {aK aO aE aP P1 P2 : Addr} (T : Txt K mg w tl td t8 t3 aK aO aE aP) (Ok : M → Prop) (hOk : ∀ a b : M, Ok a → b.gh = a.gh → Ok b)
include T hOk

theorem c_law_are_put_in {f : Addr} {fd : FuncData} (F : Fun K "_law_are_put_in" "_law_are_put_in" s_law_are_put_in f fd) (hm : mg "_law_are_put_in" = some (.ref f)) (c_law_is : DCalG P w K mg base 15 "_law_is" (spIs Ok)) (c_law_put : DCal P w K mg base 1 "_law_put" spPut) (c_law_draw : DCal P w K mg base 1 "_law_draw" spDrawG) (c_law_ends : DCal P w K mg base 1 "_law_ends" spEnds) (c_law_joined : DCal P w K mg base 1 "_law_joined" spParts) (c_law_is_signal_put_in : DCalG P w K mg base 16 "_law_is_signal_put_in" (spSig Ok)) : DCalG P w K mg base 17 "_law_are_put_in" (spPuts Ok) := by
  refine dcalG F hm (F.binds (ps := ["deck", "plan", "name"]) fun _ _ _ _ _ _ us hl => match us, hl with | [_, _, _], _ => rfl) sc_law_are_put_in (fun ds m Q h => ?_) (fun cdv A outer s H E hr ng => ⟨_, (dss_cons (ds_par rfl sc_law_are_put_in.nd (i := 4) (j := 5) rfl rfl (by decide) rfl rfl (da_cons (de_call c_law_joined hr (by decide) (by rfl) (da_cons (de_var 1) da_nil)) (da_cons de_newK da_nil)) (by rfl))
      (dss_cons (ds_for PassesOwn.never rfl (dpi_tup (de_ix (de_var 1) de_int)) (dg_tup rfl (dgs_cons (pg_name (i := 6) sc_law_are_put_in.nd rfl (by first | exact Or.inl rfl | exact Or.inr rfl)) (dgs_cons (pg_name (i := 7) sc_law_are_put_in.nd rfl (by first | exact Or.inl rfl | exact Or.inr rfl)) dgs_nil))) (dss_one (ds_dput hr (de_var 5) (de_var 6) (de_var 7))))
      (dss_cons (ds_for PassesOwn.never rfl (dpi_list (de_call c_law_ends hr (by decide) (by rfl) (da_cons (de_var 1) da_nil))) (dg_name (i := 3) sc_law_are_put_in.nd rfl (by first | exact Or.inl rfl | exact Or.inr rfl)) (dss_cons (ds_par rfl sc_law_are_put_in.nd (i := 9) (j := 10) rfl rfl (by decide) rfl rfl (da_cons (de_call c_law_draw hr (by decide) (by rfl) (da_cons (de_var 0) (da_cons (de_add (de_len (by rfl) T.len (da_cons (de_ix (de_var 1) de_int) da_nil)) de_int) da_nil))) (da_cons (de_lc (own := [("at", 11), ("it", 12)]) rfl sc_law_are_put_in.nd (dpi_enum (by rfl) T.enumerate (de_ix (de_var 1) de_int)) (blkOk_by (N := ["deck", "plan", "name", "end", "joined", "kinds", "other", "kind", "due", "place", "near", "at", "it"]) (sc := defScope s_law_are_put_in) (by decide +kernel)) (fun _ _ _ _ _ => (dg_tup rfl (dgs_cons (pg_name (i := 11) sc_law_are_put_in.nd rfl (by first | exact Or.inl rfl | exact Or.inr rfl)) (dgs_cons (pg_name (i := 12) sc_law_are_put_in.nd rfl (by first | exact Or.inl rfl | exact Or.inr rfl)) dgs_nil)))) (fun _ _ _ _ _ => (dpts_one (dt_cmp (dc_eq hr) (de_ix (de_var 12) de_int) (de_var 3)))) (fun _ _ _ _ _ => (de_var 11))) da_nil)) (by rfl))
      (dss_cons (ds_set (i := 8) sc_law_are_put_in.nd rfl (by first | exact Or.inl rfl | exact Or.inr rfl) de_non)
      (dss_cons (ds_if (dt_w (dw_or (dt_din hr (de_var 3) (de_var 4)) (dw_or (dt_cmp (dc_ne hr) (de_dget hr (de_var 5) (de_ix (de_var 3) de_int)) de_str) (dw_or1 (dt_w (dw_and (dt_cmp (dc_ne hr) (de_var 10) (de_lst da_nil)) (dw_and1 (dt_cmp dc_lt (de_ix (de_var 10) de_int) (de_var 9))))))))) (dss_one (ds_set (i := 8) sc_law_are_put_in.nd rfl (by first | exact Or.inl rfl | exact Or.inr rfl) (de_tup (da_cons de_str (da_cons (de_var 2) da_nil))))) (dss_one (ds_if (dt_cmp (dc_ne hr) (de_var 10) (de_lst da_nil)) (dss_one (ds_set (i := 8) sc_law_are_put_in.nd rfl (by first | exact Or.inl rfl | exact Or.inr rfl) (de_tup (da_cons de_str (da_cons (de_ix (de_ix (de_ix (de_var 1) de_int) (de_ix (de_var 10) de_int)) de_int) da_nil))))) dss_nil)))
      (dss_cons (ds_if (dt_not (dt_val (de_callG c_law_is hr ng (by decide) (by rfl) (da_cons (de_call c_law_put hr (by decide) (by rfl) (da_cons (de_var 1) (da_cons de_int (da_cons (de_var 9) (da_cons (de_tup (da_cons (de_var 2) (da_cons (de_var 3) da_nil))) da_nil))))) (da_cons (de_var 8) da_nil))))) (dss_one (ds_ret de_bl)) dss_nil)
      (dss_one (ds_if (dt_not (dt_val (de_callG c_law_is_signal_put_in hr ng (by decide) (by rfl) (da_cons (de_var 0) (da_cons (de_var 1) (da_cons (de_var 2) (da_cons (de_var 3) (da_cons (de_cmp (dc_eq hr) (de_dget hr (de_var 5) (de_ix (de_var 3) de_int)) de_str) (da_cons (de_get1 hr (de_var 4) (de_var 3)) da_nil))))))))) (dss_one (ds_ret de_bl)) dss_nil)))))))
      (dss_one (ds_ret de_bl))))), fun ds m Q h => ?_⟩)
  · obtain ⟨d, p, n, rfl, _⟩ := h; rfl
  · obtain ⟨d, p, n, rfl, hd, hp, hc, hO, hn, hnn, hga, hsi, q⟩ := h
    have b1 := hp.n1; have b2 := hp.n2; have b3 := hp.n3; have b4 := hp.n4
    have oO : ∀ {x y : M}, Ext m x → Ext x y → Ok y := fun {x y} E1 E2 => hOk _ _ hO (E1.trans E2).gh
    have nd := hc.stnd
    have gk := okW_words.2.2.2.1
    have hks : ∀ s ∈ p.st, kindS s.2 = true := fun s hs => (hp.st s hs).2
    refine seqI ?_
    dsimp only [dPar, dNewK]
    dsimp only [dOp, dC, dArgs, dCons, dNil, dCall, dTup, dB, dSlA, dNoPart, dPart]
    refine dVar_at rfl ⟨p, rfl, hp, fun c m1 hc0 E1 hm1 => ?_⟩
    intro a ha
    have hac : c ≠ a := fun z => by rw [z, ha] at hm1; cases hm1
    have ham : m.mu a = none := E1.fr ha
    refine ⟨_, _, rfl, ?_⟩
    have E2 := E1.set (o := .dic (kindsKV [])) ham
    have hm2 : (m1.set a (.dic (kindsKV []))).mu c = _ := (M.set_ne hac).trans hm1
    have km2 : (m1.set a (.dic (kindsKV []))).mu a = _ := M.set_same
    have q2 : m1.set a (.dic []) = m1.set a (.dic (kindsKV [])) := rfl
    rw [q2]
    generalize m1.set a (.dic (kindsKV [])) = m2 at E2 hm2 km2 ⊢
    refine seqI (dFor_T (xs := p.st.map strD) (fun R hR => by dsimp only [dOp, dC, dArgs, dCons, dNil, dCall, dTup, dB, dSlA, dNoPart, dPart]; exact dVar_at rfl ⟨_, rfl, hR⟩) (fun i δ m' => ∃ d3 d6 d7 d8 d9 d10 d11 d12, δ = [some d, some p.d, some (.str n), d3, some (.ref c), some (.ref a), d6, d7, d8, d9, d10, d11, d12] ∧ Ext m m' ∧ m'.mu c = some (.dit (partKV p.jo)) ∧ m'.mu a = some (.dic (kindsKV (p.st.take i)))) ⟨_, _, _, _, _, _, _, _, rfl, E2, hm2, km2⟩ ?_ ?_)
    · rintro i x δ m' hx ⟨d3, d6, d7, d8, d9, d10, d11, d12, rfl, E', h1, h2⟩
      obtain ⟨s, hs, rfl⟩ := map_get hx
      refine ⟨[.str s.1, .str s.2], .inl rfl, rfl, ?_⟩
      dsimp only [dDPut]
      have l1 := kindsKV_len (p.st.take i)
      have l0 : (p.st.take i).length ≤ 12 := by rw [List.length_take]; omega
      refine dVar_at rfl (dVar_at rfl (dVar_at rfl ⟨a, rfl, .inl ⟨_, .inr s.1, h2, rfl, slt (by omega), ?_⟩⟩))
      refine ⟨_, _, _, _, _, _, _, _, rfl, E'.set ham, (M.set_ne hac).trans h1, ?_⟩
      rw [M.set_same, take_snoc hs, kindsKV_snoc]
    · rintro δ m3 ⟨d3, d6, d7, d8, d9, d10, d11, d12, rfl, E3, h1, h2⟩
      rw [List.length_map, List.take_length] at h2
      dsimp only
      refine seqI (dFor_L (f := endD) (l := stEnds p.st) (fun u i δ m' => ∃ d3 d6 d7 d8 d9 d10 d11 d12, δ = [some d, some p.d, some (.str n), d3, some (.ref c), some (.ref a), d6, d7, d8, d9, d10, d11, d12] ∧ Ext m m' ∧ m'.mu c = some (.dit (partKV p.jo)) ∧ m'.mu a = some (.dic (kindsKV p.st)) ∧ m'.mu u = some (.lst ((stEnds p.st).map endD))) (fun R hR => by dsimp only [dOp, dC, dArgs, dCons, dNil, dCall, dTup, dB, dSlA, dNoPart, dPart]; exact dVar_at rfl ⟨p, rfl, hp, fun u m4 hu0 E4 hu => hR u m4 E4 hu⟩) (fun u m4 E4 hu => ⟨_, _, _, _, _, _, _, _, rfl, E3.trans E4, E4.old _ _ h1, E4.old _ _ h2, hu⟩) (fun u i δ m' ⟨_, _, _, _, _, _, _, _, _, _, _, _, hu⟩ => hu) ?_ ?_)
      · rintro u i e δ m4 hei ⟨d3, d6, d7, d8, d9, d10, d11, d12, rfl, E4, h1, h2, hu⟩
        have he := List.mem_of_getElem? hei
        have oe := stEnds_ok hp he
        have exe := stEnds_ex nd he
        have fin := fine_nats (nearG p e)
        obtain ⟨kd, hkd, hkS⟩ : ∃ kd, kindAt p.st e.1 = some kd ∧ kindS kd = true := by
          obtain ⟨s, hs, z, _⟩ := mem_stEnds.mp he
          exact ⟨s.2, (kind_iff nd).mpr (by rw [z]; exact hs), hks s hs⟩
        have pT : decide (kd = "plain") = plainAt p.st e := by unfold plainAt; rw [hkd]; simp
        have gK : ∀ {x : M}, x.mu a = some (.dic (kindsKV p.st)) → GetD x a (.str e.1) (some (.str kd)) := fun {x} hx => by
          have := getK hx e.1
          rw [hkd] at this; exact this
        dsimp only [gD]
        refine seqR1 (fun δ m2 => ∃ (k : Nat) (s : Addr) (d6 d7 d8 d11 d12 : Option D), δ = [some d, some p.d, some (.str n), some (endD e), some (.ref c), some (.ref a), d6, d7, d8, some (.int (k : Int)), some (.ref s), d11, d12] ∧ Ext m m2 ∧ m2.mu c = some (.dit (partKV p.jo)) ∧ m2.mu a = some (.dic (kindsKV p.st)) ∧ m2.mu u = some (.lst ((stEnds p.st).map endD)) ∧ m2.mu s = some (.lst ((nearG p e).map fun j : Nat => D.int (j : Int)))) ?_ (fun R hR => seqI ?_)
        · rintro δ m5 ⟨k, s, d6, d7, d8, d11, d12, rfl, E5, h1, h2, hu, hs⟩
          refine seqI ?_
          dsimp only [dSet]
          dsimp only [dOp, dC, dArgs, dCons, dNil, dCall, dTup, dB, dSlA, dNoPart, dPart]
          refine seqR1 (fun δ m2 => ∃ (due : Option (Str × Str)) (d6 d7 d10 d11 d12 : Option D), δ = [some d, some p.d, some (.str n), some (endD e), some (.ref c), some (.ref a), d6, d7, some (optF due), some (.int (k : Int)), d10, d11, d12] ∧ Ext m m2 ∧ m2.mu c = some (.dit (partKV p.jo)) ∧ m2.mu a = some (.dic (kindsKV p.st)) ∧ m2.mu u = some (.lst ((stEnds p.st).map endD)) ∧ okF due ∧ gateFault p k n e = due) ?_ (fun R hR => seqI ?_)
          · rintro δ m6 ⟨due, d6, d7, d10, d11, d12, rfl, E6, h1, h2, hu, hok, hdue⟩
            refine seqI (isOk (p := ⟨p.st, p.jo, insA p.ga k (n, e), p.si⟩) (due := due) (fun R hR => by dsimp only [dOp, dC, dArgs, dCons, dNil, dCall, dTup, dB, dSlA, dNoPart, dPart]; exact dVar_at rfl (dVar_at rfl (dVar_at rfl (dVar_at rfl ⟨slk (by simp), put2 hp (x := (n, e)) hR⟩)))) (fun R hR => dVar_at rfl (hR _ (Ext.refl _))) (hp.put2 ⟨hn, oe⟩ (by omega)) (fun m1 E => oO E6 E) hok (by rw [hc.inga k hnn exe, hdue]) fun m7 E7 => ?_)
            have h1 := E7.old _ _ h1; have h2 := E7.old _ _ h2; have hu := E7.old _ _ hu
            have E7 := E6.trans E7
            dsimp only [dRet, dSeq, dNext, dIfS, dSet, dExpr, dAsg, dPar, dPar3, gD, dOp, dUn, dArgs, dCons, dNil, dC, dB, dNot, dCall, dMeth, dMeth0, dIf, dLst, dTup, dSl, dNoPart, dPart, dM1, dOr, dAnd, dAndV, dOrV, dDGet, dSlA, dGet1, dNewT, dNewK, dFor, iT, dDPut, dDIn, dSet0S, dSet0T, dSAddS, dSAddT, dTru]
            refine dVar_at rfl (dVar_at rfl (dVar_at rfl (dVar_at rfl (dVar_at rfl (dVar_at rfl (endD_ix0 ⟨a, _, rfl, gK h2, eqT ?_⟩))))))
            refine dVar_at rfl ⟨c, rfl, .inr ⟨_, h1⟩, dVar_at rfl ⟨_, getP h1 e, ?_⟩⟩
            rw [optE_get, pT]
            exact ⟨d, p, n, e, rfl, hd.ext E7.gh, hp, hc, hOk _ _ hO E7.gh, hn, hnn, hsi, he, fun m8 E8 => ⟨true, rfl, ifF rfl ⟨_, _, _, _, _, _, _, _, rfl, E7.trans E8, E8.old _ _ h1, E8.old _ _ h2, E8.old _ _ hu⟩⟩⟩
          · dsimp only [dRet, dSeq, dNext, dIfS, dSet, dExpr, dAsg, dPar, dPar3, gD, dOp, dUn, dArgs, dCons, dNil, dC, dB, dNot, dCall, dMeth, dMeth0, dIf, dLst, dTup, dSl, dNoPart, dPart, dM1, dOr, dAnd, dAndV, dOrV, dDGet, dSlA, dGet1, dNewT, dNewK, dFor, iT, dDPut, dDIn, dSet0S, dSet0T, dSAddS, dSAddT, dTru]
            refine dVar_at rfl (dVar_at rfl ⟨c, _, rfl, getP h1 e, ?_⟩)
            have e1 : ((partAt p.jo e).map endD).isSome = (partAt p.jo e).isSome := by cases partAt p.jo e <;> rfl
            rw [if_neg Bool.false_ne_true, e1]
            refine ⟨_, rfl, iff_T (fun hz => ?_) fun hz => ?_⟩
            · refine ifT rfl (dVar_at rfl ⟨slk (by simp), hR _ _ ⟨some (("gate" : Str), n), _, _, _, _, _, rfl, E5, h1, h2, hu, okF_some gk hn, gF1 (.inl (part_some.mp hz))⟩⟩)
            · have hnj : e ∉ jends p.jo := fun z => by rw [part_some.mpr z] at hz; cases hz
              refine dVar_at rfl (dVar_at rfl (endD_ix0 ⟨a, _, rfl, gK h2, neT ⟨_, rfl, iff_T (fun hy => ?_) fun hy => ?_⟩⟩))
              · refine ifT rfl (dVar_at rfl ⟨slk (by simp), hR _ _ ⟨some (("gate" : Str), n), _, _, _, _, _, rfl, E5, h1, h2, hu, okF_some gk hn, gF1 (.inr (by rw [← pT]; simpa using hy))⟩⟩)
              · have hpl : plainAt p.st e = true := by rw [← pT]; simpa using hy
                refine dVar_at rfl ⟨slk (by simp), fun p1 hp1 => ne_nil ((Ext.new hp1).old _ _ hs) M.set_same fin ⟨_, rfl, ?_⟩⟩
                have E6 := E5.trans (Ext.new (o := .lst []) hp1)
                have hs2 := (Ext.new (o := .lst []) hp1).old _ _ hs
                have h1 := (Ext.new (o := .lst []) hp1).old _ _ h1
                have h2 := (Ext.new (o := .lst []) hp1).old _ _ h2
                have hu := (Ext.new (o := .lst []) hp1).old _ _ hu
                generalize m5.set p1 (.lst []) = m6 at E6 hs2 h1 h2 hu ⊢
                cases hsh : nearG p e with
                | nil =>
                  rw [hsh] at hs2
                  refine ifF rfl (ifF rfl (dVar_at rfl ⟨slk (by simp), fun p2 hp2 => ne_nil ((Ext.new hp2).old _ _ hs2) M.set_same (by simp) ⟨_, rfl, ?_⟩⟩))
                  exact ifF rfl (hR _ _ ⟨none, _, _, _, _, _, rfl, E6.trans (Ext.new hp2), (Ext.new hp2).old _ _ h1, (Ext.new hp2).old _ _ h2, (Ext.new hp2).old _ _ hu, okF_none, gF4 hpl hnj hsh⟩)
                | cons i r =>
                  refine ifT rfl (dVar_at rfl (ix_nat hs2 hsh (dVar_at rfl (bI ⟨_, rfl, iff_T (fun hlt => ?_) fun hlt => ?_⟩))))
                  · have hlt : i < k := by simpa using hlt
                    exact dVar_at rfl ⟨slk (by simp), hR _ _ ⟨some (("gate" : Str), n), _, _, _, _, _, rfl, E6, h1, h2, hu, okF_some gk hn, gF2 hsh hlt⟩⟩
                  · have hlt : ¬ i < k := by simpa using hlt
                    obtain ⟨s2, hj, hf⟩ := gF3 (n := n) hpl hnj hsh hlt
                    have on := (hp.ga s2 (List.mem_of_getElem? hj)).1
                    refine dVar_at rfl ⟨slk (by simp), fun p2 hp2 => ne_nil ((Ext.new hp2).old _ _ hs2) M.set_same fin ⟨_, rfl, ?_⟩⟩
                    rw [hsh]
                    refine ifT rfl (dVar_at rfl ⟨_, rfl, dVar_at rfl (ix_nat ((Ext.new hp2).old _ _ hs2) hsh (ix_map (f := gaD) hj ⟨_, rfl, slk (by simp), hR _ _ ⟨some (("gate" : Str), s2.1), _, _, _, _, _, rfl, E6.trans (Ext.new hp2), (Ext.new hp2).old _ _ h1, (Ext.new hp2).old _ _ h2, (Ext.new hp2).old _ _ hu, okF_some gk on, hf⟩⟩))⟩)
        · dsimp only [dPar]
          dsimp only [dOp, dC, dArgs, dCons, dNil, dCall, dTup, dB, dSlA, dNoPart, dPart]
          refine dVar_at rfl (dVar_at rfl ⟨_, rfl, _, _, rfl, (List.length_map ..).symm, aI (drw (hd.ext E4.gh) (by omega) (by omega) fun r r0 r1 => ?_)⟩)
          obtain ⟨k, rfl⟩ : ∃ k : Nat, r = (k : Int) := ⟨r.toNat, by omega⟩
          refine lcE (l := p.ga) (f := gaD) (fun g => decide (g.2 = e)) (fun x y e => gaD_inj e) (fun R hR => by dsimp only [dOp, dC, dArgs, dCons, dNil, dCall, dTup, dB, dSlA, dNoPart, dPart]; exact dVar_at rfl ⟨_, rfl, hR⟩) (by omega) (fun x hx j m' E' Ry Rn hr => ?_) (fun s m5 hs E5 hm5 => ?_)
          · refine ⟨[.int (j : Int), gaD x], .inl rfl, rfl, ?_⟩
            dsimp only [dOp, dC, dArgs, dCons, dNil, dCall, dTup, dB, dSlA, dNoPart, dPart]
            refine dVar_at rfl ⟨_, rfl, dVar_at rfl (eqE (a := x.2) (hp.ga x hx).2 oe ⟨_, rfl, ?_⟩)⟩
            have := hr m' (Ext.refl _)
            refine iff_T (fun z => ?_) fun z => ?_
            · rw [if_pos z] at this; exact dVar_at rfl this
            · rw [if_neg (by rw [z]; decide)] at this; exact this
          · exact ⟨_, _, rfl, hR _ _ ⟨k, s, _, _, _, _, _, rfl, E4.trans E5, E5.old _ _ h1, E5.old _ _ h2, E5.old _ _ hu, hm5⟩⟩
      · rintro u δ m4 ⟨d3, d6, d7, d8, d9, d10, d11, d12, rfl, E4, _⟩
        exact q m4 E4

end
end PR

namespace PR
open PySem PySem.Spec PyProof.Rows L2 GA GxR DL PL TM

section
variable {P : Program} {w : World} {K : PySem.W.Frag} {mg : Str → Option Value} {base : Heap} {tl td t8 t3 : Tok} {aK aO aE aP P1 P2 : Addr} (T : Txt K mg w tl td t8 t3 aK aO aE aP) (Ok : M → Prop) (hOk : ∀ a b : M, Ok a → b.gh = a.gh → Ok b)
include T hOk

theorem c_law {f : Addr} {fd : FuncData} (F : Fun K "law" "law" s_law f fd) (hT : ∀ m : M, Tab m P1 → Tab m P2 → Ok m) (c_law_deck : DCal P w K mg base 1 "_law_deck" (fun ds m Q => ∃ (aS : Addr) (ns : List Int), ds = [.ref aS] ∧ (∀ H, m.gh.inv H → SqL K H aS (ns.map V.int)) ∧ ns.length ≤ 63 ∧ ∀ aD aC m', Ext m m' → m.mu aD = none → m.mu aC = none → aD ≠ aC → DeckAt m' aD aC → Q (.ref aD) m')) (c_law_checked : DCal P w K mg base 4 "_law_checked" spChecked2) (c_law_name : DCal P w K mg base 3 "_law_name" spName) (c_law_is : DCalG P w K mg base 15 "_law_is" (spIs Ok)) (c_law_are_taken_out : DCalG P w K mg base 16 "_law_are_taken_out" (spAll Ok)) (c_law_are_names_put_in : DCalG P w K mg base 16 "_law_are_names_put_in" (spNames Ok)) (c_law_are_joints_put_in : DCalG P w K mg base 16 "_law_are_joints_put_in" (spJns Ok)) (c_law_are_put_in : DCalG P w K mg base 17 "_law_are_put_in" (spPuts Ok)) : FnOkG P w K mg base 18 f fd ["script"] (spUp K (spLaw K P1 P2)) := by
  refine fnG F sc_law (fun ds m Q h => ?_) (fun cdv A outer s H E hr ng => ⟨_, (dss_cons (ds_par rfl sc_law.nd (i := 2) (j := 3) rfl rfl (by decide) rfl rfl (da_cons (de_call c_law_deck hr (by decide) (by rfl) (da_cons (de_var 0) da_nil)) (da_cons (de_lst da_nil) da_nil)) (by rfl)) (dss_hide (dss_cons (ds_set (i := 1) sc_law.nd rfl (by first | exact Or.inl rfl | exact Or.inr rfl) (de_call c_law_checked hr (by decide) (by rfl) (da_cons (de_var 2) (da_cons (de_var 3) (da_cons de_int da_nil)))))
      (dss_cons (ds_par rfl sc_law.nd (i := 1) (j := 4) rfl rfl (by decide) rfl rfl (da_cons (de_tup (da_cons (de_ix (de_var 1) de_int) (da_cons (de_ix (de_var 1) de_int) (da_cons (de_sliceA (de_ix (de_var 1) de_int) dpo_none (dpo_some de_int)) (da_cons (de_sliceA (de_ix (de_var 1) de_int) dpo_none (dpo_some de_int)) da_nil))))) (da_cons (de_call c_law_name hr (by decide) (by rfl) (da_cons (de_var 2) (da_cons (de_var 3) da_nil))) da_nil)) (by rfl))
      (dss_cons (ds_if (dt_w (dw_or (dt_not (dt_val (de_callG c_law_is hr ng (by decide) (by rfl) (da_cons (de_var 1) (da_cons de_non da_nil))))) (dw_or (dt_not (dt_val (de_callG c_law_are_taken_out hr ng (by decide) (by rfl) (da_cons (de_var 1) da_nil)))) (dw_or1 (dt_not (dt_val (de_callG c_law_are_names_put_in hr ng (by decide) (by rfl) (da_cons (de_var 2) (da_cons (de_var 1) (da_cons (de_var 4) da_nil)))))))))) (dss_one (ds_ret de_bl)) dss_nil)
      (dss_one (ds_ret (de_and (de_callG c_law_are_joints_put_in hr ng (by decide) (by rfl) (da_cons (de_var 2) (da_cons (de_var 1) da_nil))) (de_and (de_callG c_law_are_put_in hr ng (by decide) (by rfl) (da_cons (de_var 2) (da_cons (de_var 1) (da_cons (de_var 4) da_nil)))) (de_one (de_callG c_law_is hr ng (by decide) (by rfl) (da_cons (de_var 1) (da_cons de_non da_nil))))))))))))), fun ds m Q h => ?_⟩)
  · obtain ⟨aS, ns, rfl, _⟩ := h; rfl
  · obtain ⟨aS, ns, rfl, hS, hl, hT1, hT2, q⟩ := h
    dsimp only [dRet, dSeq, dNext, dIfS, dSet, dExpr, dAsg, dPar, dPar3, gD, dOp, dUn, dArgs, dCons, dNil, dC, dB, dNot, dCall, dMeth, dMeth0, dIf, dLst, dTup, dSl, dNoPart, dPart, dM1, dOr, dAnd, dAndV, dOrV, dDGet, dSlA, dGet1]
    refine dVar_at rfl ⟨aS, ns, rfl, hS, hl, fun aD aC m1 E1 f1 f2 _ hd => ⟨slk (by simp), fun u hu => ⟨_, _, rfl, aD, aC, ?_, fun o1 o2 ne => ?_⟩⟩⟩
    · obtain ⟨x, k, cs, e1, e2, r⟩ := hd.ex
      exact ⟨x, k, cs, (Ext.new hu).old _ _ e1, (Ext.new hu).old _ _ e2, r⟩
    have nu : u ≠ aD ∧ u ≠ aC := by
      obtain ⟨x, k, cs, e1, e2, r⟩ := hd.ex
      exact ⟨fun z => (by rw [← z, hu] at e1; cases e1), fun z => (by rw [← z, hu] at e2; cases e2)⟩
    have hD0 : Dk (PL.hide (m1.set u (.lst [])) aD aC) (.ref aD) := Dk.hide o1 o2 ne
    have hK0 : Ok (PL.hide (m1.set u (.lst [])) aD aC) := hT _ (Tab.hide (hT1.gh E1.gh) o1 o2) (Tab.hide (hT2.gh E1.gh) o1 o2)
    have hu0 : (PL.hide (m1.set u (.lst [])) aD aC).mu u = some (.lst []) := (hide_mu nu.1 nu.2).trans M.set_same
    generalize PL.hide (m1.set u (.lst [])) aD aC = m2 at hD0 hK0 hu0 ⊢
    dsimp only [dRet, dSeq, dNext, dIfS, dSet, dExpr, dAsg, dPar, dPar3, gD, dOp, dUn, dArgs, dCons, dNil, dC, dB, dNot, dCall, dMeth, dMeth0, dIf, dLst, dTup, dSl, dNoPart, dPart, dM1, dOr, dAnd, dAndV, dOrV, dDGet, dSlA, dGet1]
    refine dVar_at rfl (dVar_at rfl ⟨.ref aD, u, [], 8, rfl, hD0, hu0, by simp, by decide, fun p0 m3 hp0 hc0 hst0 hnm0 C3 hu3 => ?_⟩)
    have b1 := hp0.n1; have b3 := hp0.n3; have b4 := hp0.n4
    have ht3 : (p0.ga.take 3).Sublist p0.ga := List.take_sublist _ _
    have ht4 : (p0.si.take 9).Sublist p0.si := List.take_sublist _ _
    have hp : Pln.Ok ⟨p0.st, p0.jo, p0.ga.take 3, p0.si.take 9⟩ := hp0.sub (List.Sublist.refl _) (List.Sublist.refl _) ht3 ht4
    have hc : Chk ⟨p0.st, p0.jo, p0.ga.take 3, p0.si.take 9⟩ := hc0.sub ht3 ht4
    have l3 : (p0.ga.take 3).length ≤ 3 := by rw [List.length_take]; omega
    have l4 : (p0.si.take 9).length ≤ 9 := by rw [List.length_take]; omega
    have hsub : ∀ x ∈ Pln.nms ⟨p0.st, p0.jo, p0.ga.take 3, p0.si.take 9⟩, x ∈ p0.nms := fun x hx => ((((List.Sublist.refl _).append (ht3.map _)).append (ht4.map _)).subset hx)
    have ed : D.tup [.tup (p0.st.map strD), .tup (p0.jo.map joD), .tup ((p0.ga.map gaD).take 3), .tup ((p0.si.map siD).take 9)] = Pln.d ⟨p0.st, p0.jo, p0.ga.take 3, p0.si.take 9⟩ := by rw [← List.map_take, ← List.map_take]; rfl
    refine dVar_at rfl ⟨_, rfl, dVar_at rfl ⟨_, rfl, dVar_at rfl ⟨_, rfl, 3, rfl, slT_take (k := 3) (dVar_at rfl ⟨_, rfl, 9, rfl, slT_take (k := 9) ⟨slk (by simp), ?_⟩⟩)⟩⟩⟩
    rw [ed]
    have hnl := nms_len hp0
    have hnl2 : p0.nms.length < 60 := by
      unfold Pln.nms
      rw [List.length_append, List.length_append, List.length_map, List.length_map, List.length_map]; omega
    refine dVar_at rfl (dVar_at rfl ⟨.ref aD, u, [] ++ p0.nms, rfl, hD0.ext C3.gh, hu3, hnl2, fun n m4 hn hnn C4 hu4 => ⟨_, _, rfl, ?_⟩⟩)
    have hnn' : n ∉ Pln.nms ⟨p0.st, p0.jo, p0.ga.take 3, p0.si.take 9⟩ := fun z => hnn (hsub _ z)
    have hst : (⟨p0.st, p0.jo, p0.ga.take 3, p0.si.take 9⟩ : Pln).st.length ≤ 8 := hst0
    have l3 : (⟨p0.st, p0.jo, p0.ga.take 3, p0.si.take 9⟩ : Pln).ga.length ≤ 3 := l3
    have l4 : (⟨p0.st, p0.jo, p0.ga.take 3, p0.si.take 9⟩ : Pln).si.length ≤ 9 := l4
    generalize (⟨p0.st, p0.jo, p0.ga.take 3, p0.si.take 9⟩ : Pln) = p at hp hc hnn' hst l3 l4 ⊢
    have g4 : m4.gh = m2.gh := C4.gh.trans C3.gh
    have oO : ∀ {x : M}, Ext m4 x → Ok x := fun {x} E => hOk _ _ hK0 (E.gh.trans g4)
    have oD : ∀ {x : M}, Ext m4 x → Dk x (.ref aD) := fun {x} E => hD0.ext (E.gh.trans g4)
    refine dVar_at rfl ⟨p, none, rfl, ⟨hp, oO (Ext.refl _)⟩, okF_none, chk_iff.mpr hc, fun m5 E5 => ⟨true, rfl, ifF rfl ?_⟩⟩
    refine dVar_at rfl ⟨p, rfl, hp, hc, oO E5, fun m6 E6 => ⟨true, rfl, ifF rfl ?_⟩⟩
    have E6 := E5.trans E6
    refine dVar_at rfl (dVar_at rfl (dVar_at rfl ⟨.ref aD, p, n, rfl, oD E6, hp, hc, oO E6, hn, hnn', hst, l3, l4, fun m7 E7 => ⟨true, rfl, ifF rfl ?_⟩⟩))
    have E7 := E6.trans E7
    refine dVar_at rfl (dVar_at rfl ⟨.ref aD, p, rfl, oD E7, hp, hc, oO E7, fun m8 E8 => ⟨true, rfl, ifT rfl ?_⟩⟩)
    have E8 := E7.trans E8
    refine dVar_at rfl (dVar_at rfl (dVar_at rfl ⟨.ref aD, p, n, rfl, oD E8, hp, hc, oO E8, hn, hnn', l3, l4, fun m9 E9 => ⟨true, rfl, ifT rfl ?_⟩⟩))
    exact dVar_at rfl ⟨p, none, rfl, ⟨hp, oO (E8.trans E9)⟩, okF_none, chk_iff.mpr hc, fun m10 E10 => q m10⟩
end
end PR

namespace PR
open PySem PySem.Spec PyProof.Rows L2 GA GxR DL PL
theorem FnOkG_imp {P : Program} {w : World} {K : PySem.W.Frag} {mg : Str → Option Value} {base : Heap} {k : Nat} {f : Addr} {fd : FuncData} {ps : List Str} {sp sp' : Sp} (F : FnOkG P w K mg base k f fd ps sp) (i : ∀ vs H Q E, sp' vs H Q E → sp vs H Q E) : FnOkG P w K mg base k f fd ps sp' :=
  ⟨fun vs H Q E h => F.len vs H Q E (i vs H Q E h), fun A outer s H args us vs Q E hr ng env b v h => F.run A outer s H args us vs Q E hr ng env b v (i vs H Q E h)⟩
theorem factsL {l : PySem.W.OpenLaw} {w : World} {K : PySem.W.Frag} {h : Heap} {mg : Str → Option Value} {f : Addr} (X : K.In h) (G : h.Ns mainGlobals mg) (hfa : mg ("law" : Str) = some (.ref f)) (c : He.SaysX faL fnL tsL tfL exL w h K) : DL.LawAtG l w K 18 63 "script" mg f h := by
  have D := c.t.d
  obtain ⟨fd_is_integer, E_is_integer⟩ := D.def_ 0 (d := dd "is_integer" s_is_integer) rfl
  have F_is_integer : Fun K "is_integer" "is_integer" s_is_integer (He.fAd K ("is_integer", none)) fd_is_integer := He5.fun_of E_is_integer
  have m_is_integer : mg "is_integer" = some (.ref (He.fAd K ("is_integer", none))) := He.glo_ok X G (D.fact 0 (f := .glo "is_integer") rfl)
  obtain ⟨fd_is_tuple_of, E_is_tuple_of⟩ := D.def_ 1 (d := dd "is_tuple_of" s_is_tuple_of) rfl
  have F_is_tuple_of : Fun K "is_tuple_of" "is_tuple_of" s_is_tuple_of (He.fAd K ("is_tuple_of", none)) fd_is_tuple_of := He5.fun_of E_is_tuple_of
  have m_is_tuple_of : mg "is_tuple_of" = some (.ref (He.fAd K ("is_tuple_of", none))) := He.glo_ok X G (D.fact 1 (f := .glo "is_tuple_of") rfl)
  obtain ⟨fd_are_items, E_are_items⟩ := D.def_ 2 (d := dd "are_items" s_are_items) rfl
  have F_are_items : FunC K "are_items" s_are_items (He.fAd K ("are_items", none)) fd_are_items (He.codeOf K ("are_items", none)) := funC_of E_are_items
  have m_are_items : mg "are_items" = some (.ref (He.fAd K ("are_items", none))) := He.glo_ok X G (D.fact 2 (f := .glo "are_items") rfl)
  obtain ⟨fd_is_name, E_is_name⟩ := D.def_ 3 (d := dd "is_name" s_is_name) rfl
  have F_is_name : FunC K "is_name" s_is_name (He.fAd K ("is_name", none)) fd_is_name (He.codeOf K ("is_name", none)) := funC_of E_is_name
  have m_is_name : mg "is_name" = some (.ref (He.fAd K ("is_name", none))) := He.glo_ok X G (D.fact 3 (f := .glo "is_name") rfl)
  obtain ⟨fd_is_end_number, E_is_end_number⟩ := D.def_ 4 (d := dd "is_end_number" s_is_end_number) rfl
  have F_is_end_number : Fun K "is_end_number" "is_end_number" s_is_end_number (He.fAd K ("is_end_number", none)) fd_is_end_number := He5.fun_of E_is_end_number
  have m_is_end_number : mg "is_end_number" = some (.ref (He.fAd K ("is_end_number", none))) := He.glo_ok X G (D.fact 4 (f := .glo "is_end_number") rfl)
  obtain ⟨fd_is_end, E_is_end⟩ := D.def_ 5 (d := dd "is_end" s_is_end) rfl
  have F_is_end : Fun K "is_end" "is_end" s_is_end (He.fAd K ("is_end", none)) fd_is_end := He5.fun_of E_is_end
  have m_is_end : mg "is_end" = some (.ref (He.fAd K ("is_end", none))) := He.glo_ok X G (D.fact 5 (f := .glo "is_end") rfl)
  obtain ⟨fd_is_step, E_is_step⟩ := D.def_ 6 (d := dd "is_step" s_is_step) rfl
  have F_is_step : Fun K "is_step" "is_step" s_is_step (He.fAd K ("is_step", none)) fd_is_step := He5.fun_of E_is_step
  have m_is_step : mg "is_step" = some (.ref (He.fAd K ("is_step", none))) := He.glo_ok X G (D.fact 6 (f := .glo "is_step") rfl)
  obtain ⟨fd_is_stretch, E_is_stretch⟩ := D.def_ 7 (d := dd "is_stretch" s_is_stretch) rfl
  have F_is_stretch : Fun K "is_stretch" "is_stretch" s_is_stretch (He.fAd K ("is_stretch", none)) fd_is_stretch := He5.fun_of E_is_stretch
  have m_is_stretch : mg "is_stretch" = some (.ref (He.fAd K ("is_stretch", none))) := He.glo_ok X G (D.fact 7 (f := .glo "is_stretch") rfl)
  obtain ⟨fd_is_joint, E_is_joint⟩ := D.def_ 8 (d := dd "is_joint" s_is_joint) rfl
  have F_is_joint : Fun K "is_joint" "is_joint" s_is_joint (He.fAd K ("is_joint", none)) fd_is_joint := He5.fun_of E_is_joint
  have m_is_joint : mg "is_joint" = some (.ref (He.fAd K ("is_joint", none))) := He.glo_ok X G (D.fact 8 (f := .glo "is_joint") rfl)
  obtain ⟨fd_is_gate, E_is_gate⟩ := D.def_ 9 (d := dd "is_gate" s_is_gate) rfl
  have F_is_gate : Fun K "is_gate" "is_gate" s_is_gate (He.fAd K ("is_gate", none)) fd_is_gate := He5.fun_of E_is_gate
  have m_is_gate : mg "is_gate" = some (.ref (He.fAd K ("is_gate", none))) := He.glo_ok X G (D.fact 9 (f := .glo "is_gate") rfl)
  obtain ⟨fd_is_overlap, E_is_overlap⟩ := D.def_ 10 (d := dd "is_overlap" s_is_overlap) rfl
  have F_is_overlap : Fun K "is_overlap" "is_overlap" s_is_overlap (He.fAd K ("is_overlap", none)) fd_is_overlap := He5.fun_of E_is_overlap
  have m_is_overlap : mg "is_overlap" = some (.ref (He.fAd K ("is_overlap", none))) := He.glo_ok X G (D.fact 10 (f := .glo "is_overlap") rfl)
  obtain ⟨fd_is_signal, E_is_signal⟩ := D.def_ 11 (d := dd "is_signal" s_is_signal) rfl
  have F_is_signal : Fun K "is_signal" "is_signal" s_is_signal (He.fAd K ("is_signal", none)) fd_is_signal := He5.fun_of E_is_signal
  have m_is_signal : mg "is_signal" = some (.ref (He.fAd K ("is_signal", none))) := He.glo_ok X G (D.fact 11 (f := .glo "is_signal") rfl)
  obtain ⟨fd_is_plan, E_is_plan⟩ := D.def_ 12 (d := dd "is_plan" s_is_plan) rfl
  have F_is_plan : Fun K "is_plan" "is_plan" s_is_plan (He.fAd K ("is_plan", none)) fd_is_plan := He5.fun_of E_is_plan
  have m_is_plan : mg "is_plan" = some (.ref (He.fAd K ("is_plan", none))) := He.glo_ok X G (D.fact 12 (f := .glo "is_plan") rfl)
  obtain ⟨fd_ways_of, E_ways_of⟩ := D.def_ 13 (d := dd "ways_of" s_ways_of) rfl
  have F_ways_of : Fun K "ways_of" "ways_of" s_ways_of (He.fAd K ("ways_of", none)) fd_ways_of := He5.fun_of E_ways_of
  have m_ways_of : mg "ways_of" = some (.ref (He.fAd K ("ways_of", none))) := He.glo_ok X G (D.fact 13 (f := .glo "ways_of") rfl)
  obtain ⟨fd_kinds_of, E_kinds_of⟩ := D.def_ 14 (d := dd "kinds_of" s_kinds_of) rfl
  have F_kinds_of : Fun K "kinds_of" "kinds_of" s_kinds_of (He.fAd K ("kinds_of", none)) fd_kinds_of := He5.fun_of E_kinds_of
  have m_kinds_of : mg "kinds_of" = some (.ref (He.fAd K ("kinds_of", none))) := He.glo_ok X G (D.fact 14 (f := .glo "kinds_of") rfl)
  obtain ⟨fd_partners_of, E_partners_of⟩ := D.def_ 15 (d := dd "partners_of" s_partners_of) rfl
  have F_partners_of : Fun K "partners_of" "partners_of" s_partners_of (He.fAd K ("partners_of", none)) fd_partners_of := He5.fun_of E_partners_of
  have m_partners_of : mg "partners_of" = some (.ref (He.fAd K ("partners_of", none))) := He.glo_ok X G (D.fact 15 (f := .glo "partners_of") rfl)
  obtain ⟨fd_end_exists, E_end_exists⟩ := D.def_ 16 (d := dd "end_exists" s_end_exists) rfl
  have F_end_exists : Fun K "end_exists" "end_exists" s_end_exists (He.fAd K ("end_exists", none)) fd_end_exists := He5.fun_of E_end_exists
  have m_end_exists : mg "end_exists" = some (.ref (He.fAd K ("end_exists", none))) := He.glo_ok X G (D.fact 16 (f := .glo "end_exists") rfl)
  obtain ⟨fd_repeated_name, E_repeated_name⟩ := D.def_ 17 (d := dd "repeated_name" s_repeated_name) rfl
  have F_repeated_name : Fun K "repeated_name" "repeated_name" s_repeated_name (He.fAd K ("repeated_name", none)) fd_repeated_name := He5.fun_of E_repeated_name
  have m_repeated_name : mg "repeated_name" = some (.ref (He.fAd K ("repeated_name", none))) := He.glo_ok X G (D.fact 17 (f := .glo "repeated_name") rfl)
  obtain ⟨fd_missing_end, E_missing_end⟩ := D.def_ 18 (d := dd "missing_end" s_missing_end) rfl
  have F_missing_end : Fun K "missing_end" "missing_end" s_missing_end (He.fAd K ("missing_end", none)) fd_missing_end := He5.fun_of E_missing_end
  have m_missing_end : mg "missing_end" = some (.ref (He.fAd K ("missing_end", none))) := He.glo_ok X G (D.fact 18 (f := .glo "missing_end") rfl)
  obtain ⟨fd_wrong_joint, E_wrong_joint⟩ := D.def_ 19 (d := dd "wrong_joint" s_wrong_joint) rfl
  have F_wrong_joint : Fun K "wrong_joint" "wrong_joint" s_wrong_joint (He.fAd K ("wrong_joint", none)) fd_wrong_joint := He5.fun_of E_wrong_joint
  have m_wrong_joint : mg "wrong_joint" = some (.ref (He.fAd K ("wrong_joint", none))) := He.glo_ok X G (D.fact 19 (f := .glo "wrong_joint") rfl)
  obtain ⟨fd_wrong_place, E_wrong_place⟩ := D.def_ 20 (d := dd "wrong_place" s_wrong_place) rfl
  have F_wrong_place : Fun K "wrong_place" "wrong_place" s_wrong_place (He.fAd K ("wrong_place", none)) fd_wrong_place := He5.fun_of E_wrong_place
  have m_wrong_place : mg "wrong_place" = some (.ref (He.fAd K ("wrong_place", none))) := He.glo_ok X G (D.fact 20 (f := .glo "wrong_place") rfl)
  obtain ⟨fd_fits_overlap, E_fits_overlap⟩ := D.def_ 21 (d := dd "fits_overlap" s_fits_overlap) rfl
  have F_fits_overlap : Fun K "fits_overlap" "fits_overlap" s_fits_overlap (He.fAd K ("fits_overlap", none)) fd_fits_overlap := He5.fun_of E_fits_overlap
  have m_fits_overlap : mg "fits_overlap" = some (.ref (He.fAd K ("fits_overlap", none))) := He.glo_ok X G (D.fact 21 (f := .glo "fits_overlap") rfl)
  obtain ⟨fd_wrong_overlap, E_wrong_overlap⟩ := D.def_ 22 (d := dd "wrong_overlap" s_wrong_overlap) rfl
  have F_wrong_overlap : Fun K "wrong_overlap" "wrong_overlap" s_wrong_overlap (He.fAd K ("wrong_overlap", none)) fd_wrong_overlap := He5.fun_of E_wrong_overlap
  have m_wrong_overlap : mg "wrong_overlap" = some (.ref (He.fAd K ("wrong_overlap", none))) := He.glo_ok X G (D.fact 22 (f := .glo "wrong_overlap") rfl)
  obtain ⟨fd_fault, E_fault⟩ := D.def_ 23 (d := dd "fault" s_fault) rfl
  have F_fault : Fun K "fault" "fault" s_fault (He.fAd K ("fault", none)) fd_fault := He5.fun_of E_fault
  have m_fault : mg "fault" = some (.ref (He.fAd K ("fault", none))) := He.glo_ok X G (D.fact 23 (f := .glo "fault") rfl)
  obtain ⟨fd_is_checked, E_is_checked⟩ := D.def_ 24 (d := dd "is_checked" s_is_checked) rfl
  have F_is_checked : Fun K "is_checked" "is_checked" s_is_checked (He.fAd K ("is_checked", none)) fd_is_checked := He5.fun_of E_is_checked
  have m_is_checked : mg "is_checked" = some (.ref (He.fAd K ("is_checked", none))) := He.glo_ok X G (D.fact 24 (f := .glo "is_checked") rfl)
  obtain ⟨fd_law_deck, E_law_deck⟩ := D.def_ 25 (d := dd "_law_deck" s_law_deck) rfl
  have F_law_deck : Fun K "_law_deck" "_law_deck" s_law_deck (He.fAd K ("_law_deck", none)) fd_law_deck := He5.fun_of E_law_deck
  have m_law_deck : mg "_law_deck" = some (.ref (He.fAd K ("_law_deck", none))) := He.glo_ok X G (D.fact 25 (f := .glo "_law_deck") rfl)
  obtain ⟨fd_law_draw, E_law_draw⟩ := D.def_ 26 (d := dd "_law_draw" s_law_draw) rfl
  have F_law_draw : Fun K "_law_draw" "_law_draw" s_law_draw (He.fAd K ("_law_draw", none)) fd_law_draw := He5.fun_of E_law_draw
  have m_law_draw : mg "_law_draw" = some (.ref (He.fAd K ("_law_draw", none))) := He.glo_ok X G (D.fact 26 (f := .glo "_law_draw") rfl)
  obtain ⟨fd_law_pick, E_law_pick⟩ := D.def_ 27 (d := dd "_law_pick" s_law_pick) rfl
  have F_law_pick : Fun K "_law_pick" "_law_pick" s_law_pick (He.fAd K ("_law_pick", none)) fd_law_pick := He5.fun_of E_law_pick
  have m_law_pick : mg "_law_pick" = some (.ref (He.fAd K ("_law_pick", none))) := He.glo_ok X G (D.fact 27 (f := .glo "_law_pick") rfl)
  obtain ⟨fd_law_name, E_law_name⟩ := D.def_ 28 (d := dd "_law_name" s_law_name) rfl
  have F_law_name : Fun K "_law_name" "_law_name" s_law_name (He.fAd K ("_law_name", none)) fd_law_name := He5.fun_of E_law_name
  have m_law_name : mg "_law_name" = some (.ref (He.fAd K ("_law_name", none))) := He.glo_ok X G (D.fact 28 (f := .glo "_law_name") rfl)
  obtain ⟨fd_law_joints, E_law_joints⟩ := D.def_ 29 (d := dd "_law_joints" s_law_joints) rfl
  have F_law_joints : Fun K "_law_joints" "_law_joints" s_law_joints (He.fAd K ("_law_joints", none)) fd_law_joints := He5.fun_of E_law_joints
  have m_law_joints : mg "_law_joints" = some (.ref (He.fAd K ("_law_joints", none))) := He.glo_ok X G (D.fact 29 (f := .glo "_law_joints") rfl)
  obtain ⟨fd_law_over, E_law_over⟩ := D.def_ 30 (d := dd "_law_over" s_law_over) rfl
  have F_law_over : Fun K "_law_over" "_law_over" s_law_over (He.fAd K ("_law_over", none)) fd_law_over := He5.fun_of E_law_over
  have m_law_over : mg "_law_over" = some (.ref (He.fAd K ("_law_over", none))) := He.glo_ok X G (D.fact 30 (f := .glo "_law_over") rfl)
  obtain ⟨fd_law_checked, E_law_checked⟩ := D.def_ 31 (d := dd "_law_checked" s_law_checked) rfl
  have F_law_checked : Fun K "_law_checked" "_law_checked" s_law_checked (He.fAd K ("_law_checked", none)) fd_law_checked := He5.fun_of E_law_checked
  have m_law_checked : mg "_law_checked" = some (.ref (He.fAd K ("_law_checked", none))) := He.glo_ok X G (D.fact 31 (f := .glo "_law_checked") rfl)
  obtain ⟨fd_law_ends, E_law_ends⟩ := D.def_ 32 (d := dd "_law_ends" s_law_ends) rfl
  have F_law_ends : Fun K "_law_ends" "_law_ends" s_law_ends (He.fAd K ("_law_ends", none)) fd_law_ends := He5.fun_of E_law_ends
  have m_law_ends : mg "_law_ends" = some (.ref (He.fAd K ("_law_ends", none))) := He.glo_ok X G (D.fact 32 (f := .glo "_law_ends") rfl)
  obtain ⟨fd_law_joined, E_law_joined⟩ := D.def_ 33 (d := dd "_law_joined" s_law_joined) rfl
  have F_law_joined : Fun K "_law_joined" "_law_joined" s_law_joined (He.fAd K ("_law_joined", none)) fd_law_joined := He5.fun_of E_law_joined
  have m_law_joined : mg "_law_joined" = some (.ref (He.fAd K ("_law_joined", none))) := He.glo_ok X G (D.fact 33 (f := .glo "_law_joined") rfl)
  obtain ⟨fd_law_put, E_law_put⟩ := D.def_ 34 (d := dd "_law_put" s_law_put) rfl
  have F_law_put : Fun K "_law_put" "_law_put" s_law_put (He.fAd K ("_law_put", none)) fd_law_put := He5.fun_of E_law_put
  have m_law_put : mg "_law_put" = some (.ref (He.fAd K ("_law_put", none))) := He.glo_ok X G (D.fact 34 (f := .glo "_law_put") rfl)
  obtain ⟨fd_law_without, E_law_without⟩ := D.def_ 35 (d := dd "_law_without" s_law_without) rfl
  have F_law_without : Fun K "_law_without" "_law_without" s_law_without (He.fAd K ("_law_without", none)) fd_law_without := He5.fun_of E_law_without
  have m_law_without : mg "_law_without" = some (.ref (He.fAd K ("_law_without", none))) := He.glo_ok X G (D.fact 35 (f := .glo "_law_without") rfl)
  obtain ⟨fd_law_is, E_law_is⟩ := D.def_ 36 (d := dd "_law_is" s_law_is) rfl
  have F_law_is : Fun K "_law_is" "_law_is" s_law_is (He.fAd K ("_law_is", none)) fd_law_is := He5.fun_of E_law_is
  have m_law_is : mg "_law_is" = some (.ref (He.fAd K ("_law_is", none))) := He.glo_ok X G (D.fact 36 (f := .glo "_law_is") rfl)
  obtain ⟨fd_law_are_taken_out, E_law_are_taken_out⟩ := D.def_ 37 (d := dd "_law_are_taken_out" s_law_are_taken_out) rfl
  have F_law_are_taken_out : Fun K "_law_are_taken_out" "_law_are_taken_out" s_law_are_taken_out (He.fAd K ("_law_are_taken_out", none)) fd_law_are_taken_out := He5.fun_of E_law_are_taken_out
  have m_law_are_taken_out : mg "_law_are_taken_out" = some (.ref (He.fAd K ("_law_are_taken_out", none))) := He.glo_ok X G (D.fact 37 (f := .glo "_law_are_taken_out") rfl)
  obtain ⟨fd_law_are_names_put_in, E_law_are_names_put_in⟩ := D.def_ 38 (d := dd "_law_are_names_put_in" s_law_are_names_put_in) rfl
  have F_law_are_names_put_in : Fun K "_law_are_names_put_in" "_law_are_names_put_in" s_law_are_names_put_in (He.fAd K ("_law_are_names_put_in", none)) fd_law_are_names_put_in := He5.fun_of E_law_are_names_put_in
  have m_law_are_names_put_in : mg "_law_are_names_put_in" = some (.ref (He.fAd K ("_law_are_names_put_in", none))) := He.glo_ok X G (D.fact 38 (f := .glo "_law_are_names_put_in") rfl)
  obtain ⟨fd_law_are_joints_put_in, E_law_are_joints_put_in⟩ := D.def_ 39 (d := dd "_law_are_joints_put_in" s_law_are_joints_put_in) rfl
  have F_law_are_joints_put_in : Fun K "_law_are_joints_put_in" "_law_are_joints_put_in" s_law_are_joints_put_in (He.fAd K ("_law_are_joints_put_in", none)) fd_law_are_joints_put_in := He5.fun_of E_law_are_joints_put_in
  have m_law_are_joints_put_in : mg "_law_are_joints_put_in" = some (.ref (He.fAd K ("_law_are_joints_put_in", none))) := He.glo_ok X G (D.fact 39 (f := .glo "_law_are_joints_put_in") rfl)
  obtain ⟨fd_law_is_signal_put_in, E_law_is_signal_put_in⟩ := D.def_ 40 (d := dd "_law_is_signal_put_in" s_law_is_signal_put_in) rfl
  have F_law_is_signal_put_in : Fun K "_law_is_signal_put_in" "_law_is_signal_put_in" s_law_is_signal_put_in (He.fAd K ("_law_is_signal_put_in", none)) fd_law_is_signal_put_in := He5.fun_of E_law_is_signal_put_in
  have m_law_is_signal_put_in : mg "_law_is_signal_put_in" = some (.ref (He.fAd K ("_law_is_signal_put_in", none))) := He.glo_ok X G (D.fact 40 (f := .glo "_law_is_signal_put_in") rfl)
  obtain ⟨fd_law_are_put_in, E_law_are_put_in⟩ := D.def_ 41 (d := dd "_law_are_put_in" s_law_are_put_in) rfl
  have F_law_are_put_in : Fun K "_law_are_put_in" "_law_are_put_in" s_law_are_put_in (He.fAd K ("_law_are_put_in", none)) fd_law_are_put_in := He5.fun_of E_law_are_put_in
  have m_law_are_put_in : mg "_law_are_put_in" = some (.ref (He.fAd K ("_law_are_put_in", none))) := He.glo_ok X G (D.fact 41 (f := .glo "_law_are_put_in") rfl)
  obtain ⟨fd_law, E_law⟩ := D.def_ 42 (d := dd "law" s_law) rfl
  have F_law : Fun K "law" "law" s_law (He.fAd K ("law", none)) fd_law := He5.fun_of E_law
  have m_law : mg "law" = some (.ref (He.fAd K ("law", none))) := He.glo_ok X G (D.fact 42 (f := .glo "law") rfl)
  have m_KINDS : mg "KINDS" = some (.ref (He.ga K "KINDS")) := He.glo_ok X G (D.fact 43 (f := .glo "KINDS") rfl)
  have m_OVERLAP_KINDS : mg "OVERLAP_KINDS" = some (.ref (He.ga K "OVERLAP_KINDS")) := He.glo_ok X G (D.fact 44 (f := .glo "OVERLAP_KINDS") rfl)
  have m_ENDS : mg "ENDS" = some (.ref (He.ga K "ENDS")) := He.glo_ok X G (D.fact 45 (f := .glo "ENDS") rfl)
  have m_PATHS : mg "PATHS" = some (.ref (He.ga K "PATHS")) := He.glo_ok X G (D.fact 46 (f := .glo "PATHS") rfl)
  obtain ⟨tl, m_LETTERS⟩ := He.str_ok X G (D.fact 47 (f := .str "LETTERS" lettersS) rfl)
  obtain ⟨td, m_LD⟩ := He.str_ok X G (D.fact 48 (f := .str "LETTERS_AND_DIGITS" lettersDS) rfl)
  obtain ⟨t8, m_LONGEST⟩ := He.int_ok X G (D.fact 49 (f := .int "LONGEST_NAME" 8) rfl)
  obtain ⟨t3, m_GREATEST⟩ := He.int_ok X G (D.fact 50 (f := .int "GREATEST_END" 3) rfl)
  have z_len : mg "len" = none := He.free_ok X G (D.fact 51 (f := .free "len") rfl)
  have z_isinstance : mg "isinstance" = none := He.free_ok X G (D.fact 52 (f := .free "isinstance") rfl)
  have z_all : mg "all" = none := He.free_ok X G (D.fact 53 (f := .free "all") rfl)
  have z_range : mg "range" = none := He.free_ok X G (D.fact 54 (f := .free "range") rfl)
  have z_str : mg "str" = none := He.free_ok X G (D.fact 55 (f := .free "str") rfl)
  have z_list : mg "list" = none := He.free_ok X G (D.fact 56 (f := .free "list") rfl)
  have z_tuple : mg "tuple" = none := He.free_ok X G (D.fact 57 (f := .free "tuple") rfl)
  have z_int : mg "int" = none := He.free_ok X G (D.fact 58 (f := .free "int") rfl)
  have z_bool : mg "bool" = none := He.free_ok X G (D.fact 59 (f := .free "bool") rfl)
  have z_max : mg "max" = none := He.free_ok X G (D.fact 60 (f := .free "max") rfl)
  have z_enumerate : mg "enumerate" = none := He.free_ok X G (D.fact 61 (f := .free "enumerate") rfl)
  have z_set : mg "set" = none := He.free_ok X G (D.fact 62 (f := .free "set") rfl)
  have z_sorted : mg "sorted" = none := He.free_ok X G (D.fact 63 (f := .free "sorted") rfl)
  have z_repr : mg "repr" = none := He.free_ok X G (D.fact 64 (f := .free "repr") rfl)
  have hex : (He.tupB K "KINDS" [.str "plain", .str "points", .str "crossing"] && (He.tupB K "OVERLAP_KINDS" [.str "plain", .str "crossing"] && (wdB K (He.ga K "ENDS") endsL && wdB K (He.ga K "PATHS") pathsL))) = true := c.more
  obtain ⟨x1, hex⟩ := Bool.and_eq_true_iff.mp hex
  obtain ⟨x2, hex⟩ := Bool.and_eq_true_iff.mp hex
  obtain ⟨x3, x4⟩ := Bool.and_eq_true_iff.mp hex
  have T : Txt K mg w tl td t8 t3 (He.ga K "KINDS") (He.ga K "OVERLAP_KINDS") (He.ga K "ENDS") (He.ga K "PATHS") := { len := z_len, isinstance := z_isinstance, all := z_all, range := z_range, str := z_str, list := z_list, tuple := z_tuple, int := z_int, bool := z_bool, max := z_max, enumerate := z_enumerate, set := z_set, sorted := z_sorted, repr := z_repr, m_LETTERS := m_LETTERS, m_LETTERS_AND_DIGITS := m_LD, m_LONGEST_NAME := m_LONGEST, m_GREATEST_END := m_GREATEST, m_KINDS := m_KINDS, r_KINDS := fun H => .ktup (He.tupB_ok x1 H) (.cons (.str _) (.cons (.str _) (.cons (.str _) .nil))), m_OVERLAP_KINDS := m_OVERLAP_KINDS, r_OVERLAP_KINDS := fun H => .ktup (He.tupB_ok x2 H) (.cons (.str _) (.cons (.str _) .nil)), m_ENDS := m_ENDS, w_ENDS := wdict_of x3 (He.SaysT.tab c.t 0), m_PATHS := m_PATHS, w_PATHS := wdict_of x4 (He.SaysT.tab c.t 1) }
  have e := hfa.symm.trans m_law
  cases e
  have hb := FunD.bindsA (ps := ["script"]) E_law fun _ _ _ _ _ _ us hl => match us, hl with | [_], _ => rfl
  refine ⟨fd_law, [He.cT K ("is_name", none), He.cT K ("are_items", none)], spL K (He.cT K ("is_name", none)).2 (He.cT K ("are_items", none)).2, ⟨?_, ?_, ?_⟩, fun s v => hb s [v] rfl, ?_, ?_⟩
  · intro p hp
    simp only [List.mem_cons, List.not_mem_nil, or_false] at hp
    rcases hp with rfl | rfl
    · exact c.empty _ (.head _)
    · exact c.empty _ (.tail _ (.head _))
  · intro p hp
    simp only [List.mem_cons, List.not_mem_nil, or_false] at hp
    rcases hp with rfl | rfl
    · exact c.out _ (.head _)
    · exact c.out _ (.tail _ (.head _))
  · intro p hp
    simp only [List.mem_cons, List.not_mem_nil, or_false] at hp
    rcases hp with rfl | rfl
    · exact PySem.W.codeHd_of_K X (c.hd _ (.head _))
    · exact PySem.W.codeHd_of_K X (c.hd _ (.tail _ (.head _)))
  · intro H a ns hl _ hT hS
    exact ⟨a, ns, rfl, hl, hS, hT _ (.head _), hT _ (.tail _ (.head _)), fun _ => rfl⟩
  · intro base _ _ TB
    have TB1 : GxR.TabB base mg (He.codeOf K ("is_name", none)) (He.cT K ("is_name", none)).2 := let z := TB _ (.head _); ⟨z.code, z.bm, z.gP⟩
    have TB2 : GxR.TabB base mg (He.codeOf K ("are_items", none)) (He.cT K ("are_items", none)).2 := let z := TB _ (.tail _ (.head _)); ⟨z.code, z.bm, z.gP⟩
    obtain ⟨Ok, hOkd⟩ : ∃ Ok : M → Prop, Ok = fun m => Tab m (He.cT K ("is_name", none)).2 ∧ Tab m (He.cT K ("are_items", none)).2 := ⟨_, rfl⟩
    have Ok1 : ∀ m : M, Ok m → Tab m (He.cT K ("is_name", none)).2 := fun m z => by rw [hOkd] at z; exact z.1
    have Ok2 : ∀ m : M, Ok m → Tab m (He.cT K ("are_items", none)).2 := fun m z => by rw [hOkd] at z; exact z.2
    have hOk : ∀ a b : M, Ok a → b.gh = a.gh → Ok b := fun a b z e => by rw [hOkd] at z ⊢; exact ⟨z.1.gh e, z.2.gh e⟩
    have hT : ∀ m : M, Tab m (He.cT K ("is_name", none)).2 → Tab m (He.cT K ("are_items", none)).2 → Ok m := fun m z1 z2 => by rw [hOkd]; exact ⟨z1, z2⟩
    have c1 := c_is_integer (P := l.prog) (w := w) (base := base) T Ok hOk F_is_integer m_is_integer
    have c2 := c_is_tuple_of (P := l.prog) (w := w) (base := base) T Ok hOk F_is_tuple_of m_is_tuple_of
    have c3 := c_is_name (P := l.prog) (w := w) (base := base) T Ok hOk F_is_name m_is_name TB1 Ok1
    have c4 := c_is_end_number T Ok hOk F_is_end_number m_is_end_number c1
    have c5 := c_is_end T Ok hOk F_is_end m_is_end c2 c3 c4
    have c6 := c_is_step T Ok hOk F_is_step m_is_step c2 c5 c4
    have c7 := c_is_stretch T Ok hOk F_is_stretch m_is_stretch c2 c3
    have c8 := c_is_joint T Ok hOk F_is_joint m_is_joint c2 c5
    have c9 := c_is_gate T Ok hOk F_is_gate m_is_gate c2 c3 c5
    have i6 := c_are_items T Ok hOk F_are_items m_are_items (c6.at m_is_step) TB2 Ok2
    have c10 := c_is_overlap T Ok hOk F_is_overlap m_is_overlap m_is_step i6
    have c11 := c_is_signal T Ok hOk F_is_signal m_is_signal c2 c9 c10
    have i7 := c_are_items T Ok hOk F_are_items m_are_items (c7.at m_is_stretch) TB2 Ok2
    have i8 := c_are_items T Ok hOk F_are_items m_are_items (c8.at m_is_joint) TB2 Ok2
    have i9 := c_are_items T Ok hOk F_are_items m_are_items (c9.at m_is_gate) TB2 Ok2
    have i11 := c_are_items T Ok hOk F_are_items m_are_items (c11.at m_is_signal) TB2 Ok2
    have q_is_plan := c_is_plan T Ok hOk F_is_plan m_is_plan c2 m_is_stretch i7 m_is_joint i8 m_is_gate i9 m_is_signal i11
    have q_ways_of := c_ways_of (P := l.prog) (w := w) (K := K) (mg := mg) (base := base) T Ok hOk F_ways_of m_ways_of 
    have q_kinds_of := c_kinds_of (P := l.prog) (w := w) (K := K) (mg := mg) (base := base) T Ok hOk F_kinds_of m_kinds_of 
    have q_partners_of := c_partners_of (P := l.prog) (w := w) (K := K) (mg := mg) (base := base) T Ok hOk F_partners_of m_partners_of 
    have q_end_exists := c_end_exists (P := l.prog) (w := w) (K := K) (mg := mg) (base := base) T Ok hOk F_end_exists m_end_exists 
    have q_repeated_name := c_repeated_name (P := l.prog) (w := w) (K := K) (mg := mg) (base := base) T Ok hOk F_repeated_name m_repeated_name 
    have q_missing_end := c_missing_end (P := l.prog) (w := w) (K := K) (mg := mg) (base := base) T Ok hOk F_missing_end m_missing_end q_kinds_of q_end_exists
    have q_wrong_joint := c_wrong_joint (P := l.prog) (w := w) (K := K) (mg := mg) (base := base) T Ok hOk F_wrong_joint m_wrong_joint 
    have q_wrong_place := c_wrong_place (P := l.prog) (w := w) (K := K) (mg := mg) (base := base) T Ok hOk F_wrong_place m_wrong_place q_kinds_of q_partners_of
    have q_fits_overlap := c_fits_overlap (P := l.prog) (w := w) (K := K) (mg := mg) (base := base) T Ok hOk F_fits_overlap m_fits_overlap q_ways_of
    have q_wrong_overlap := c_wrong_overlap (P := l.prog) (w := w) (K := K) (mg := mg) (base := base) T Ok hOk F_wrong_overlap m_wrong_overlap q_kinds_of q_partners_of q_fits_overlap
    have q_fault := c_fault (P := l.prog) (w := w) (K := K) (mg := mg) (base := base) T Ok hOk F_fault m_fault q_is_plan q_repeated_name q_missing_end q_wrong_joint q_wrong_place q_wrong_overlap
    have q_is_checked := c_is_checked (P := l.prog) (w := w) (K := K) (mg := mg) (base := base) T Ok hOk F_is_checked m_is_checked q_fault
    have q_law_deck := c_law_deck (P := l.prog) (w := w) (K := K) (mg := mg) (base := base) T Ok hOk F_law_deck m_law_deck 
    have q_law_draw := PL.DCal.draw (c_law_draw (P := l.prog) (w := w) (K := K) (mg := mg) (base := base) T Ok hOk F_law_draw m_law_draw )
    have q_law_pick := c_law_pick (P := l.prog) (w := w) (K := K) (mg := mg) (base := base) T Ok hOk F_law_pick m_law_pick q_law_draw
    have q_law_name := c_law_name (P := l.prog) (w := w) (K := K) (mg := mg) (base := base) T Ok hOk F_law_name m_law_name q_law_draw q_law_pick
    have q_law_joints := c_law_joints (P := l.prog) (w := w) (K := K) (mg := mg) (base := base) T Ok hOk F_law_joints m_law_joints q_law_draw q_law_pick
    have q_law_over := c_law_over (P := l.prog) (w := w) (K := K) (mg := mg) (base := base) T Ok hOk F_law_over m_law_over q_law_draw
    have q_law_checked := c_law_checked (P := l.prog) (w := w) (K := K) (mg := mg) (base := base) T Ok hOk F_law_checked m_law_checked q_law_draw q_law_pick q_law_name q_law_over q_law_joints
    have q_law_ends := c_law_ends (P := l.prog) (w := w) (K := K) (mg := mg) (base := base) T Ok hOk F_law_ends m_law_ends 
    have q_law_joined := c_law_joined (P := l.prog) (w := w) (K := K) (mg := mg) (base := base) T Ok hOk F_law_joined m_law_joined 
    have q_law_put := c_law_put (P := l.prog) (w := w) (K := K) (mg := mg) (base := base) T Ok hOk F_law_put m_law_put 
    have q_law_without := c_law_without (P := l.prog) (w := w) (K := K) (mg := mg) (base := base) T Ok hOk F_law_without m_law_without 
    have q_law_is := c_law_is (P := l.prog) (w := w) (K := K) (mg := mg) (base := base) T Ok hOk F_law_is m_law_is q_fault q_is_checked
    have q_law_are_taken_out := c_law_are_taken_out (P := l.prog) (w := w) (K := K) (mg := mg) (base := base) T Ok hOk F_law_are_taken_out m_law_are_taken_out q_law_is q_law_without
    have q_law_are_names_put_in := c_law_are_names_put_in (P := l.prog) (w := w) (K := K) (mg := mg) (base := base) T Ok hOk F_law_are_names_put_in m_law_are_names_put_in q_law_is q_law_put q_law_draw q_law_pick
    have q_law_are_joints_put_in := c_law_are_joints_put_in (P := l.prog) (w := w) (K := K) (mg := mg) (base := base) T Ok hOk F_law_are_joints_put_in m_law_are_joints_put_in q_law_is q_law_put q_law_draw q_law_pick q_law_ends
    have q_law_is_signal_put_in := c_law_is_signal_put_in (P := l.prog) (w := w) (K := K) (mg := mg) (base := base) T Ok hOk F_law_is_signal_put_in m_law_is_signal_put_in q_law_is q_law_put q_law_draw q_law_pick q_law_ends
    have q_law_are_put_in := c_law_are_put_in (P := l.prog) (w := w) (K := K) (mg := mg) (base := base) T Ok hOk F_law_are_put_in m_law_are_put_in q_law_is q_law_put q_law_draw q_law_ends q_law_joined q_law_is_signal_put_in
    exact FnOkG_imp (c_law T Ok hOk F_law hT q_law_deck q_law_checked q_law_name q_law_is q_law_are_taken_out q_law_are_names_put_in q_law_are_joints_put_in q_law_are_put_in) fun vs H Q E z => law_up z
end PR

open PySem PySem.W PySem.Calls PyProof.Rows
set_option maxRecDepth 100000 in
set_option maxHeartbeats 0 in
theorem PySem.Challenge.cw_clearline_k14_whole_what_can_be_put_in_o_holds : PySem.Challenge.rw_clearline_k14_whole_what_can_be_put_in_o.Holds := by
  w_on; o_law
  refine HandSHeadRun.head_any (r := OpenLaw.row PySem.Challenge.rw_clearline_k14_whole_what_can_be_put_in_o) (q := view (OpenLaw.row PySem.Challenge.rw_clearline_k14_whole_what_can_be_put_in_o).prog [58]) (H := PR.hkL) (ob := PR.obL) (M := 3000) (loose := PR.looseL) (d := HandSHeadRun.topDef (OpenLaw.row PySem.Challenge.rw_clearline_k14_whole_what_can_be_put_in_o).prog 58) (kwd := []) PR.obL_eq
    (by kernel_rfl) (fun s => by kernel_rfl) PR.runL (by kernel_rfl) (by kernel_rfl) (by kernel_rfl) (by rfl) (by first | assumption | decide +kernel) (by decide +kernel) ⟨rfl, rfl, rfl, rfl, rfl, by decide +kernel⟩ ?hw ?hc
  case hw => w_witness2
  case hc =>
    refine DL.walk_ofG (l := PySem.Challenge.rw_clearline_k14_whole_what_can_be_put_in_o) (n := 63) (k := 18) (x := "script") rfl (by decide) (by kernel_rfl) ⟨rfl, by decide, by decide⟩ ?F
    intro w mg fa h Y G hmg0
    obtain ⟨K, KX, c⟩ := Y
    have hmg : mg ("law" : PySem.Str) = some (.ref fa) := by
      have e : (HandSHeadRun.topDef (OpenLaw.row PySem.Challenge.rw_clearline_k14_whole_what_can_be_put_in_o).prog 58).name = ("law" : PySem.Str) := by kernel_rfl
      rw [← e]
      exact hmg0
    exact ⟨K, KX, PR.factsL KX G hmg c⟩
