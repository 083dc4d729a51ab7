import PyProof.Rows.All
import Wide.All
import OpenK.AllK
import Wide.FinOn
import HandS.AnyAll
import HandS.GenOver
import HandS.GenBody
import HandS.ForMost
import HandS.Codes
import HandS.IsInst
import HandS.FStr
import HandS.DictTup
import HandS.TupAny
import HandS.Deep
import HandS.CallLocal
import HandS.Remove
import KE.DataFind
import HandS.Style
import KE.GoesMore
import PyProof.Draws
import KE.KNestM
import HandS.Head2
import HandS.HeadEnd
import HandS.HeadHook4
import HandS.HeadNt
import HandS.HeadWalk
import HandS.EndTab
import PySem.Challenge.RW_clearline_k02_texts_of_plans
set_option Elab.async false
set_option linter.all false
set_option maxRecDepth 100000
set_option maxHeartbeats 0
namespace GA
open PySem PySem.Spec PyProof.Rows L2 GxR GenW

/-- the context of a generator expression's frame -/
def cxG (X : Cx) (N : List Str) (A : Around) (cenv : Env) (s : Shared) (H : Hp) (ex : List Addr) : Cx where
  prog := X.prog
  w := X.w
  K := X.K
  mg := X.mg
  base := X.base
  A := A
  N := N
  s_0 := s
  H_0 := H
  env := cenv
  outer := X.stack
  stack := cenv :: X.stack
  ex := ex
  calm := true
  fn := fun _ => false
  pn := []
  xe := fun _ _ => False

theorem bareSet {s : Shared} {g : Nat} {x : GenState} (h : AllBare s.gens) (hx : x.bare = true) : AllBare (s.setGen g x).gens := fun y hy => by
  obtain ⟨i, hi, e⟩ := Array.mem_iff_getElem.mp hy
  have hi' : i < s.gens.size := by simpa [Shared.setGen] using hi
  have e2 : (s.gens.setIfInBounds g x)[i]? = some y := by
    have q : (s.setGen g x).gens[i]? = some y := by rw [Array.getElem?_eq_getElem hi, e]
    exact q
  rw [Array.getElem?_setIfInBounds] at e2
  split at e2
  · split at e2
    · cases e2; exact hx
    · cases e2
  · exact h y (Array.mem_of_getElem? e2)

theorem Inv.sim {X : Cx} {pins : List (Addr × Obj)} {σ : L2.St} {H : Hp} {s s' : Shared} (I : Inv X pins σ H s) (hh : s'.heap = s.heap) (ho : s'.os = s.os) (hb : AllBare s'.gens) : Inv X pins σ H s' :=
  ⟨I.ok, ho.trans I.os, hb, by rw [hh]; exact I.base, by rw [hh]; exact I.loc, by rw [hh]; exact I.cell, I.free, I.freeC, by rw [hh]; exact I.pin, by rw [hh]; exact I.hok, I.len⟩

/-- the whole of the walk: what is true at turn i (m: the turns that may be left), what each turn does -/
structure Plan (J : It) (g : TG) (te : TE) (W : Nat → Nat → L2.St → Hp → Prop) (Q : Bool → Hp → Prop) : Prop where
  turn : ∀ i m σ H, W i m σ H → (J.stop i H ∧ Q true H) ∨ (J.go i H ∧ 0 < m ∧ ∀ v H', J.yld i H v H' → g v σ H' fun σ2 H2 => te σ2 H2 fun r H3 => ∃ b, r = .bl b ∧ if b = true then ∃ m', m' < m ∧ W (i + 1) m' σ2 H3 else Q false H3)

/-- the run at rest: between two turns -/
def Rest (Xg : Cx) (a : Addr) (go : Obj) (fp : List Addr) (tn : Nat → Heap → Prop) (W : Nat → Nat → L2.St → Hp → Prop) (i m : Nat) (s : Shared) : Prop :=
  ∃ σ H, Inv Xg [(a, go)] σ H s ∧ tn i s.heap ∧ (∀ b ∈ fp, FpOk Xg [(a, go)] H b) ∧ W i m σ H
def Ended (Xg : Cx) (a : Addr) (go : Obj) (Q : Bool → Hp → Prop) (k : Bool) (s : Shared) : Prop :=
  ∃ σ H, Inv Xg [(a, go)] σ H s ∧ Q k H

def endG (Xg : Cx) (a : Addr) (go : Obj) (Q : Bool → Hp → Prop) : GenEnd := fun _ _ r s => r = .ok .next ∧ Ended Xg a go Q true s
def protoG (Xg : Cx) (a : Addr) (go : Obj) (Q : Bool → Hp → Prop) : Protocol := fun _ _ v s kap =>
  ∃ b, v = .bool b ∧ (∃ σ H, Inv Xg [(a, go)] σ H s) ∧ (b = false → Ended Xg a go Q false s) ∧
    (b = true → ∀ s'' : Shared, s''.heap = s.heap → s''.os = s.os → AllBare s''.gens → kap (.send .none) s'')

section
variable {As : Around} {elt tg iter : Expr} {scope : Scope} {pos : Pos} {it a : Addr} {go : Obj} {fp : List Addr} {tn : Nat → Heap → Prop} {J : It} {g : TG} {te : TE} {W : Nat → Nat → L2.St → Hp → Prop} {Q : Bool → Hp → Prop} {Xg : Cx}

abbrev gexp (elt tg iter : Expr) (scope : Scope) (pos : Pos) : Expr := .GeneratorExp elt [⟨tg, iter, [], 0⟩] scope pos
abbrev loopC (elt tg iter : Expr) (scope : Scope) (pos : Pos) (it : Addr) (env : Env) : Code := .compLoop (gexp elt tg iter scope pos) 0 (.ref it) .none env

theorem seg_turn (hXA : Xg.A = As.over (loopC elt tg iter scope pos it Xg.env) []) (hcalm : Xg.calm = true) (hpn : Xg.pn = [])
    (hco : Xg.env.scope.isCoroutine = false)
    (T : Turn Xg.prog Xg.w Xg.K tg J fp it tn) (hg : PG Xg tg g) (he : PE Xg elt te) (hP : Plan J g te W Q) (hxe : Xg.xe = fun _ _ => False)
    (n : Nat) (ih : ∀ n', n = n' + 1 → ∀ (m i : Nat) (s₀ s : Shared), m ≤ n' → Rest Xg a go fp tn W i m s →
      Seg (model Xg.prog Xg.w) As (endG Xg a go Q) (protoG Xg a go Q) n' s₀ (loopC elt tg iter scope pos it Xg.env) ((model Xg.prog Xg.w).den (loopC elt tg iter scope pos it Xg.env)) [] s) :
    ∀ (m i : Nat) (s₀ s : Shared), m ≤ n → Rest Xg a go fp tn W i m s →
      Seg (model Xg.prog Xg.w) As (endG Xg a go Q) (protoG Xg a go Q) n s₀ (loopC elt tg iter scope pos it Xg.env) ((model Xg.prog Xg.w).den (loopC elt tg iter scope pos it Xg.env)) [] s := by
  intro m i s₀ s hmn hR
  obtain ⟨σ, H, I, st, fpk, w⟩ := hR
  have noX : ∀ {α : Type} {t : Sem α} {Qa : α → Shared → Prop} {E : Value → Shared → Prop} {s : Shared}, wpAny (model Xg.prog Xg.w) Xg.A t Qa Xg.xe s → wpAny (model Xg.prog Xg.w) (As.over (loopC elt tg iter scope pos it Xg.env) []) t Qa E s := fun h => by
    rw [hxe, hXA] at h
    exact wpAny_mono h (fun _ _ z => z) fun _ _ z => z.elim
  show Seg _ As _ _ n s₀ _ ((compTurn (gexp elt tg iter scope pos) 0 (.ref it) .none Xg.env).onRaise (leaving Xg.env)) [] s
  rw [compTurn_gen, Sem.onRaise_eq_wrap]
  refine seg_bind_wrap (wpAny_standAt ?_)
  rcases hP.turn i m σ H w with ⟨stop, q⟩ | ⟨goi, hm, step⟩
  · refine seg_bind_wrap (noX (thn (T.done Xg rfl rfl rfl hcalm i _ s σ H Xg.xe I fpk st stop) fun r s1 ⟨hr, I1⟩ => ?_))
    subst hr
    exact seg_end (.ok .next) ⟨rfl, σ, H, I1, q⟩
  · refine seg_bind_wrap (noX (thn (T.item Xg rfl rfl rfl hcalm i _ s σ H Xg.xe I fpk st goi) fun r s1 ⟨u, hr, h4⟩ => ?_))
    subst hr
    refine seg_bind_wrap (noX (thn h4 fun _ s5 ⟨v, H5, I5, r5, y5, st5, fr5⟩ => ?_))
    have I5' := I5.pinned (fun b hb => ⟨fr5 b hb, (fpk b hb).2⟩) (T.obj _ _ st5)
    refine seg_bind_wrap (noX (thn (hg.run _ s5 σ H5 v u _ I5' r5 (step v H5 y5)) fun _ s6 ⟨σ6, H6, I6, q6⟩ => ?_))
    refine seg_bind_wrap ?_
    simp only [List.forIn_nil]
    refine wpAny_pure ?_
    simp only [if_true]
    have hy : ∀ v, yieldOut Xg.env v = yieldValue v := fun v => by simp only [yieldOut, hco, Bool.false_eq_true, if_false]
    simp only [hy]
    rw [Sem.bind_eq_wrap', Sem.bind_eq_wrap', Sem.wrap_wrap, Sem.wrap_wrap]
    refine seg_wrap (noX (thn (he.run _ s6 σ6 H6 _ I6 q6) fun y s7 ⟨x7, H7, I7, r7, b, e7, q7⟩ => ?_))
    subst e7
    cases r7
    obtain ⟨n', rfl⟩ : ∃ n', n = n' + 1 := ⟨n - 1, by omega⟩
    refine seg_at (seg_yield rfl rfl rfl ⟨b, rfl, ⟨σ6, H7, I7.unpinned⟩, fun hb => ?_, fun hb s'' hh ho hbare => ?_⟩)
    · subst hb
      exact ⟨σ6, H7, I7.unpinned, q7⟩
    · subst hb
      obtain ⟨m', hm', w7⟩ := q7
      refine seg_again rfl (ih n' rfl m' (i + 1) s'' s'' (by omega) ⟨σ6, H7, Inv.sim I7.unpinned hh ho hbare, ?_, fun b hb => ⟨?_, (fpk b hb).2⟩, w7⟩)
      · rw [hh]
        exact T.keep _ _ _ st5 fun b hb o e => (I7.pin (b, o) (List.mem_append_right _ (List.mem_append_right _ (mem_pinsAt hb e)))).1
      · obtain ⟨o, e, d⟩ := T.obj _ _ st5 b hb
        exact (I7.pin (b, o) (List.mem_append_right _ (List.mem_append_right _ (mem_pinsAt hb e)))).2.1

theorem seg_loop (hXA : Xg.A = As.over (loopC elt tg iter scope pos it Xg.env) []) (hcalm : Xg.calm = true) (hpn : Xg.pn = [])
    (hco : Xg.env.scope.isCoroutine = false)
    (T : Turn Xg.prog Xg.w Xg.K tg J fp it tn) (hg : PG Xg tg g) (he : PE Xg elt te) (hP : Plan J g te W Q) (hxe : Xg.xe = fun _ _ => False) :
    ∀ (n m i : Nat) (s₀ s : Shared), m ≤ n → Rest Xg a go fp tn W i m s →
      Seg (model Xg.prog Xg.w) As (endG Xg a go Q) (protoG Xg a go Q) n s₀ (loopC elt tg iter scope pos it Xg.env) ((model Xg.prog Xg.w).den (loopC elt tg iter scope pos it Xg.env)) [] s := by
  intro n
  induction n with
  | zero => exact seg_turn hXA hcalm hpn hco T hg he hP hxe 0 fun n' e => by cases e
  | succ n ih => exact seg_turn hXA hcalm hpn hco T hg he hP hxe (n + 1) fun n' e => by cases e; exact ih

theorem seg_start (hXA : Xg.A = As.over (loopC elt tg iter scope pos it Xg.env) []) (hcalm : Xg.calm = true) (hpn : Xg.pn = [])
    (hco : Xg.env.scope.isCoroutine = false)
    (T : Turn Xg.prog Xg.w Xg.K tg J fp it tn) (hg : PG Xg tg g) (he : PE Xg elt te) (hP : Plan J g te W Q) (hxe : Xg.xe = fun _ _ => False)
    (n m : Nat) (s₀ s : Shared) (hmn : m ≤ n) (hR : Rest Xg a go fp tn W 0 m s) :
      Seg (model Xg.prog Xg.w) As (endG Xg a go Q) (protoG Xg a go Q) n s₀ (.compStart (gexp elt tg iter scope pos) 0 (.ref it) .none Xg.env)
        ((model Xg.prog Xg.w).den (.compStart (gexp elt tg iter scope pos) 0 (.ref it) .none Xg.env)) [] s := by
  have loop := seg_loop hXA hcalm hpn hco T hg he hP hxe n m 0 s₀ s hmn hR
  obtain ⟨σ, H, I, st, fpk, w⟩ := hR
  show Seg _ As _ _ _ s₀ _ ((compStart (gexp elt tg iter scope pos) 0 (.ref it) .none Xg.env).onRaise (leaving Xg.env)) [] s
  unfold compStart
  rw [Sem.onRaise_eq_wrap]
  show Seg _ As _ _ _ s₀ _ ((ask >>= _).wrap _ _ _ _) [] s
  refine seg_bind_wrap (wpAny_askSetting ?_)
  split
  · exact seg_again rfl loop
  · first
      | exact seg_bind_wrap (wpAny_rule (seg_bind_wrap (wpAny_standAt (seg_bind_wrap (T.self _ 0 s _ _ st (seg_again rfl loop))))))
      | (refine seg_bind_wrap (wpAny_rule ?_); show Seg _ As _ _ _ s₀ _ ((standAt iter.pos >>= _).wrap _ _ _ _) [] s; exact seg_bind_wrap (wpAny_standAt (seg_bind_wrap (T.self _ 0 s _ _ st (seg_again rfl loop)))))
end

/-! ### the consumer: all -/
section
variable {A : Around} {E : Value → Shared → Prop}
theorem all_loop {P : Program} {w : World} {Xg : Cx} {a : Addr} {go : Obj} {g : Nat} {Q : Bool → Hp → Prop} {R : Result → Shared → Prop} (hXp : Xg.prog = P) (hXw : Xg.w = w) (hpn : Xg.pn = []) (hh : A.handled = none) (hroom : A.depth < recursionLimit)
    (hgo : ∀ h : Heap, h.get? a = some go → h.IsGen a g)
    (hend : ∀ k s', Ended Xg a go Q k s' → R (.ok (.ret (.bool k))) s') :
    ∀ (n : Nat) (s : Shared), (∃ σ H, Inv Xg [(a, go)] σ H s) →
      (∃ gs, s.gens[g]? = some gs ∧ ∀ s'' : Shared, s''.heap = s.heap → s''.os = s.os → AllBare s''.gens → gs.Goes (model P w) A.in1.in1 (endG Xg a go Q) (protoG Xg a go Q) n (.send .none) s'') →
      codeAny (model P w) A (.builtin "all.loop" ⟨[.ref a], []⟩) R s := by
  subst hXp hXw
  intro n
  have pinA : ∀ {σ : L2.St} {H : Hp} {s : Shared}, Inv Xg [(a, go)] σ H s → s.heap.get? a = some go := fun I => (I.pin (a, go) (List.mem_append_right _ List.mem_cons_self)).1
  have step : ∀ (n : Nat) (s : Shared), (∃ σ H, Inv Xg [(a, go)] σ H s) →
      (∃ gs, s.gens[g]? = some gs ∧ ∀ s'' : Shared, s''.heap = s.heap → s''.os = s.os → AllBare s''.gens → gs.Goes (model Xg.prog Xg.w) A.in1.in1 (endG Xg a go Q) (protoG Xg a go Q) n (.send .none) s'') →
      (∀ n', n = n' + 1 → ∀ s' gs' , (∃ σ H, Inv Xg [(a, go)] σ H s') → s'.gens[g]? = some gs' → (∀ s'' : Shared, s''.heap = s'.heap → s''.os = s'.os → AllBare s''.gens → gs'.Goes (model Xg.prog Xg.w) A.in1.in1 (endG Xg a go Q) (protoG Xg a go Q) n' (.send .none) s'') → codeAny (model Xg.prog Xg.w) A (.builtin "all.loop" ⟨[.ref a], []⟩) R s') →
      codeAny (model Xg.prog Xg.w) A (.builtin "all.loop" ⟨[.ref a], []⟩) R s := by
    intro n s ⟨σ, H, I⟩ ⟨gs, hgs, hgoes⟩ again
    have hgl : g < s.gens.size := (Array.getElem?_eq_some_iff.mp hgs).1
    refine codeAny_builtin F.entry_all_loop ?_
    rw [Around.under_plainId F.plain_all_loop _]
    show wpAny _ A.in1 (pyNext (.ref a) >>= _) _ _ s
    refine wpAny_bind (wpAny_gsz (n := g + 1) hgl (wpAny_pyNext_genexpQ (P := fun _ _ s₁ => Ended Xg a go Q true s₁) (A := A.in1) hh I.nolimit hroom (hgo _ (pinA I)) hgs
      (hgoes (s.setGen g .running) rfl rfl (bareSet I.bare rfl)) (fun v s₁ gs' hb hv => ?_) (fun s₁ hp h' hk => ?_)))
    · intro hsz
      obtain ⟨b, rfl, ⟨σ1, H1, I1⟩, hF, hT⟩ := hv
      refine wpAny_bind (wpAny_holding (wpAny_truthy_bool ?_))
      refine wpAny_bind (wpAny_letGo ?_)
      have hbare : AllBare (s₁.setGen g gs').gens := bareSet I1.bare hb
      cases b with
      | true =>
        simp only [if_true]
        refine wpAny_pure ⟨plainId_quiet F.plain_all_loop _, ?_⟩
        have hk := hT rfl
        cases n with
        | zero => exact False.elim (hk s₁ rfl rfl I1.bare)
        | succ n' =>
          refine again n' rfl (s₁.setGen g gs') gs' ⟨σ1, H1, Inv.sim I1 rfl rfl hbare⟩ ?_ fun s'' e1 e2 e3 => hk s'' e1 e2 e3
          have q : (s₁.setGen g gs').gens.size = s₁.gens.size := by simp [Shared.setGen]
          have h1 : g < s₁.gens.size := by
            have hsz' : g + 1 ≤ (s₁.setGen g gs').gens.size := hsz
            omega
          simp [Shared.setGen, h1]
      | false =>
        simp only [Bool.false_eq_true, if_false]
        obtain ⟨σ2, H2, I2, q2⟩ := hF rfl
        exact wpAny_bind (wpAny_rule (wpAny_pure (hend false _ ⟨σ2, H2, Inv.sim I2 rfl rfl (bareSet I2.bare hb), q2⟩)))
    · intro _
      obtain ⟨σ2, H2, I2, q2⟩ := hp
      refine wpAny_bind (wpAny_rule (wpAny_pure (hend true _ ⟨σ2, H2, ?_, q2⟩)))
      have I3 : Inv Xg [(a, go)] σ2 H2 { s₁ with heap := h', toks := s₁.toks } := I2.kept hk
      exact Inv.sim I3 rfl rfl (bareSet I2.bare rfl)
  induction n with
  | zero => exact fun s hI hg => step 0 s hI hg fun n' e => by cases e
  | succ n ih => exact fun s hI hg => step (n + 1) s hI hg fun n' e s' gs' h1 h2 h3 => by cases e; exact ih s' h1 ⟨gs', h2, h3⟩
end

/-! ### making it -/
structure GenOk (N : List Str) (scX scope : Scope) (ow : List (Str × Nat)) : Prop where
  kind : scope.kind = .function
  co : scope.isCoroutine = false
  cell : ∀ y ∈ scope.names, y.2 ≠ .cell
  dot : scope.names.lookup (".0" : Str) = some NameKind.local
  free : ∀ y ∈ scope.names, y.2 = .free → scX.names.lookup y.1 = some .cell ∨ scX.names.lookup y.1 = some .free
  uniq : ∀ y, (y, NameKind.free) ∈ scope.names → scope.names.lookup y = some .free
  own : ∀ y ∈ scope.names, y.2 = .local → y.1 ∈ ow.map (·.1) ∨ y.1 ∉ N
  ix : ∀ p ∈ ow, N[p.2]? = some p.1

theorem gen_begin {X : Cx} {pins : List (Addr × Obj)} {σ : L2.St} {H : Hp} {s : Shared} {scope : Scope} {own : List (Str × Nat)} {fp : List Addr} {it : Value} {h' : Heap} {A : Around} {a : Addr} {go : Obj}
    {cenv : Env} {gens' : Array GenState} {tk : Nat}
    (I : Inv X pins σ H s) (ok : GenOk X.N X.env.scope scope own) (hN : X.N.Nodup) (hfp : ∀ b ∈ fp, FpOk X pins H b ∧ b < s.heap.objs.size)
    (hc1 : cenv.scope = scope) (hc2 : cenv.locals = s.heap.objs.size) (hc3 : cenv.cells = cloFrom X.env.cells scope.names []) (hc4 : cenv.globals = X.env.globals) (hc5 : cenv.builtins = builtinsNs) (hc6 : cenv.frame = some cenv.locals)
    (hA1 : A.handled = none) (hA2 : A.frames = some (cenv :: X.stack))
    (hn' : h'.Ns s.heap.objs.size (fun y => if y = ".0" then some it else none)) (hs' : Heap.SameBut s.heap.objs.size (s.heap.push { cls := .type "frame", data := .dict #[] }) h')
    (ha : a = h'.objs.size) (hgo : ∀ v, go.data ≠ .cell v) (hfr : Obj.isFreed go = false) (hg : AllBare gens') :
    Inv (cxG X X.N A cenv s H fp) [(a, go)] (wipe σ (own.map (·.2))) H { s with heap := h'.push go, gens := gens', toks := tk } := by
  have hfree : ∀ y ∈ scope.names, y.2 = .free → ∃ c, X.env.cells.lookup y.1 = some c := fun y hy e => by
    rcases ok.free y hy e with k | k
    · exact I.ok.has _ (.inl k)
    · exact I.ok.has _ (.inr k)
  have hsz : h'.objs.size = s.heap.objs.size + 1 := by rw [hs'.1, Heap.size_push]
  have kp : ∀ b o, s.heap.get? b = some o → (h'.push go).get? b = some o := fun b o e =>
    Heap.get?_push_of_some _ (hs'.extBut b o (Nat.ne_of_lt (Heap.lt_size e)) (Heap.get?_push_of_some _ e))
  have cm : ∀ {y c}, (y, c) ∈ cloFrom X.env.cells scope.names [] → X.env.cells.lookup y = some c ∧ c < s.heap.objs.size := fun {y c} hm => by
    rcases cloFrom_mem hm with hm | ⟨h1, rfl⟩
    · cases hm
    · obtain ⟨c, hc⟩ := hfree _ h1 rfl
      rw [hc]
      obtain ⟨w, z⟩ := I.cell _ _ hc
      exact ⟨rfl, z.lt⟩
  have mem : ∀ {y c}, cenv.cells.lookup y = some c → X.env.cells.lookup y = some c ∧ c < s.heap.objs.size := fun {y c} e => by
    rw [hc3] at e
    exact cm (PySem.mem_of_lookup e)
  have look : ∀ {y}, scope.names.lookup y = some .free → ∃ c, cenv.cells.lookup y = some c := fun {y} hl => by
    obtain ⟨c', e'⟩ := mem_lookup (cloFrom_has (cells := X.env.cells) (acc := []) (PySem.mem_of_lookup hl))
    exact ⟨c', by rw [hc3]; exact e'⟩
  have nocell : ∀ y, scope.names.lookup y ≠ some .cell := fun y e => ok.cell _ (PySem.mem_of_lookup e) rfl
  have okB : (cxG X X.N A cenv s H fp).Ok := by
    refine ⟨I.ok.mod, by show cenv.scope.kind = _; rw [hc1]; exact ok.kind, by show cenv.globals = _; rw [hc4]; exact I.ok.glob, hc5, by show s.heap.objs.size ≤ cenv.locals; rw [hc2]; exact Nat.le_refl _,
      fun y z c e1 e2 => I.ok.inj y z c (mem e1).1 (mem e2).1, fun y hy => ?_, fun y c z e => (by cases z), fun _ => hA1, hA2, .inr ⟨rfl, hc6⟩, fun b hb => ⟨?_, fun y c e z => ?_⟩, I.bs, Nat.le_trans I.ok.bsz I.sz, fun b o e hb => ?_, fun b hb z => ?_, I.stack, I.stkFree⟩
    · have hy : scope.names.lookup y = some .cell ∨ scope.names.lookup y = some .free := by
        rcases hy with hy | hy
        · left; have q : cenv.scope.names.lookup y = _ := hy; rw [hc1] at q; exact q
        · right; have q : cenv.scope.names.lookup y = _ := hy; rw [hc1] at q; exact q
      rcases hy with hy | hy
      · exact (nocell y hy).elim
      · exact look hy
    · show b ≠ cenv.locals
      rw [hc2]; exact Nat.ne_of_lt (hfp b hb).2
    · exact (hfp b hb).1.2.2.2.2.1 y c (mem e).1 z
    · rcases (hfp b hb).1.2.2.2.1 with z | z
      · exact I.ok.noex b o e z
      · exact absurd (Nat.lt_of_lt_of_le (Heap.lt_size e) (Nat.le_trans I.ok.bsz z)) (Nat.lt_irrefl _)
    · rcases List.mem_cons.mp (I.stkSub b z) with z | z
      · exact (hfp b hb).1.2.1 z
      · exact (hfp b hb).1.2.2.1 z
  have hHC : H cenv.locals = none := by rw [hc2]; exact I.hok.fresh (Nat.le_refl _)
  refine ⟨okB, rfl, hg, Un.kept kp, ⟨_, by show Heap.Ns _ cenv.locals _; rw [hc2]; exact hn'.push _, fun i y av e1 e2 e3 => ?_⟩, fun y c e => ?_, hHC, fun y c e => I.freeC y c (mem e).1, fun p hp => ?_, I.hok.kept kp, by rw [wipe_length]; exact I.len⟩
  · obtain ⟨e2, hne⟩ := wipe_some e2
    have e3' : scope.names.lookup y = some .local ∨ scope.names.lookup y = some .cell ∨ scope.names.lookup y = some .free := by
      have q : cenv.scope.names.lookup y = some .local ∨ cenv.scope.names.lookup y = some .cell ∨ cenv.scope.names.lookup y = some .free := e3
      rw [hc1] at q; exact q
    rcases e3' with e3 | e3 | e3
    · exfalso
      rcases ok.own _ (PySem.mem_of_lookup e3) rfl with z | z
      · obtain ⟨p, hp, e⟩ := List.mem_map.mp z
        have hi := ok.ix p hp
        rw [e] at hi
        have : i = p.2 := nodup_ix hN e1 hi
        exact hne (List.mem_map.mpr ⟨p, hp, this.symm⟩)
      · exact z (List.mem_of_getElem? e1)
    · exact (nocell y e3).elim
    · have hX := ok.free (y, .free) (PySem.mem_of_lookup e3) rfl
      obtain ⟨m, hn, hl⟩ := I.loc
      have hv : Vis X.env.scope y := .inr hX
      obtain ⟨u, r, l⟩ := hl i y av e1 e2 hv
      obtain ⟨c, hcc⟩ := look e3
      refine ⟨u, r, .inr ⟨.inr (by show cenv.scope.names.lookup y = _; rw [hc1]; exact e3), c, hcc, ?_⟩⟩
      rcases l with ⟨k, _⟩ | ⟨_, c', e', z⟩
      · exfalso
        have k' : X.env.scope.names.lookup y = some .local := k
        rcases hX with q | q <;> (have q' : X.env.scope.names.lookup y = _ := q; rw [k'] at q'; cases q')
      · have : c = c' := by
          have := (mem hcc).1
          rw [e'] at this; cases this; rfl
        subst this
        exact z.keeps kp
  · obtain ⟨v, z⟩ := I.cell y c (mem e).1
    exact ⟨v, z.keeps kp⟩
  · have hp' : p = (a, go) := by simpa [cxG] using hp
    subst hp'
    refine ⟨by rw [ha]; exact Heap.get?_push_size _ hfr, by rw [ha]; exact I.hok.fresh (by omega), ?_, ?_, hgo⟩
    · show a ≠ cenv.locals
      rw [hc2, ha]; exact Nat.ne_of_gt (by omega)
    · intro hb
      have hb' : a ∈ frs X.stack := hb
      rcases List.mem_cons.mp (I.stkSub a hb') with z | z
      · rw [ha] at z
        have := I.lt
        exact Nat.lt_irrefl _ (Nat.lt_of_lt_of_le (z ▸ this) (by omega))
      · exact I.nofs (a := a) (by rw [ha]; omega) z

def tAllG (P : Addr) (own : List (Str × Nat)) (wi : TI) (g : TG) (te : TE) : TE := fun σ H Q => wi σ H fun J H1 => TabG H1 P ∧ ∀ H2, Tabbed P H1 H2 →
  ∃ (W : Nat → Nat → L2.St → Hp → Prop) (m : Nat), W 0 m (wipe σ (own.map (·.2))) H2 ∧ Plan J g te W (fun b H => Q (.bl b) H)

theorem over_hd {A : Around} {c : Code} : (A.over c []).handled = A.handled := rfl
theorem gen_over {A : Around} {elt tg iter : Expr} {scope : Scope} {pos : Pos} {it : Addr} {cenv : Env} {l : List Env} {k : Nat} (hr : Room (k + 1) A) (hf : A.frames = some l) :
    Room k ((A.in1.in1).over (loopC elt tg iter scope pos it cenv) []) ∧ ((A.in1.in1).over (loopC elt tg iter scope pos it cenv) []).frames = some (cenv :: l) := by
  refine ⟨⟨hr.hd, ?_, ?_⟩, ?_⟩
  · have := hr.dp
    show A.depth + 0 + 1 + 3 * k + 5 < recursionLimit
    omega
  · have := hr.un
    show A.units + 1 + 1 + 0 + 3 + 16 * k + 200 < cLine
    omega
  · show pushEnvs [cenv] (pushEnvs [] A.frames) = _
    rw [hf]; rfl

theorem pe_allG {X : Cx} {c P : Addr} {elt tg iter : Expr} {p pos gpos : Pos} {scope : Scope} {own : List (Str × Nat)} {wi : TI} {g : TG} {te : TE} {k : Nat}
    (hr : Room (k + 1) X.A) (hg : Gl X "all") (hm : X.mg "all" = none) (hb : bootBuiltins "all" = some (.builtin "all")) (TB : TabB X.base X.mg c P) (hcode : X.env.code = .ref c)
    (ok : GenOk X.N X.env.scope scope own) (hN : X.N.Nodup) (hi : PI X tg iter wi)
    (hgt : ∀ A cenv s H fp, cenv.scope = scope → PG (cxG X X.N A cenv s H fp) tg g)
    (hel : ∀ A cenv s H fp, cenv.scope = scope → Room k A → PE (cxG X X.N A cenv s H fp) elt te)
    (hs : ∀ v, genFold iter X.env v = pure v)
    (he : starEach [gexp elt tg iter scope gpos] X.env = (false, eval (gexp elt tg iter scope gpos) X.env) :: starEach [] X.env := by rfl) :
    PE X (.Call (.Name "all" p) [gexp elt tg iter scope gpos] [] pos) (tAllG P own wi g te) := by
  refine ⟨fun pins s σ H Q I h => ?_⟩
  have hfree : ∀ y ∈ scope.names, y.2 = .free → ∃ c, X.env.cells.lookup y.1 = some c := fun y hy e => by
    rcases ok.free y hy e with k | k
    · exact I.ok.has _ (.inl k)
    · exact I.ok.has _ (.inr k)
  refine wpAny_Call_Name_kw (ld_blt I hg hm hb ?_)
  refine PyProof.Rows.callWith_builtin1 ?_ he (by rfl)
  rw [he]
  show wpAny _ _ (spliced ((false, eval (gexp elt tg iter scope gpos) X.env) :: backTo pos (starEach [] X.env))) _ _ s
  refine Calls.spliced_cons (wpAny_GeneratorExp_make ok.co (closure_ok hfree) ok.cell ok.dot ok.kind (by have := hr.dp; omega) ?_ hs)
  refine thn (hi.run pins s σ H _ I h) fun v s1 h1 => thn h1 fun itv s2 h2 => ?_
  obtain ⟨it, fp, tn, J, H1, rfl, I2, T, st2, f2, ⟨ps, hP, ht⟩, cont⟩ := h2
  refine ⟨I2.nolimit, ?_⟩
  have hPs : s2.heap.get? P = some { cls := .none, data := .fields ps } := I2.hok P _ hP
  have cd : PySem.W.CodeHd s2.heap c P := TB.code.keeps fun b u e => I2.bk b u e
  have fpP : ∀ b ∈ fp, b ≠ P := fun b hb z => by
    have := (f2 b hb).1
    rw [z, hP] at this; cases this
  have fplt : ∀ b ∈ fp, b < s2.heap.objs.size := fun b hb => by
    obtain ⟨o, e, _⟩ := T.obj 0 _ st2 b hb
    exact Heap.lt_size e
  have main : ∀ (code : Value) (h3 : Heap) (tk : Nat) (ps' : Array Value), Heap.ExtBut P s2.heap h3 → s2.heap.objs.size ≤ h3.objs.size → h3.get? P = some { cls := .none, data := .fields ps' } → (∃ more, ps' = ps ++ more) → TriplesOk ps'.toList →
      wpAny (model X.prog X.w) X.A (builtinsFor X.env.globals X.env.builtins) (fun bi s₄ =>
        ∀ h', h'.Ns s₄.heap.objs.size (fun y => if y = ".0" then some (.ref it) else none) → Heap.SameBut s₄.heap.objs.size (s₄.heap.push { cls := .type "frame", data := .dict #[] }) h' →
          wpAny (model X.prog X.w) X.A (spliced (backTo pos (starEach [] X.env))) (fun us s' => wpAny (model X.prog X.w) X.A (call (.builtin "all") (Value.ref h'.objs.size :: us)) (EP X pins σ Q) X.xe s') X.xe { s₄ with
            gens := s₄.gens.push (.fresh (.compStart (gexp elt tg iter scope gpos) 0 (.ref it) .none (genEnv scope (cloFrom X.env.cells scope.names []) s₄.heap.objs.size code bi X.env))),
            toks := s₄.toks + 1 + 1 + 1,
            heap := h'.push { cls := .type "generator", data := .fields #[.int s₄.gens.size 0, .str "<genexpr>" (s₄.toks + 1), .str (X.env.qual ++ "<genexpr>") (s₄.toks + 1 + 1)] } }) X.xe { s2 with heap := h3, toks := tk } := by
    intro code h3 tk ps' hx hsz hP3 ⟨more, hmore⟩ ht3
    subst hmore
    obtain ⟨bm, ob, e1, e2, e3, e4, e5, e6, e7, e8⟩ := TB.bm
    have keep3 : ∀ b u, b ≠ P → s2.heap.get? b = some u → h3.get? b = some u := fun b u hb e => hx b u hb e
    refine wpAny_builtinsFor (m := X.mg) (by rw [I2.ok.glob]; exact (I2.mod.glob.keeps I2.bk).extBut hx TB.gP) e1 e2 (keep3 _ _ e4 (I2.bk _ _ e5)) e6 e7 e8 ?_
    have I3 := inv_tab (more := more) (h' := h3) (g' := s2.gens) (d' := s2.drawn) (t' := tk) I2 hP keep3 hP3 I2.bare
    intro h' hn' hs'
    refine Calls.spliced_nil ?_
    have hszC : h'.objs.size = h3.objs.size + 1 := by
      have := hs'.1
      rw [Heap.size_push] at this
      exact this
    -- the context
    generalize hce : genEnv scope (cloFrom X.env.cells scope.names []) h3.objs.size code builtinsNs X.env = cenv
    have c1 : cenv.scope = scope := by rw [← hce]; rfl
    have c2 : cenv.locals = h3.objs.size := by rw [← hce]; rfl
    have c3 : cenv.cells = cloFrom X.env.cells scope.names [] := by rw [← hce]; rfl
    have c4 : cenv.globals = X.env.globals := by rw [← hce]; rfl
    have c5 : cenv.builtins = builtinsNs := by rw [← hce]; rfl
    have c6 : cenv.frame = some cenv.locals := by rw [← hce]; rfl
    obtain ⟨hrg, hfr⟩ := gen_over (A := X.A) (elt := elt) (tg := tg) (iter := iter) (scope := scope) (pos := gpos) (it := it) (cenv := cenv) hr I2.ok.frames
    have fpOk3 : ∀ b ∈ fp, FpOk X pins (upd H1 P (.tbl (ps ++ more))) b ∧ b < h3.objs.size := fun b hb =>
      ⟨⟨by rw [upd_ne (fpP b hb)]; exact (f2 b hb).1, (f2 b hb).2⟩, Nat.lt_of_lt_of_le (fplt b hb) hsz⟩
    have IG := gen_begin (A := (X.A.in1.in1).over (loopC elt tg iter scope gpos it cenv) []) (gens' := s2.gens.push (.fresh (.compStart (gexp elt tg iter scope gpos) 0 (.ref it) .none cenv))) (tk := tk + 1 + 1 + 1)
      (a := h'.objs.size) (go := { cls := .type "generator", data := .fields #[.int s2.gens.size 0, .str "<genexpr>" (tk + 1), .str (X.env.qual ++ "<genexpr>") (tk + 1 + 1)] })
      I3 ok hN fpOk3 c1 c2 c3 c4 c5 c6 hr.hd hfr hn' hs' rfl (fun v z => by cases z) rfl (I2.bare.push rfl)
    obtain ⟨W, m, hW, hPl⟩ := cont (upd H1 P (.tbl (ps ++ more))) ⟨⟨ps ++ more, upd_same, ht3⟩, fun b hb => upd_ne hb⟩
    have hd := hr.hd
    have hroom : X.A.depth < recursionLimit := by have := hr.dp; omega
    refine call_function_tree F.kind_all F.plain_all F.entry_all (F.args_all1 _) ?_
    unfold Builtin.«all»
    refine wpAny_bind (m := oneArg "all" _) (wpAny_pure ?_)
    refine wpAny_bind (wpAny_pyIter_gen ⟨_, _, _, Heap.get?_push_size _ rfl, rfl, rfl, rfl⟩ ?_)
    refine wpAny_pure ⟨plainId_quiet F.plain_all_loop _, ?_⟩
    refine all_loop (A := X.A) (a := h'.objs.size) (g := s2.gens.size)
      (Q := fun b H => Q (.bl b) H) (Xg := cxG X X.N ((X.A.in1.in1).over (loopC elt tg iter scope gpos it cenv) []) cenv { s2 with heap := h3, toks := tk } (upd H1 P (.tbl (ps ++ more))) fp)
      (go := { cls := .type "generator", data := .fields #[.int s2.gens.size 0, .str "<genexpr>" (tk + 1), .str (X.env.qual ++ "<genexpr>") (tk + 1 + 1)] }) rfl rfl rfl hd hroom (fun h e => ⟨_, _, _, e, rfl, rfl, rfl⟩)
      (fun b s' hE => ?_) m _ ⟨_, _, IG⟩ ⟨_, Array.getElem?_push_size .., fun s'' e1 e2 e3 => ⟨rfl, ?_⟩⟩
    · obtain ⟨σ', H', I', q'⟩ := hE
      have J : Inv X pins σ H' s' := I3.call' (ch := fp) I'.os I'.base I'.hok I'.bare fun b hb => ⟨(f2 b hb).2.2.2.1, (f2 b hb).2.1, (f2 b hb).2.2.2.2.1, (f2 b hb).2.2.2.2.2⟩
      exact ⟨.bl b, H', J, rfl, q'⟩
    · refine seg_start (Xg := cxG X X.N ((X.A.in1.in1).over (loopC elt tg iter scope gpos it cenv) []) cenv { s2 with heap := h3, toks := tk } (upd H1 P (.tbl (ps ++ more))) fp) (As := X.A.in1.in1) (tg := tg) (elt := elt) (iter := iter) (it := it) (fp := fp) (tn := tn) (J := J) (g := g) (te := te) (W := W)
        rfl rfl rfl (by show cenv.scope.isCoroutine = false; rw [c1]; exact ok.co) T (hgt _ _ _ _ _ c1) (hel _ _ _ _ _ c1 hrg) hPl rfl m m s'' s'' (Nat.le_refl _) ?_
      refine ⟨_, _, Inv.sim IG e1 e2 e3, ?_, fun b hb => ?_, hW⟩
      · rw [e1]
        refine T.keep 0 _ _ st2 fun b hb o e => Heap.get?_push_of_some _ (hs'.extBut b o (Nat.ne_of_lt (fpOk3 b hb).2) (Heap.get?_push_of_some _ (keep3 b o (fpP b hb) e)))
      · refine ⟨(fpOk3 b hb).1.1, ?_, ?_, .inl hb, fun y c' e => ?_, fun p hp => ?_⟩
        · show b ≠ cenv.locals
          rw [c2]; exact Nat.ne_of_lt (fpOk3 b hb).2
        · intro z
          rcases List.mem_cons.mp (I3.stkSub b z) with z | z
          · exact (f2 b hb).2.1 z
          · exact (f2 b hb).2.2.1 z
        · have e : cenv.cells.lookup y = some c' := e
          rw [c3] at e
          rcases cloFrom_mem (PySem.mem_of_lookup e) with hm | ⟨h1, h2⟩
          · cases hm
          · obtain ⟨c0, hc0⟩ := hfree _ h1 rfl
            rw [hc0] at h2
            exact fun z => (f2 b hb).2.2.2.2.1 y c0 hc0 (by rw [← z, h2]; rfl)
        · have hp' : p.1 = h'.objs.size := by
            rcases List.mem_append.mp hp with z | z
            · exact absurd z (by simp [cxG])
            · rcases List.mem_cons.mp z with z | z
              · rw [z]
              · cases z
          rw [hp']
          exact Nat.ne_of_gt (Nat.lt_trans (fpOk3 b hb).2 (by rw [hszC]; exact Nat.lt_succ_self _))
  cases hf : codeAmong gpos ps.toList with
  | none =>
    refine wpAny_genexprCodeX hcode (cd.code hPs ht) (cd.tab hPs) hf fun c' h' tk hx hge hlt hco' _ htab' _ => ?_
    obtain ⟨o1, vs, f1, tf, fl, tg', inF, tx, tt, op, _, _, _, _, _, _, _, _, _, htr, _⟩ := hco'
    exact main _ h' tk _ hx (Nat.le_trans hge (Nat.le_of_lt hlt)) htab'.2 ⟨_, rfl⟩ htr
  | some cv => exact wpAny_genexprCode_hit hcode (cd.code hPs ht) hf (main cv s2.heap s2.toks ps (Heap.ExtBut.refl _ _) (Nat.le_refl _) hPs ⟨#[], by simp⟩ ht)
end GA

namespace DL
open PySem PySem.Spec PyProof.Rows L2

/-! ### values as trees: a tuple is its items; lists and dicts stand in a store -/
inductive D where
  | non | bl (b : Bool) | int (i : Int) | str (s : Str) | ref (a : Addr) | tup (ds : List D) | ktup (ds : List D)

mutual
inductive Rep (K : PySem.W.Frag) (H : Hp) : D → V → Prop
  | non : Rep K H .non .non
  | bl (b : Bool) : Rep K H (.bl b) (.bl b)
  | int (i : Int) : Rep K H (.int i) (.int i)
  | str (s : Str) : Rep K H (.str s) (.str s)
  | ref (a : Addr) : Rep K H (.ref a) (.ref a)
  | tup {a : Addr} {xs : List V} {ds : List D} : H a = some (.tup xs) → Reps K H ds xs → Rep K H (.tup ds) (.ref a)
  | ktup {a : Addr} {xs : List V} {ds : List D} : SqT K H a xs → Reps K H ds xs → Rep K H (.ktup ds) (.ref a)
inductive Reps (K : PySem.W.Frag) (H : Hp) : List D → List V → Prop
  | nil : Reps K H [] []
  | cons {d : D} {v : V} {ds : List D} {vs : List V} : Rep K H d v → Reps K H ds vs → Reps K H (d :: ds) (v :: vs)
end

/-- tuples stand -/
def Ts (K : PySem.W.Frag) (H H' : Hp) : Prop := (∀ a xs, SqT K H a xs → SqT K H' a xs) ∧ ∀ a xs, H a = some (.tup xs) → H' a = some (.tup xs)
theorem Ts.refl (K : PySem.W.Frag) (H : Hp) : Ts K H H := ⟨fun _ _ h => h, fun _ _ h => h⟩
theorem Ts.trans {K : PySem.W.Frag} {H H1 H2 : Hp} (a : Ts K H H1) (b : Ts K H1 H2) : Ts K H H2 := ⟨fun x xs h => b.1 x xs (a.1 x xs h), fun x xs h => b.2 x xs (a.2 x xs h)⟩

section
variable {K : PySem.W.Frag} {H H' : Hp}
mutual
theorem Rep.mono (t : Ts K H H') : ∀ (d : D) (v : V), Rep K H d v → Rep K H' d v
  | .non, _, h => by cases h; exact .non
  | .bl b, _, h => by cases h; exact .bl b
  | .int i, _, h => by cases h; exact .int i
  | .str s, _, h => by cases h; exact .str s
  | .ref a, _, h => by cases h; exact .ref a
  | .tup ds, _, h => by
    cases h with
    | tup h1 h2 => exact .tup (t.2 _ _ h1) (Reps.mono t ds _ h2)
  | .ktup ds, _, h => by
    cases h with
    | ktup h1 h2 => exact .ktup (t.1 _ _ h1) (Reps.mono t ds _ h2)
theorem Reps.mono (t : Ts K H H') : ∀ (ds : List D) (vs : List V), Reps K H ds vs → Reps K H' ds vs
  | [], _, h => by cases h; exact .nil
  | d :: ds, _, h => by
    cases h with
    | cons h1 h2 => exact .cons (Rep.mono t d _ h1) (Reps.mono t ds _ h2)
end
theorem Reps.length : ∀ {ds : List D} {vs : List V}, Reps K H ds vs → ds.length = vs.length
  | [], _, h => by cases h; rfl
  | d :: ds, _, h => by
    cases h with
    | cons h1 h2 => simp [Reps.length h2]
theorem Reps.get : ∀ {ds : List D} {vs : List V} {i : Nat} {d : D}, Reps K H ds vs → ds[i]? = some d → ∃ v, vs[i]? = some v ∧ Rep K H d v
  | [], _, _, _, _, e => by simp at e
  | d :: ds, _, 0, _, h, e => by
    cases h with
    | cons h1 h2 => simp at e; subst e; exact ⟨_, rfl, h1⟩
  | d :: ds, _, i + 1, _, h, e => by
    cases h with
    | cons h1 h2 =>
      obtain ⟨v, e1, e2⟩ := Reps.get (i := i) h2 (by simpa using e)
      exact ⟨v, by simpa using e1, e2⟩
theorem Reps.getV : ∀ {ds : List D} {vs : List V} {i : Nat} {v : V}, Reps K H ds vs → vs[i]? = some v → ∃ d, ds[i]? = some d ∧ Rep K H d v
  | [], _, _, _, h, e => by cases h; simp at e
  | d :: ds, _, 0, _, h, e => by
    cases h with
    | cons h1 h2 => simp at e; subst e; exact ⟨_, rfl, h1⟩
  | d :: ds, _, i + 1, _, h, e => by
    cases h with
    | cons h1 h2 =>
      obtain ⟨v, e1, e2⟩ := Reps.getV (i := i) h2 (by simpa using e)
      exact ⟨v, by simpa using e1, e2⟩
theorem Reps.append : ∀ {ds es : List D} {vs us : List V}, Reps K H ds vs → Reps K H es us → Reps K H (ds ++ es) (vs ++ us)
  | [], _, _, _, h, s => by cases h; exact s
  | d :: ds, _, _, _, h, s => by
    cases h with
    | cons h1 h2 => exact .cons h1 (Reps.append h2 s)
theorem Reps.take : ∀ {ds : List D} {vs : List V} (n : Nat), Reps K H ds vs → Reps K H (ds.take n) (vs.take n)
  | _, _, 0, _ => .nil
  | [], _, _ + 1, h => by cases h; exact .nil
  | d :: ds, _, n + 1, h => by
    cases h with
    | cons h1 h2 => exact .cons h1 (Reps.take n h2)
theorem Reps.drop : ∀ {ds : List D} {vs : List V} (n : Nat), Reps K H ds vs → Reps K H (ds.drop n) (vs.drop n)
  | _, _, 0, h => h
  | [], _, _ + 1, h => by cases h; exact .nil
  | d :: ds, _, n + 1, h => by
    cases h with
    | cons h1 h2 => exact Reps.drop n h2
theorem Reps.erase : ∀ {ds : List D} {vs : List V} (n : Nat), Reps K H ds vs → Reps K H (ds.eraseIdx n) (vs.eraseIdx n)
  | [], _, _, h => by cases h; exact .nil
  | d :: ds, _, 0, h => by cases h with | cons h1 h2 => exact h2
  | d :: ds, _, n + 1, h => by cases h with | cons h1 h2 => exact .cons h1 (Reps.erase n h2)
theorem Reps.set {d : D} {v : V} (r : Rep K H d v) : ∀ {ds : List D} {vs : List V} (n : Nat), Reps K H ds vs → Reps K H (ds.set n d) (vs.set n v)
  | [], _, _, h => by cases h; exact .nil
  | d :: ds, _, 0, h => by cases h with | cons h1 h2 => exact .cons r h2
  | d :: ds, _, n + 1, h => by cases h with | cons h1 h2 => exact .cons h1 (Reps.set r n h2)
theorem Reps.strs : ∀ {ss : List Str} {vs : List V}, Reps K H (ss.map D.str) vs → vs = ss.map V.str
  | [], _, h => by cases h; rfl
  | s :: ss, _, h => by
    cases h with
    | cons h1 h2 => cases h1; rw [Reps.strs h2]; rfl
theorem Reps.of_strs : ∀ (ss : List Str), Reps K H (ss.map D.str) (ss.map V.str)
  | [] => .nil
  | s :: ss => .cons (.str s) (Reps.of_strs ss)
end

/-! ### the store -/
inductive DO where
  | lst (ds : List D) | dic (kvs : List (Key × D)) | dit (kvs : List (List Key × D)) | lck (kvs : List (List Key × D)) (o : HO)

/-- what stands beside the store: its invariant, its addresses -/
structure Gh where
  inv : Hp → Prop
  own : Addr → Prop
  stable : ∀ H H', inv H → (∀ a, own a → H' a = H a) → inv H'
  there : ∀ H, inv H → ∀ a, own a → H a ≠ none

structure M where
  mu : Addr → Option DO
  gh : Gh
def M.set (m : M) (a : Addr) (o : DO) : M := { m with mu := fun b => if b = a then some o else m.mu b }
theorem M.set_same {m : M} {a : Addr} {o : DO} : (m.set a o).mu a = some o := by simp [M.set]
theorem M.set_ne {m : M} {a b : Addr} {o : DO} (h : b ≠ a) : (m.set a o).mu b = m.mu b := by simp [M.set, h]
theorem M.set_gh {m : M} {a : Addr} {o : DO} : (m.set a o).gh = m.gh := rfl

def KVd (K : PySem.W.Frag) (H : Hp) {κ : Type} : List (κ × D) → List (κ × V) → Prop := Paired fun p q => p.1 = q.1 ∧ Rep K H p.2 q.2

def RepO (K : PySem.W.Frag) (H : Hp) (a : Addr) : DO → Prop
  | .lst ds => ∃ xs, H a = some (.lst xs) ∧ Reps K H ds xs
  | .dic kvs => ∃ ys, H a = some (.dK ys) ∧ KVd K H kvs ys
  | .dit kvs => ∃ ys, H a = some (.dT ys) ∧ KVd K H kvs ys
  | .lck kvs o => H a = some o ∧ ∃ od ys, o = .frz od (.dT ys) ∧ KVd K H kvs ys
structure RelH (K : PySem.W.Frag) (H : Hp) (m : M) : Prop where
  inv : m.gh.inv H
  sep : ∀ a, m.gh.own a → m.mu a = none
  obj : ∀ a o, m.mu a = some o → RepO K H a o
/-- slots: what is known of each -/
def RelS (K : PySem.W.Frag) (H : Hp) : List (Option D) → L2.St → Prop := Paired fun od ov => ∀ d, od = some d → ∃ v, ov = some v ∧ Rep K H d v

section
variable {K : PySem.W.Frag} {H H' : Hp}
theorem KVd.mono {κ : Type} (t : Ts K H H') {a : List (κ × D)} {b : List (κ × V)} (h : KVd K H a b) : KVd K H' a b := Paired.mapP h fun p q z => ⟨z.1, Rep.mono t _ _ z.2⟩
theorem RelS.mono (t : Ts K H H') {δ : List (Option D)} {σ : L2.St} (h : RelS K H δ σ) : RelS K H' δ σ := Paired.mapP h fun p q z d e => by
  obtain ⟨v, e1, e2⟩ := z d e
  exact ⟨v, e1, Rep.mono t _ _ e2⟩
theorem RelS.get : ∀ {δ : List (Option D)} {σ : L2.St} {i : Nat} {d : D}, RelS K H δ σ → δ[i]? = some (some d) → ∃ v, σ[i]? = some (some v) ∧ Rep K H d v
  | _, _, _, _, .nil, e => by simp at e
  | _, _, 0, _, .cons r _, e => by
    simp at e
    obtain ⟨v, e1, e2⟩ := r _ e
    exact ⟨v, by simp [e1], e2⟩
  | _, _, i + 1, d, .cons _ t, e => by
    obtain ⟨v, h1, h2⟩ := RelS.get (i := i) (d := d) t (by simpa using e)
    exact ⟨v, by simpa using h1, h2⟩
theorem RelS.set {d : D} {v : V} (r : Rep K H d v) : ∀ {δ : List (Option D)} {σ : L2.St} (i : Nat), RelS K H δ σ → RelS K H (δ.set i (some d)) (σ.set i (some v))
  | _, _, _, .nil => .nil
  | _, _, 0, .cons _ t => .cons (fun e h => by cases h; exact ⟨v, rfl, r⟩) t
  | _, _, i + 1, .cons q t => .cons q (RelS.set r i t)
theorem RelS.length : ∀ {δ : List (Option D)} {σ : L2.St}, RelS K H δ σ → δ.length = σ.length := fun h => Paired.length h
theorem RelS.forget : ∀ {δ : List (Option D)} {σ : L2.St} (i : Nat) (x : Option V), RelS K H δ σ → RelS K H (δ.set i none) (σ.set i x)
  | _, _, _, _, .nil => .nil
  | _, _, 0, _, .cons _ t => .cons (fun e h => by cases h) t
  | _, _, i + 1, x, .cons q t => .cons q (RelS.forget i x t)

theorem Ts.new {a : Addr} {o : HO} (h : H a = none) : Ts K H (upd H a o) := ⟨fun b xs s => by
  rcases s with (s | ⟨ob, s⟩) | s
  · exact .inl (.inl (by rw [upd_ne (ne_of_none s h)]; exact s))
  · exact .inl (.inr ⟨ob, by rw [upd_ne (ne_of_none s h)]; exact s⟩)
  · exact .inr s, fun b xs s => by rw [upd_ne (ne_of_none s h)]; exact s⟩
theorem Ts.put {a : Addr} {o u : HO} (h : H a = some u) (hu : ∀ xs, u ≠ .tup xs) (hf : ∀ ob xs, u ≠ .frz ob (.tup xs)) : Ts K H (upd H a o) := ⟨fun b xs s => by
  rcases s with (s | ⟨ob, s⟩) | s
  · have ne : b ≠ a := fun e => by subst e; rw [h] at s; cases s; exact hu _ rfl
    exact .inl (.inl (by rw [upd_ne ne]; exact s))
  · have ne : b ≠ a := fun e => by subst e; rw [h] at s; cases s; exact hf _ _ rfl
    exact .inl (.inr ⟨ob, by rw [upd_ne ne]; exact s⟩)
  · exact .inr s, fun b xs s => by
    have ne : b ≠ a := fun e => by subst e; rw [h] at s; cases s; exact hu _ rfl
    rw [upd_ne ne]; exact s⟩

theorem RepO.mono {a : Addr} {o : DO} (t : Ts K H H') (ha : H' a = H a) (h : RepO K H a o) : RepO K H' a o := by
  cases o with
  | lst ds => obtain ⟨xs, e, r⟩ := h; exact ⟨xs, ha.trans e, Reps.mono t _ _ r⟩
  | dic kvs => obtain ⟨ys, e, r⟩ := h; exact ⟨ys, ha.trans e, r.mono t⟩
  | dit kvs => obtain ⟨ys, e, r⟩ := h; exact ⟨ys, ha.trans e, r.mono t⟩
  | lck kvs o => obtain ⟨e, od, ys, e2, r⟩ := h; exact ⟨ha.trans e, od, ys, e2, r.mono t⟩
theorem RepO.some {a : Addr} {o : DO} (h : RepO K H a o) : ∃ u, H a = some u ∧ (∀ xs, u ≠ .tup xs) ∧ (∀ ob xs, u ≠ .frz ob (.tup xs)) := by
  cases o with
  | lst ds => obtain ⟨xs, e, r⟩ := h; exact ⟨_, e, (fun _ z => by cases z), (fun _ _ z => by cases z)⟩
  | dic kvs => obtain ⟨ys, e, r⟩ := h; exact ⟨_, e, (fun _ z => by cases z), (fun _ _ z => by cases z)⟩
  | dit kvs => obtain ⟨ys, e, r⟩ := h; exact ⟨_, e, (fun _ z => by cases z), (fun _ _ z => by cases z)⟩
  | lck kvs o => obtain ⟨e, od, ys, e2, r⟩ := h; subst e2; exact ⟨_, e, (fun _ z => by cases z), (fun _ _ z => by cases z)⟩
theorem RelH.fresh {m : M} {p : Addr} (r : RelH K H m) (h : H p = none) : m.mu p = none := by
  cases e : m.mu p with
  | none => rfl
  | some o =>
    obtain ⟨u, hu, _⟩ := (r.obj p o e).some
    rw [h] at hu; cases hu
/-- a new thing of which the store knows nothing -/
theorem RelH.new {m : M} {p : Addr} {o : HO} (r : RelH K H m) (h : H p = none) : RelH K (upd H p o) m where
  inv := m.gh.stable _ _ r.inv fun a ha => upd_ne fun e => by subst e; exact m.gh.there _ r.inv a ha h
  sep := r.sep
  obj := fun a x e => (r.obj a x e).mono (Ts.new h) (upd_ne fun z => by subst z; rw [r.fresh h] at e; cases e)
/-- a new thing in the store -/
theorem RelH.newO {m : M} {p : Addr} {o : HO} {x : DO} (r : RelH K H m) (h : H p = none) (hx : RepO K (upd H p o) p x) : RelH K (upd H p o) (m.set p x) where
  inv := (r.new h).inv
  sep := fun a ha => by
    have ne : a ≠ p := fun e => by subst e; exact m.gh.there _ r.inv a ha h
    rw [M.set_ne ne]; exact r.sep a ha
  obj := fun a y e => by
    by_cases z : a = p
    · subst z; rw [M.set_same] at e; cases e; exact hx
    · rw [M.set_ne z] at e; exact (r.new h).obj a y e
/-- a thing of the store is changed -/
theorem RelH.put {m : M} {p : Addr} {o : HO} {x y : DO} (r : RelH K H m) (h : m.mu p = some y) (hx : RepO K (upd H p o) p x) : RelH K (upd H p o) (m.set p x) := by
  obtain ⟨u, hu, n1, n2⟩ := (r.obj p y h).some
  refine ⟨m.gh.stable _ _ r.inv fun a ha => upd_ne fun e => ?_, fun a ha => ?_, fun a z e => ?_⟩
  · subst e; rw [r.sep a ha] at h; cases h
  · have ne : a ≠ p := fun e => by subst e; rw [r.sep a ha] at h; cases h
    rw [M.set_ne ne]; exact r.sep a ha
  · by_cases q : a = p
    · subst q; rw [M.set_same] at e; cases e; exact hx
    · rw [M.set_ne q] at e; exact (r.obj a z e).mono (Ts.put hu n1 n2) (upd_ne q)
theorem RelH.putTS {m : M} {p : Addr} {o : HO} {y : DO} (r : RelH K H m) (h : m.mu p = some y) : Ts K H (upd H p o) := by
  obtain ⟨u, hu, n1, n2⟩ := (r.obj p y h).some
  exact Ts.put hu n1 n2
end

/-! ### transformers over trees -/
abbrev Sl := List (Option D)
abbrev DK := D → M → Prop
abbrev DTr := Sl → M → DK → Prop
abbrev DTT := Sl → M → (Bool → M → Prop) → Prop
abbrev DTA := Sl → M → (List D → M → Prop) → Prop

def Fits (K : PySem.W.Frag) (H : Hp) (Q' : DK) (Q : VK) : Prop := ∀ d m, Q' d m → ∀ v H', Ts K H H' → Rep K H' d v → RelH K H' m → Q v H'
theorem Fits.mono {K : PySem.W.Frag} {H H1 : Hp} {Q' : DK} {Q : VK} (t : Ts K H H1) (f : Fits K H Q' Q) : Fits K H1 Q' Q := fun d m q v H' t' r rh => f d m q v H' (t.trans t') r rh
def up (K : PySem.W.Frag) (t : DTr) : TE := fun σ H Q => ∃ δ m Q', RelS K H δ σ ∧ RelH K H m ∧ t δ m Q' ∧ Fits K H Q' Q
def FitsB (K : PySem.W.Frag) (H : Hp) (Q' : Bool → M → Prop) (Q : Bool → Hp → Prop) : Prop := ∀ b m, Q' b m → ∀ H', Ts K H H' → RelH K H' m → Q b H'
def upB (K : PySem.W.Frag) (t : DTT) : TT := fun σ H Q => ∃ δ m Q', RelS K H δ σ ∧ RelH K H m ∧ t δ m Q' ∧ FitsB K H Q' Q
def FitsA (K : PySem.W.Frag) (H : Hp) (Q' : List D → M → Prop) (Q : List V → Hp → Prop) : Prop := ∀ ds m, Q' ds m → ∀ vs H', Ts K H H' → Reps K H' ds vs → RelH K H' m → Q vs H'
def upA (K : PySem.W.Frag) (t : DTA) : TA := fun σ H Q => ∃ δ m Q', RelS K H δ σ ∧ RelH K H m ∧ t δ m Q' ∧ FitsA K H Q' Q

def DE (X : Cx) (e : Expr) (t : DTr) : Prop := PE X e (up X.K t)
def DTst (X : Cx) (e : Expr) (t : DTT) : Prop := PT X e (upB X.K t)
def DTW (X : Cx) (e : Expr) (t : DTT) : Prop := PW X e (upB X.K t)
def DA (X : Cx) (es : List Expr) (t : DTA) : Prop := PA X es (upA X.K t)

theorem _root_.L2.PE.imp {X : Cx} {e : Expr} {t t' : TE} (h : PE X e t) (i : ∀ σ H Q, t' σ H Q → t σ H Q) : PE X e t' := ⟨fun pins s σ H Q I q => h.run pins s σ H Q I (i σ H Q q)⟩
theorem _root_.L2.PT.imp {X : Cx} {e : Expr} {t t' : TT} (h : PT X e t) (i : ∀ σ H Q, t' σ H Q → t σ H Q) : PT X e t' := ⟨fun pins s σ H Q I q => h.run pins s σ H Q I (i σ H Q q)⟩
theorem _root_.L2.PW.imp {X : Cx} {e : Expr} {t t' : TT} (h : PW X e t) (i : ∀ σ H Q, t' σ H Q → t σ H Q) : PW X e t' := ⟨fun wh pins s σ H Q I q => h.run wh pins s σ H Q I (i σ H Q q)⟩
theorem _root_.L2.PA.imp {X : Cx} {es : List Expr} {t t' : TA} (h : PA X es t) (i : ∀ σ H Q, t' σ H Q → t σ H Q) : PA X es t' := ⟨fun pos pins s σ H Q I q => h.run pos pins s σ H Q I (i σ H Q q)⟩
theorem _root_.L2.PS.imp {X : Cx} {st : Stmt} {t t' : L2.TS} (h : PS X st t) (i : ∀ D σ H, t' D σ H → t D σ H) : PS X st t' := ⟨fun pins s σ H D I q => h.run pins s σ H D I (i D σ H q)⟩
theorem _root_.L2.PSs.imp {X : Cx} {st : List Stmt} {t t' : L2.TS} (h : PSs X st t) (i : ∀ D σ H, t' D σ H → t D σ H) : PSs X st t' := ⟨fun pins s σ H D I q => h.run pins s σ H D I (i D σ H q)⟩

/-! ### two in a row -/
abbrev DR2 := D → D → M → DK → Prop
def dOp (R : DR2) (ta tb : DTr) : DTr := fun δ m Q => ta δ m fun x m1 => tb δ m1 fun y m2 => R x y m2 Q
def OpL (K : PySem.W.Frag) (r : R2) (R : DR2) : Prop := ∀ (x y : D) (vx vy : V) (H : Hp) (m : M) (Q' : DK) (Q : VK), Rep K H x vx → Rep K H y vy → RelH K H m → R x y m Q' → Fits K H Q' Q → r vx vy H Q
theorem up_op {K : PySem.W.Frag} {r : R2} {R : DR2} (h : OpL K r R) {ta tb : DTr} : ∀ σ H Q, up K (dOp R ta tb) σ H Q → tOp r (up K ta) (up K tb) σ H Q := by
  rintro σ H Q ⟨δ, m, Q', rs, rh, t, f⟩
  refine ⟨δ, m, _, rs, rh, t, fun x m1 q1 v H1 t1 r1 rh1 => ?_⟩
  refine ⟨δ, m1, _, rs.mono t1, rh1, q1, fun y m2 q2 u H2 t2 r2 rh2 => ?_⟩
  exact h x y v u H2 m2 Q' Q (Rep.mono t2 _ _ r1) r2 rh2 q2 (f.mono (t1.trans t2))
def dUn (R : D → M → DK → Prop) (ta : DTr) : DTr := fun δ m Q => ta δ m fun x m1 => R x m1 Q
def UnL (K : PySem.W.Frag) (r : V → Hp → VK → Prop) (R : D → M → DK → Prop) : Prop := ∀ (x : D) (vx : V) (H : Hp) (m : M) (Q' : DK) (Q : VK), Rep K H x vx → RelH K H m → R x m Q' → Fits K H Q' Q → r vx H Q
theorem up_un {K : PySem.W.Frag} {r : V → Hp → VK → Prop} {R : D → M → DK → Prop} (h : UnL K r R) {ta : DTr} : ∀ σ H Q, up K (dUn R ta) σ H Q → tUn r (up K ta) σ H Q := by
  rintro σ H Q ⟨δ, m, Q', rs, rh, t, f⟩
  exact ⟨δ, m, _, rs, rh, t, fun x m1 q1 v H1 t1 r1 rh1 => h x v H1 m1 Q' Q r1 rh1 q1 (f.mono t1)⟩
/-- arguments -/
abbrev DRA := List D → M → DK → Prop
def dArgs (R : DRA) (t : DTA) : DTr := fun δ m Q => t δ m fun xs m1 => R xs m1 Q
def ArgL (K : PySem.W.Frag) (r : List V → Hp → VK → Prop) (R : DRA) : Prop := ∀ (xs : List D) (vs : List V) (H : Hp) (m : M) (Q' : DK) (Q : VK), Reps K H xs vs → RelH K H m → R xs m Q' → Fits K H Q' Q → r vs H Q
theorem up_args {K : PySem.W.Frag} {r : List V → Hp → VK → Prop} {R : DRA} (h : ArgL K r R) {t : DTA} : ∀ σ H Q, up K (dArgs R t) σ H Q → upA K t σ H (fun vs H1 => r vs H1 Q) := by
  rintro σ H Q ⟨δ, m, Q', rs, rh, t, f⟩
  exact ⟨δ, m, _, rs, rh, t, fun xs m1 q1 vs H1 t1 r1 rh1 => h xs vs H1 m1 Q' Q r1 rh1 q1 (f.mono t1)⟩

/-! ### names, constants -/
section
variable {X : Cx}
def dVar (i : Nat) : DTr := fun δ m Q => ∃ d, δ[i]? = some (some d) ∧ Q d m
def dC (d : D) : DTr := fun _ m Q => Q d m
theorem de_of_var {e : Expr} {i : Nat} (h : PE X e (tVar i)) : DE X e (dVar i) := h.imp fun σ H Q ⟨δ, m, Q', rs, rh, ⟨d, e, q⟩, f⟩ => by
  obtain ⟨v, e1, r⟩ := rs.get e
  exact ⟨v, e1, f d m q v H (Ts.refl _ _) r rh⟩
theorem de_var (i : Nat) {x : Str} {pos : Pos} (hN : X.N[i]? = some x := by rfl) (hv : Vis X.env.scope x := by first | exact Or.inl rfl | exact Or.inr (Or.inl rfl) | exact Or.inr (Or.inr rfl)) (hd : (x == ("__debug__" : Str)) = false := by decide)
    (hcd : (x == ("__classdict__" : Str)) = false := by decide) : DE X (.Name x pos) (dVar i) := de_of_var (pe_var hN hv hd hcd)
theorem de_of_c {e : Expr} {v : V} {d : D} (h : PE X e (tC v)) (r : ∀ H, Rep X.K H d v) : DE X e (dC d) := h.imp fun σ H Q ⟨δ, m, Q', rs, rh, q, f⟩ => f d m q v H (Ts.refl _ _) (r H) rh
theorem de_int {i j pos} : DE X (.Constant (.int i) j pos) (dC (.int i)) := de_of_c pe_int fun _ => .int i
theorem de_bl {b j pos} : DE X (.Constant (.bool b) j pos) (dC (.bl b)) := de_of_c pe_bl fun _ => .bl b
theorem de_non {j pos} : DE X (.Constant .none j pos) (dC .non) := de_of_c pe_non fun _ => .non
theorem de_str {s j pos} : DE X (.Constant (.str s) j pos) (dC (.str s)) := de_of_c pe_str fun _ => .str s
theorem de_glob {x : Str} {v : V} {d : D} {u : Value} {pos : Pos} (hg : Gl X x) (hm : X.mg x = some u) (rv : RelV v u) (r : ∀ H, Rep X.K H d v) (hd : (x == ("__debug__" : Str)) = false := by decide) : DE X (.Name x pos) (dC d) := de_of_c (pe_glob hg hm rv hd) r

/-! ### arguments -/
def dNil : DTA := fun _ m Q => Q [] m
def dCons (te : DTr) (t : DTA) : DTA := fun δ m Q => te δ m fun x m1 => t δ m1 fun xs m2 => Q (x :: xs) m2
theorem da_nil : DA X [] dNil := pa_nil.imp fun σ H Q ⟨δ, m, Q', rs, rh, q, f⟩ => f [] m q [] H (Ts.refl _ _) .nil rh
theorem da_cons {e : Expr} {es : List Expr} {te : DTr} {t : DTA} (he : DE X e te) (hr : DA X es t) (hs : starEach (e :: es) X.env = (false, eval e X.env) :: starEach es X.env := by rfl) : DA X (e :: es) (dCons te t) :=
  (pa_cons he hr hs).imp fun σ H Q ⟨δ, m, Q', rs, rh, q, f⟩ =>
    ⟨δ, m, _, rs, rh, q, fun x m1 q1 v H1 t1 r1 rh1 => ⟨δ, m1, _, rs.mono t1, rh1, q1, fun xs m2 q2 vs H2 t2 r2 rh2 =>
      f (x :: xs) m2 q2 (v :: vs) H2 (t1.trans t2) (.cons (Rep.mono t2 _ _ r1) r2) rh2⟩⟩

/-! ### displays -/
def dTup (t : DTA) : DTr := fun δ m Q => t δ m fun xs m1 => xs.length ≤ sizeLine ∧ Q (.tup xs) m1
theorem de_tup {es : List Expr} {t : DTA} {x1} {pos : Pos} (h : DA X es t) : DE X (.Tuple es x1 pos) (dTup t) := (pe_tup h).imp fun σ H Q ⟨δ, m, Q', rs, rh, q, f⟩ =>
  ⟨δ, m, _, rs, rh, q, fun xs m1 ⟨z, q1⟩ vs H1 t1 r1 rh1 => ⟨by rw [← r1.length]; exact z, fun p hp =>
    f (.tup xs) m1 q1 (.ref p) _ (t1.trans (Ts.new hp)) (.tup upd_same (Reps.mono (Ts.new hp) _ _ r1)) (rh1.new hp)⟩⟩
def dLst (t : DTA) : DTr := fun δ m Q => t δ m fun xs m1 => xs.length ≤ sizeLine ∧ ∀ p, m1.mu p = none → Q (.ref p) (m1.set p (.lst xs))
theorem de_lst {es : List Expr} {t : DTA} {pos : Pos} (h : DA X es t) : DE X (.List es pos) (dLst t) := (pe_lst h).imp fun σ H Q ⟨δ, m, Q', rs, rh, q, f⟩ =>
  ⟨δ, m, _, rs, rh, q, fun xs m1 ⟨z, q1⟩ vs H1 t1 r1 rh1 => ⟨by rw [← r1.length]; exact z, fun p hp =>
    f (.ref p) _ (q1 p (rh1.fresh hp)) (.ref p) _ (t1.trans (Ts.new hp)) (.ref p) (rh1.newO hp ⟨vs, upd_same, Reps.mono (Ts.new hp) _ _ r1⟩)⟩⟩
end
end DL

namespace DL
open PySem PySem.Spec PyProof.Rows L2

/-! ### equality of data -/
mutual
def D.py : D → PyData
  | .non => .none
  | .bl b => .bool b
  | .int i => .int i
  | .str s => .str s
  | .ref _ => .none
  | .tup ds => .tuple (D.pys ds)
  | .ktup ds => .tuple (D.pys ds)
def D.pys : List D → List PyData
  | [] => []
  | d :: ds => d.py :: D.pys ds
end
mutual
def D.pure : D → Bool
  | .ref _ => false
  | .tup ds => D.pures ds
  | .ktup ds => D.pures ds
  | _ => true
def D.pures : List D → Bool
  | [] => true
  | d :: ds => d.pure && D.pures ds
end
section
variable {K : PySem.W.Frag} {H : Hp}
mutual
theorem Rep.dp : ∀ (d : D) (v : V), d.pure = true → Rep K H d v → Dp K H v d.py
  | .non, _, _, h => by cases h; exact .non
  | .bl b, _, _, h => by cases h; exact .bl b
  | .int i, _, _, h => by cases h; exact .int i
  | .str s, _, _, h => by cases h; exact .str s
  | .ref a, _, p, h => by simp [D.pure] at p
  | .tup ds, _, p, h => by
    cases h with
    | tup h1 h2 => exact .tup (.inl (.inl h1)) (Reps.dp ds _ p h2)
  | .ktup ds, _, p, h => by
    cases h with
    | ktup h1 h2 => exact .tup h1 (Reps.dp ds _ p h2)
theorem Reps.dp : ∀ (ds : List D) (vs : List V), D.pures ds = true → Reps K H ds vs → DpAll K H vs (D.pys ds)
  | [], _, _, h => by cases h; exact .nil
  | d :: ds, _, p, h => by
    cases h with
    | cons h1 h2 =>
      simp only [D.pures, Bool.and_eq_true] at p
      exact .cons (Rep.dp d _ p.1 h1) (Reps.dp ds _ p.2 h2)
end
end
/-- a value's data, through a list of the store -/
inductive PyOf (m : M) : D → PyData → Prop
  | d {d : D} (h : d.pure = true) : PyOf m d d.py
  | l {a : Addr} {ds : List D} (h : m.mu a = some (.lst ds)) (p : D.pures ds = true) : PyOf m (.ref a) (.list (D.pys ds))
theorem PyOf.dp {K : PySem.W.Frag} {H : Hp} {m : M} {d : D} {v : V} {p : PyData} (h : PyOf m d p) (r : Rep K H d v) (rh : RelH K H m) : Dp K H v p := by
  cases h with
  | d h => exact Rep.dp d v h r
  | l h p =>
    cases r
    obtain ⟨xs, e, rs⟩ := rh.obj _ _ h
    exact .lst (SqL.of e) (Reps.dp _ _ p rs)
def rdEqG (neg : Bool) : DR2 := fun x y m Q => ∃ p q, PyOf m x p ∧ PyOf m y q ∧ SeqAt.shaped p = true ∧ SeqAt.shaped q = true ∧ Q (.bl (if neg then !PyData.eqv p q else PyData.eqv p q)) m
/-- ==, !=: two ints, two texts; else data -/
def rdEq (neg : Bool) : DR2 := fun x y m Q => match x, y with
  | .int i, .int j => Q (.bl (if neg then !(i == j) else i == j)) m
  | .str s, .str t => Q (.bl (if neg then !(s == t) else s == t)) m
  | x, y => rdEqG neg x y m Q
theorem opl_eqG {K : PySem.W.Frag} : OpL K (rEqD K) (rdEqG false) := fun x y vx vy H m Q' Q rx ry rh ⟨p, q, h1, h2, s1, s2, q3⟩ f =>
  ⟨p, q, h1.dp rx rh, h2.dp ry rh, s1, s2, f _ m q3 _ H (Ts.refl _ _) (.bl _) rh⟩
theorem opl_neG {K : PySem.W.Frag} : OpL K (rNeD K) (rdEqG true) := fun x y vx vy H m Q' Q rx ry rh ⟨p, q, h1, h2, s1, s2, q3⟩ f =>
  ⟨p, q, h1.dp rx rh, h2.dp ry rh, s1, s2, f _ m q3 _ H (Ts.refl _ _) (.bl _) rh⟩
theorem opl_eq {K : PySem.W.Frag} : OpL K (fun x y H Q => L2.rEq x y H Q ∨ rEqD K x y H Q) (rdEq false) := fun x y vx vy H m Q' Q rx ry rh q f => by
  cases x <;> cases y <;> first | exact .inr (opl_eqG _ _ vx vy H m Q' Q rx ry rh q f) | skip
  · cases rx; cases ry
    refine .inl ⟨rfl, ?_⟩
    rw [dec_int]
    exact f _ m q _ H (Ts.refl _ _) (.bl _) rh
  · cases rx; cases ry
    refine .inl ⟨rfl, ?_⟩
    rw [dec_str]
    exact f _ m q _ H (Ts.refl _ _) (.bl _) rh
theorem opl_ne {K : PySem.W.Frag} : OpL K (fun x y H Q => rNe x y H Q ∨ rNeD K x y H Q) (rdEq true) := fun x y vx vy H m Q' Q rx ry rh q f => by
  cases x <;> cases y <;> first | exact .inr (opl_neG _ _ vx vy H m Q' Q rx ry rh q f) | skip
  · cases rx; cases ry
    refine .inl ⟨rfl, ?_⟩
    rw [dec_int]
    exact f _ m q _ H (Ts.refl _ _) (.bl _) rh
  · cases rx; cases ry
    refine .inl ⟨rfl, ?_⟩
    rw [dec_str]
    exact f _ m q _ H (Ts.refl _ _) (.bl _) rh

section
variable {X : Cx} {a b e : Expr} {ta tb te : DTr} {pos : Pos}

/-! ### operators -/
def rdAdd : DR2 := fun x y m Q => match x, y with
  | .int i, .int j => Q (.int (i + j)) m
  | .str s, .str t => s.length + t.length ≤ sizeLine ∧ Q (.str (s ++ t)) m
  | .tup xs, .tup ys => xs ≠ [] ∧ xs.length + ys.length ≤ sizeLine ∧ Q (.tup (xs ++ ys)) m
  | .ref l, .ref k => ∃ xs ys, m.mu l = some (.lst xs) ∧ m.mu k = some (.lst ys) ∧ xs.length + ys.length ≤ sizeLine ∧ ∀ p, m.mu p = none → Q (.ref p) (m.set p (.lst (xs ++ ys)))
  | _, _ => False
theorem de_add (ha : DE X a ta) (hb : DE X b tb) : DE X (.BinOp a .Add b pos) (dOp rdAdd ta tb) := by
  refine (pe_op (((op_add.or op_add_str).or op_cat).or op_catT) ha hb).imp (up_op ?_)
  intro x y vx vy H m Q' Q rx ry rh h f
  cases x <;> cases y <;> first | exact h.elim | skip
  · cases rx; cases ry
    exact .inl (.inl (.inl ⟨_, _, rfl, rfl, f _ m h _ H (Ts.refl _ _) (.int _) rh⟩))
  · cases rx; cases ry
    exact .inl (.inl (.inr ⟨_, _, rfl, rfl, h.1, f _ m h.2 _ H (Ts.refl _ _) (.str _) rh⟩))
  · cases rx; cases ry
    obtain ⟨xs, ys, h1, h2, h3, q⟩ := h
    obtain ⟨us, e1, r1⟩ := rh.obj _ _ h1
    obtain ⟨ws, e2, r2⟩ := rh.obj _ _ h2
    refine .inl (.inr ⟨_, _, us, ws, rfl, rfl, e1, e2, by rw [← r1.length, ← r2.length]; exact h3, fun p hp => ?_⟩)
    exact f _ _ (q p (rh.fresh hp)) _ _ (Ts.new hp) (.ref p) (rh.newO hp ⟨_, upd_same, Reps.mono (Ts.new hp) _ _ (r1.append r2)⟩)
  · rename_i xs ys
    cases rx with
    | tup h1 r1 =>
      rename_i p us
      cases ry with
      | tup h2 r2 =>
        rename_i p' ws
        obtain ⟨n1, n2, q⟩ := h
        refine .inr ⟨p, p', us, ws, rfl, rfl, .inl (.inl h1), .inl (.inl h2), fun z => ?_, by rw [← r1.length, ← r2.length]; exact n2, fun z => ?_, fun z l hl => ?_⟩
        · subst z; have := r1.length; apply n1; exact List.eq_nil_of_length_eq_zero (by simpa using this)
        · subst z
          have : ys = [] := List.eq_nil_of_length_eq_zero (by simpa using r2.length)
          subst this
          rw [List.append_nil] at q
          exact f _ m q _ H (Ts.refl _ _) (.tup h1 r1) rh
        · exact f _ m q _ _ (Ts.new hl) (.tup upd_same (Reps.mono (Ts.new hl) _ _ (r1.append r2))) (rh.new hl)
def rdI (C : Int → Int → Prop) (g : Int → Int → Int) : DR2 := fun x y m Q => match x, y with
  | .int i, .int j => C i j ∧ Q (.int (g i j)) m
  | _, _ => False
theorem opl_I {K : PySem.W.Frag} {C : Int → Int → Prop} {g : Int → Int → Int} : OpL K (rI C fun i j => .int (g i j)) (rdI C g) := by
  intro x y vx vy H m Q' Q rx ry rh h f
  cases x <;> cases y <;> first | exact h.elim | skip
  cases rx; cases ry
  exact ⟨_, _, rfl, rfl, h.1, f _ m h.2 _ H (Ts.refl _ _) (.int _) rh⟩
theorem opl_I0 {K : PySem.W.Frag} {g : Int → Int → Int} : OpL K (rI0 fun i j => .int (g i j)) (rdI (fun _ _ => True) g) := by
  intro x y vx vy H m Q' Q rx ry rh h f
  cases x <;> cases y <;> first | exact h.elim | skip
  cases rx; cases ry
  exact ⟨_, _, rfl, rfl, f _ m h.2 _ H (Ts.refl _ _) (.int _) rh⟩
theorem de_sub (ha : DE X a ta) (hb : DE X b tb) : DE X (.BinOp a .Sub b pos) (dOp (rdI (fun _ _ => True) (· - ·)) ta tb) := (pe_op op_sub ha hb).imp (up_op opl_I0)
theorem de_mul (ha : DE X a ta) (hb : DE X b tb) : DE X (.BinOp a .Mult b pos) (dOp (rdI CMul (· * ·)) ta tb) := (pe_op op_mul ha hb).imp (up_op opl_I)
theorem de_xor (ha : DE X a ta) (hb : DE X b tb) : DE X (.BinOp a .BitXor b pos) (dOp (rdI (fun _ _ => True) Builtin.bitXor) ta tb) := (pe_op op_xor ha hb).imp (up_op opl_I0)
theorem de_mod (ha : DE X a ta) (hb : DE X b tb) : DE X (.BinOp a .Mod b pos) (dOp (rdI (fun _ j => 0 < j) (· % ·)) ta tb) := (pe_op op_mod ha hb).imp (up_op opl_I)
theorem de_pow (ha : DE X a ta) (hb : DE X b tb) : DE X (.BinOp a .Pow b pos) (dOp (rdI CPow (fun i j => i ^ j.toNat)) ta tb) := (pe_op op_pow ha hb).imp (up_op opl_I)
theorem de_neg (ha : DE X a ta) : DE X (.UnaryOp .USub a pos) (dUn (fun x m Q => match x with | .int i => Q (.int (-i)) m | _ => False) ta) := by
  refine (pe_un un_neg ha).imp (up_un ?_)
  intro x vx H m Q' Q rx rh h f
  cases x <;> first | exact h.elim | skip
  cases rx
  exact ⟨_, rfl, f _ m h _ H (Ts.refl _ _) (.int _) rh⟩

/-! ### comparisons, as values and as tests -/
def rdB (p : Int → Int → Bool) : DR2 := fun x y m Q => match x, y with
  | .int i, .int j => Q (.bl (p i j)) m
  | _, _ => False
theorem opl_B {K : PySem.W.Frag} {p : Int → Int → Bool} : OpL K (rI0 fun i j => .bl (p i j)) (rdB p) := by
  intro x y vx vy H m Q' Q rx ry rh h f
  cases x <;> cases y <;> first | exact h.elim | skip
  cases rx; cases ry
  exact ⟨_, _, rfl, rfl, f _ m h _ H (Ts.refl _ _) (.bl _) rh⟩
/-- a comparison operator's rule -/
structure DC (X : Cx) (op : CmpOp) (R : DR2) : Prop where
  ex : ∃ r, OpR X (compareOp op) r ∧ OpL X.K r R
theorem dc_lt : DC X .Lt (rdB fun i j => decide (i < j)) := ⟨_, op_lt, opl_B⟩
theorem dc_le : DC X .LtE (rdB fun i j => decide (i ≤ j)) := ⟨_, op_le, opl_B⟩
theorem dc_gt : DC X .Gt (rdB fun i j => decide (j < i)) := ⟨_, op_gt, opl_B⟩
theorem dc_ge : DC X .GtE (rdB fun i j => decide (j ≤ i)) := ⟨_, op_ge, opl_B⟩
theorem dc_eq {k : Nat} (hr : Room k X.A) : DC X .Eq (rdEq false) := ⟨_, op_eq.or (op_eqD hr.units), opl_eq⟩
theorem dc_ne {k : Nat} (hr : Room k X.A) : DC X .NotEq (rdEq true) := ⟨_, op_ne.or (op_neD hr.units), opl_ne⟩
def rdIsN (neg : Bool) : DR2 := fun x y m Q => match y with
  | .non => (match x with | .non => Q (.bl !neg) m | _ => Q (.bl neg) m)
  | _ => False
theorem dc_isN : DC X .Is (rdIsN false) := ⟨_, op_isN, fun x y vx vy H m Q' Q rx ry rh h f => by
  cases y <;> first | exact h.elim | skip
  cases ry
  refine ⟨rfl, ?_⟩
  cases x <;> cases rx <;> exact f _ m h _ H (Ts.refl _ _) (.bl _) rh⟩
theorem dc_notN : DC X .IsNot (rdIsN true) := ⟨_, op_notN, fun x y vx vy H m Q' Q rx ry rh h f => by
  cases y <;> first | exact h.elim | skip
  cases ry
  refine ⟨rfl, ?_⟩
  cases x <;> cases rx <;> exact f _ m h _ H (Ts.refl _ _) (.bl _) rh⟩
/-- membership in a tuple or list of flat things -/
def flatD : D → Bool
  | .non => true | .bl _ => true | .int _ => true | .str _ => true | _ => false
def eqFl : D → D → Bool
  | .non, .non => true
  | .bl a, .bl b => a == b
  | .bl a, .int b => (if a then 1 else 0) == b
  | .int a, .bl b => a == (if b then 1 else 0)
  | .int a, .int b => a == b
  | .str a, .str b => a == b
  | _, _ => false
def SeqD (m : M) (y : D) (ds : List D) : Prop := y = .tup ds ∨ y = .ktup ds ∨ ∃ a, y = .ref a ∧ m.mu a = some (.lst ds)
theorem SeqD.of {K : PySem.W.Frag} {H : Hp} {m : M} {y : D} {ds : List D} {v : V} (h : SeqD m y ds) (r : Rep K H y v) (rh : RelH K H m) : ∃ p xs, v = .ref p ∧ (SqL K H p xs ∨ SqT K H p xs) ∧ Reps K H ds xs := by
  rcases h with rfl | rfl | ⟨a, rfl, h⟩
  · cases r with
    | tup h1 h2 => exact ⟨_, _, rfl, .inr (.inl (.inl h1)), h2⟩
  · cases r with
    | ktup h1 h2 => exact ⟨_, _, rfl, .inr h1, h2⟩
  · cases r
    obtain ⟨xs, e, rs⟩ := rh.obj _ _ h
    exact ⟨_, _, rfl, .inl (SqL.of e), rs⟩
def rdIn (neg : Bool) : DR2 := fun x y m Q => ∃ ds, SeqD m y ds ∧ flatD x = true ∧ ds.all flatD = true ∧ Q (.bl (if neg then !(ds.any fun d => eqFl d x) else ds.any fun d => eqFl d x)) m
theorem flat_v {K : PySem.W.Frag} {H : Hp} {d : D} {v : V} (h : flatD d = true) (r : Rep K H d v) : flatV v = true := by
  cases r <;> first | rfl | (simp [flatD] at h)
theorem eq_v {K : PySem.W.Frag} {H : Hp} {d e : D} {v u : V} (h : flatD d = true) (h' : flatD e = true) (r : Rep K H d v) (r' : Rep K H e u) : eqV v u = eqFl d e := by
  cases r <;> cases r' <;> first | rfl | (simp [flatD] at h) | (simp [flatD] at h')
theorem flat_all {K : PySem.W.Frag} {H : Hp} : ∀ {ds : List D} {vs : List V}, ds.all flatD = true → Reps K H ds vs → vs.all flatV = true
  | [], _, _, r => by cases r; rfl
  | d :: ds, _, h, r => by
    cases r with
    | cons r1 r2 =>
      simp only [List.all_cons, Bool.and_eq_true] at h ⊢
      exact ⟨flat_v h.1 r1, flat_all h.2 r2⟩
theorem in_all {K : PySem.W.Frag} {H : Hp} {x : D} {v : V} (hx : flatD x = true) (rx : Rep K H x v) : ∀ {ds : List D} {vs : List V}, ds.all flatD = true → Reps K H ds vs → inV v vs = ds.any fun d => eqFl d x
  | [], _, _, r => by cases r; rfl
  | d :: ds, _, h, r => by
    cases r with
    | cons r1 r2 =>
      simp only [List.all_cons, Bool.and_eq_true] at h
      have ih := in_all hx rx h.2 r2
      unfold inV at ih ⊢
      rw [List.any_cons, List.any_cons, ih, eq_v h.1 hx r1 rx]
theorem opl_in {K : PySem.W.Frag} (neg : Bool) : OpL K (rIn K neg) (rdIn neg) := fun x y vx vy H m Q' Q rx ry rh ⟨ds, hs, fx, fs, q⟩ f => by
  obtain ⟨p, xs, rfl, h, rs⟩ := hs.of ry rh
  refine ⟨p, xs, rfl, h, flat_v fx rx, flat_all fs rs, ?_⟩
  rw [in_all fx rx fs rs]
  exact f _ m q _ H (Ts.refl _ _) (.bl _) rh
theorem dc_in : DC X .In (rdIn false) := ⟨_, op_in_seq, opl_in false⟩
theorem dc_notIn : DC X .NotIn (rdIn true) := ⟨_, op_notIn_seq, opl_in true⟩
/-- one sign in a text -/
def rdInS : DR2 := fun x y m Q => ∃ (c : Nat) (z : Str), x = .str ⟨#[c]⟩ ∧ y = .str z ∧ Q (.bl (decide (c ∈ z.cps.toList))) m
theorem dc_inS : DC X .In rdInS := ⟨_, op_in_sign, fun x y vx vy H m Q' Q rx ry rh ⟨c, z, e1, e2, q⟩ f => by
  subst e1 e2; cases rx; cases ry
  exact ⟨c, z, rfl, rfl, f _ m q _ H (Ts.refl _ _) (.bl _) rh⟩⟩

theorem de_cmp {op : CmpOp} {R : DR2} (ho : DC X op R) (ha : DE X a ta) (hb : DE X b tb) (hm : behindInMarks op b = false := by first | exact nobehind _ (by decide) (by decide) | rfl) : DE X (.Compare a [op] [b] pos) (dOp R ta tb) := by
  obtain ⟨r, h1, h2⟩ := ho.ex
  exact (pe_cmpR h1 ha hb hm).imp (up_op h2)
def dB (t : DTr) : DTT := fun δ m Q => t δ m fun x m1 => ∃ c, x = .bl c ∧ Q c m1
theorem up_B {K : PySem.W.Frag} {t : DTr} : ∀ σ H Q, upB K (dB t) σ H Q → up K t σ H (fun x H' => ∃ k, x = .bl k ∧ Q k H') := fun σ H Q ⟨δ, m, Q', rs, rh, q, f⟩ =>
  ⟨δ, m, _, rs, rh, q, fun d m1 ⟨c, e, q1⟩ v H' t1 r1 rh1 => by subst e; cases r1; exact ⟨c, rfl, f c m1 q1 H' t1 rh1⟩⟩
theorem dt_cmp {op : CmpOp} {R : DR2} (ho : DC X op R) (ha : DE X a ta) (hb : DE X b tb) (hm : behindInMarks op b = false := by first | exact nobehind _ (by decide) (by decide) | rfl) : DTst X (.Compare a [op] [b] pos) (dB (dOp R ta tb)) := by
  obtain ⟨r, h1, h2⟩ := ho.ex
  exact (pt_cmpR h1 ha hb hm).imp fun σ H Q q => up_op h2 σ H _ (up_B σ H Q q)
theorem dt_val (h : DE X e te) (he : ∀ whole, isTrue e X.env whole = (do let v ← whole; standAt e.pos; holding [v] (truthy v)) := by intro _; rfl) : DTst X e (dB te) := (pt_val h he).imp up_B
def dChain (R R' : DR2) (ta tb tc : DTr) : DTr := fun δ m Q => ta δ m fun x m1 => tb δ m1 fun y m2 => R x y m2 fun z m3 => ∃ k, z = .bl k ∧ if k = true then tc δ m3 fun w m4 => R' y w m4 Q else Q (.bl false) m3
theorem up_chain {K : PySem.W.Frag} {r r' : R2} {R R' : DR2} {tc : DTr} (h2 : OpL K r R) (h2' : OpL K r' R') : ∀ σ H Q, up K (dChain R R' ta tb tc) σ H Q → tChain r r' (up K ta) (up K tb) (up K tc) σ H Q := fun σ H Q ⟨δ, m, Q', rs, rh, q, f⟩ => by
  refine ⟨δ, m, _, rs, rh, q, fun x m1 q1 v H1 t1 r1 rh1 => ⟨δ, m1, _, rs.mono t1, rh1, q1, fun y m2 q2 u H2 t2 r2 rh2 => ?_⟩⟩
  refine h2 x y v u H2 m2 _ _ (Rep.mono t2 _ _ r1) r2 rh2 q2 fun z m3 ⟨k, ez, qk⟩ vz H3 t3 r3 rh3 => ?_
  subst ez; cases r3
  refine ⟨k, rfl, ?_⟩
  cases k with
  | true =>
    rw [if_pos rfl] at qk ⊢
    refine ⟨δ, m3, _, rs.mono ((t1.trans t2).trans t3), rh3, qk, fun w m4 q4 vw H4 t4 r4 rh4 => ?_⟩
    exact h2' y w u vw H4 m4 Q' Q (Rep.mono (t3.trans t4) _ _ r2) r4 rh4 q4 (f.mono (((t1.trans t2).trans t3).trans t4))
  | false =>
    rw [if_neg Bool.false_ne_true] at qk ⊢
    exact f _ m3 qk _ H3 ((t1.trans t2).trans t3) (.bl _) rh3
theorem de_chain {op op' : CmpOp} {R R' : DR2} {c : Expr} {tc : DTr} (ho : DC X op R) (ho' : DC X op' R') (ha : DE X a ta) (hb : DE X b tb) (hc : DE X c tc)
    (hm : lastMarks [op, op'] [b, c] = false := by with_unfolding_all rfl) : DE X (.Compare a [op, op'] [b, c] pos) (dChain R R' ta tb tc) := by
  obtain ⟨r, h1, h2⟩ := ho.ex
  obtain ⟨r', h1', h2'⟩ := ho'.ex
  exact (pe_chain h1 h1' ha hb hc hm).imp (up_chain h2 h2')
theorem dt_chain {op op' : CmpOp} {R R' : DR2} {c : Expr} {tc : DTr} (ho : DC X op R) (ho' : DC X op' R') (ha : DE X a ta) (hb : DE X b tb) (hc : DE X c tc)
    (hm : lastMarks [op, op'] [b, c] = false := by with_unfolding_all rfl) : DTst X (.Compare a [op, op'] [b, c] pos) (dB (dChain R R' ta tb tc)) := by
  obtain ⟨r, h1, h2⟩ := ho.ex
  obtain ⟨r', h1', h2'⟩ := ho'.ex
  exact (pt_chain h1 h1' ha hb hc hm).imp fun σ H Q q => up_chain h2 h2' σ H _ (up_B σ H Q q)

/-! ### and, or, not; if-expressions -/
variable {tA tB : DTT} {rest : List Expr}
def dNot (t : DTT) : DTT := fun δ m Q => t δ m fun c m1 => Q (!c) m1
theorem dt_not (ha : DTst X a tA) : DTst X (.UnaryOp .Not a pos) (dNot tA) := (pt_not ha).imp fun σ H Q ⟨δ, m, Q', rs, rh, q, f⟩ =>
  ⟨δ, m, _, rs, rh, q, fun c m1 q1 H1 t1 rh1 => f _ m1 q1 H1 t1 rh1⟩
def dAnd (t u : DTT) : DTT := fun δ m Q => t δ m fun c m1 => if c = true then u δ m1 Q else Q false m1
def dOr (t u : DTT) : DTT := fun δ m Q => t δ m fun c m1 => if c = true then Q true m1 else u δ m1 Q
theorem dw_and1 (ha : DTst X a tA) : DTW X (.BoolOp .And [a] pos) tA := pw_and1 ha
theorem dw_or1 (ha : DTst X a tA) : DTW X (.BoolOp .Or [a] pos) tA := pw_or1 ha
theorem dw_and (ha : DTst X a tA) (hb : DTW X (.BoolOp .And (b :: rest) pos) tB) : DTW X (.BoolOp .And (a :: b :: rest) pos) (dAnd tA tB) := (pw_and ha hb).imp fun σ H Q ⟨δ, m, Q', rs, rh, q, f⟩ =>
  ⟨δ, m, _, rs, rh, q, fun c m1 q1 H1 t1 rh1 => by
    cases c with
    | true => exact ⟨δ, m1, Q', rs.mono t1, rh1, q1, fun c m2 q2 H2 t2 rh2 => f c m2 q2 H2 (t1.trans t2) rh2⟩
    | false => exact f _ m1 q1 H1 t1 rh1⟩
theorem dw_or (ha : DTst X a tA) (hb : DTW X (.BoolOp .Or (b :: rest) pos) tB) : DTW X (.BoolOp .Or (a :: b :: rest) pos) (dOr tA tB) := (pw_or ha hb).imp fun σ H Q ⟨δ, m, Q', rs, rh, q, f⟩ =>
  ⟨δ, m, _, rs, rh, q, fun c m1 q1 H1 t1 rh1 => by
    cases c with
    | false => exact ⟨δ, m1, Q', rs.mono t1, rh1, q1, fun c m2 q2 H2 t2 rh2 => f c m2 q2 H2 (t1.trans t2) rh2⟩
    | true => exact f _ m1 q1 H1 t1 rh1⟩
theorem dt_w {t : DTT} (h : DTW X e t) : DTst X e t := h.pt
def dAndV (ta tb : DTr) : DTr := fun δ m Q => ta δ m fun x m1 => ∃ c, x = .bl c ∧ if c = true then tb δ m1 Q else Q (.bl false) m1
def dOrV (ta tb : DTr) : DTr := fun δ m Q => ta δ m fun x m1 => ∃ c, x = .bl c ∧ if c = true then Q (.bl true) m1 else tb δ m1 Q
theorem de_one {op} (h : DE X a ta) : DE X (.BoolOp op [a] pos) ta := pe_one h
theorem de_and (ha : DE X a ta) (hb : DE X (.BoolOp .And (b :: rest) pos) tb) : DE X (.BoolOp .And (a :: b :: rest) pos) (dAndV ta tb) := (pe_and ha hb).imp fun σ H Q ⟨δ, m, Q', rs, rh, q, f⟩ =>
  ⟨δ, m, _, rs, rh, q, fun x m1 ⟨c, e, q1⟩ v H1 t1 r1 rh1 => by
    subst e; cases r1
    refine ⟨c, rfl, ?_⟩
    cases c with
    | true => exact ⟨δ, m1, Q', rs.mono t1, rh1, q1, f.mono t1⟩
    | false => exact f _ m1 q1 _ H1 t1 (.bl _) rh1⟩
theorem de_or (ha : DE X a ta) (hb : DE X (.BoolOp .Or (b :: rest) pos) tb) : DE X (.BoolOp .Or (a :: b :: rest) pos) (dOrV ta tb) := (pe_or ha hb).imp fun σ H Q ⟨δ, m, Q', rs, rh, q, f⟩ =>
  ⟨δ, m, _, rs, rh, q, fun x m1 ⟨c, e, q1⟩ v H1 t1 r1 rh1 => by
    subst e; cases r1
    refine ⟨c, rfl, ?_⟩
    cases c with
    | false => exact ⟨δ, m1, Q', rs.mono t1, rh1, q1, f.mono t1⟩
    | true => exact f _ m1 q1 _ H1 t1 (.bl _) rh1⟩
theorem de_not (ha : DE X a ta) : DE X (.UnaryOp .Not a pos) (fun δ m Q => ta δ m fun x m1 => ∃ c, x = .bl c ∧ Q (.bl !c) m1) := (pe_not ha).imp fun σ H Q ⟨δ, m, Q', rs, rh, q, f⟩ =>
  ⟨δ, m, _, rs, rh, q, fun x m1 ⟨c, e, q1⟩ v H1 t1 r1 rh1 => by
    subst e; cases r1
    exact ⟨c, rfl, f _ m1 q1 _ H1 t1 (.bl _) rh1⟩⟩
def dIf (t : DTT) (ta tb : DTr) : DTr := fun δ m Q => t δ m fun c m1 => if c = true then ta δ m1 Q else tb δ m1 Q
theorem de_ifE {c : Expr} (hc : DTst X c tA) (ha : DE X a ta) (hb : DE X b tb) : DE X (.IfExp c a b pos) (dIf tA ta tb) := (pe_ifExp hc ha hb).imp fun σ H Q ⟨δ, m, Q', rs, rh, q, f⟩ =>
  ⟨δ, m, _, rs, rh, q, fun c m1 q1 H1 t1 rh1 => by
    cases c with
    | true => exact ⟨δ, m1, Q', rs.mono t1, rh1, q1, f.mono t1⟩
    | false => exact ⟨δ, m1, Q', rs.mono t1, rh1, q1, f.mono t1⟩⟩
end
end DL

namespace DL
open PySem PySem.Spec PyProof.Rows L2
section
variable {X : Cx} {a b e o : Expr} {ta tb te to : DTr} {es : List Expr} {t : DTA} {pos apos : Pos}

/-! ### subscripts and slices -/
def rdIx : DR2 := fun x y m Q => match x, y with
  | .tup ds, .int i => ∃ d, atI ds i = some d ∧ Q d m
  | .ktup ds, .int i => ∃ d, atI ds i = some d ∧ Q d m
  | .ref a, .int i => ∃ ds d, m.mu a = some (.lst ds) ∧ atI ds i = some d ∧ Q d m
  | .str z, .int i => ∃ c, z.length ≤ sizeLine ∧ atI z.cps.toList i = some c ∧ Q (.str ⟨#[c]⟩) m
  | _, _ => False
theorem atI_rep {K : PySem.W.Frag} {H : Hp} {ds : List D} {vs : List V} {i : Int} {d : D} (r : Reps K H ds vs) (h : atI ds i = some d) : ∃ v, atI vs i = some v ∧ Rep K H d v := by
  unfold atI at h ⊢
  rw [← r.length]
  cases e : ixN ds.length i with
  | none => rw [e] at h; cases h
  | some j =>
    rw [e] at h
    exact r.get h
theorem opl_ix {K : PySem.W.Frag} : OpL K (rIx K) rdIx := by
  intro x y vx vy H m Q' Q rx ry rh h f
  cases x <;> cases y <;> first | exact h.elim | skip
  · cases rx; cases ry
    obtain ⟨c, h1, h2, q⟩ := h
    exact .inr (.inr ⟨_, _, c, rfl, rfl, h1, h2, f _ m q _ H (Ts.refl _ _) (.str _) rh⟩)
  · cases rx; cases ry
    obtain ⟨ds, d, h1, h2, q⟩ := h
    obtain ⟨xs, e, rs⟩ := rh.obj _ _ h1
    obtain ⟨v, e2, rv⟩ := atI_rep rs h2
    exact .inl ⟨_, xs, _, v, rfl, rfl, SqL.of e, e2, f _ m q _ H (Ts.refl _ _) rv rh⟩
  · cases ry
    cases rx with
    | tup h1 rs =>
      obtain ⟨d, h2, q⟩ := h
      obtain ⟨v, e2, rv⟩ := atI_rep rs h2
      exact .inr (.inl ⟨_, _, _, v, rfl, rfl, .inl (.inl h1), e2, f _ m q _ H (Ts.refl _ _) rv rh⟩)
  · cases ry
    cases rx with
    | ktup h1 rs =>
      obtain ⟨d, h2, q⟩ := h
      obtain ⟨v, e2, rv⟩ := atI_rep rs h2
      exact .inr (.inl ⟨_, _, _, v, rfl, rfl, h1, e2, f _ m q _ H (Ts.refl _ _) rv rh⟩)
theorem de_ix (ha : DE X a ta) (hb : DE X b tb) (hs : PlainIx b := by exact fun _ _ => rfl) : DE X (.Subscript a b pos) (dOp rdIx ta tb) := (pe_ix ix_seq ha hb hs).imp (up_op opl_ix)

abbrev DTO := Sl → M → (Option Int → M → Prop) → Prop
def FitsO (K : PySem.W.Frag) (H : Hp) (Q' : Option Int → M → Prop) (Q : Option Int → Hp → Prop) : Prop := ∀ b m, Q' b m → ∀ H', Ts K H H' → RelH K H' m → Q b H'
def upO (K : PySem.W.Frag) (t : DTO) : TO := fun σ H Q => ∃ δ m Q', RelS K H δ σ ∧ RelH K H m ∧ t δ m Q' ∧ FitsO K H Q' Q
def DPo (X : Cx) (e : Option Expr) (t : DTO) : Prop := PO X e (upO X.K t)
theorem _root_.L2.PO.imp {X : Cx} {e : Option Expr} {t t' : TO} (h : PO X e t) (i : ∀ σ H Q, t' σ H Q → t σ H Q) : PO X e t' := ⟨fun pins s σ H Q I q => h.run pins s σ H Q I (i σ H Q q)⟩
def dNoPart : DTO := fun _ m Q => Q none m
def dPart (t : DTr) : DTO := fun δ m Q => t δ m fun x m1 => ∃ i, x = .int i ∧ Q (some i) m1
theorem dpo_none : DPo X none dNoPart := po_none.imp fun σ H Q ⟨δ, m, Q', rs, rh, q, f⟩ => f none m q H (Ts.refl _ _) rh
theorem dpo_some (h : DE X e te) : DPo X (some e) (dPart te) := (po_some h).imp fun σ H Q ⟨δ, m, Q', rs, rh, q, f⟩ =>
  ⟨δ, m, _, rs, rh, q, fun x m1 ⟨i, e, q1⟩ v H1 t1 r1 rh1 => by subst e; cases r1; exact ⟨i, rfl, f _ m1 q1 H1 t1 rh1⟩⟩
def cutL {α : Type} (xs : List α) (lo hi : Option Int) : List α := (xs.drop (HT.sIx xs.length 0 lo)).take (HT.sIx xs.length xs.length hi - HT.sIx xs.length 0 lo)
theorem cut_rep {K : PySem.W.Frag} {H : Hp} {ds : List D} {vs : List V} (lo hi : Option Int) (r : Reps K H ds vs) : Reps K H (cutL ds lo hi) (cutV vs lo hi) := by
  unfold cutL cutV
  rw [← r.length]
  exact (r.drop _).take _
def rdSl (x : D) (lo hi : Option Int) (m : M) (Q : DK) : Prop := match x with
  | .tup ds => ¬ (HT.sIx ds.length 0 lo = 0 ∧ HT.sIx ds.length ds.length hi = ds.length) ∧ Q (.tup (cutL ds lo hi)) m
  | .ref a => ∃ ds, m.mu a = some (.lst ds) ∧ ∀ p, m.mu p = none → Q (.ref p) (m.set p (.lst (cutL ds lo hi)))
  | .str z => z.length ≤ sizeLine ∧ Q (.str (cutS z lo hi)) m
  | _ => False
def dSl (te : DTr) (tl th : DTO) : DTr := fun δ m Q => te δ m fun x m1 => tl δ m1 fun l m2 => th δ m2 fun h m3 => rdSl x l h m3 Q
theorem de_slice {lo hi : Option Expr} {tl th : DTO} {p2 : Pos} (he : DE X e te) (hl : DPo X lo tl) (hu : DPo X hi th) : DE X (.Subscript e (.Slice lo hi none p2) pos) (dSl te tl th) := by
  refine (pe_slice ((sl_list.or sl_tup).or sl_str) he hl hu).imp fun σ H Q ⟨δ, m, Q', rs, rh, q, f⟩ => ?_
  refine ⟨δ, m, _, rs, rh, q, fun x m1 q1 v H1 t1 r1 rh1 => ⟨δ, m1, _, rs.mono t1, rh1, q1, fun l m2 q2 H2 t2 rh2 => ⟨δ, m2, _, rs.mono (t1.trans t2), rh2, q2, fun h m3 q3 H3 t3 rh3 => ?_⟩⟩⟩
  have r3 := Rep.mono (t2.trans t3) _ _ r1
  have f3 := f.mono ((t1.trans t2).trans t3)
  cases x <;> first | exact q3.elim | skip
  · cases r3
    exact .inr ⟨_, rfl, q3.1, f3 _ m3 q3.2 _ H3 (Ts.refl _ _) (.str _) rh3⟩
  · cases r3
    obtain ⟨ds, e, q⟩ := q3
    obtain ⟨xs, e2, rr⟩ := rh3.obj _ _ e
    exact .inl (.inl ⟨_, xs, rfl, SqL.of e2, fun p hp => f3 _ _ (q p (rh3.fresh hp)) _ _ (Ts.new hp) (.ref p) (rh3.newO hp ⟨_, upd_same, Reps.mono (Ts.new hp) _ _ (cut_rep l h rr)⟩)⟩)
  · cases r3 with
    | tup e rr =>
      obtain ⟨n, q⟩ := q3
      exact .inl (.inr ⟨_, _, rfl, .inl (.inl e), by rw [← rr.length]; exact n, fun p hp => f3 _ m3 q _ _ (Ts.new hp) (.tup upd_same (Reps.mono (Ts.new hp) _ _ (cut_rep l h rr))) (rh3.new hp)⟩)

/-! ### built-in functions -/
def lenD (m : M) (x : D) (n : Nat) : Prop := match x with
  | .str z => z.length ≤ sizeLine ∧ n = z.length
  | .tup ds => n = ds.length
  | .ktup ds => n = ds.length
  | .ref a => ∃ ds, m.mu a = some (.lst ds) ∧ n = ds.length
  | _ => False
def rdLen : DRA := fun xs m Q => ∃ x n, xs = [x] ∧ lenD m x n ∧ Q (.int n) m
theorem Reps.one {K : PySem.W.Frag} {H : Hp} {d : D} {vs : List V} (r : Reps K H [d] vs) : ∃ v, vs = [v] ∧ Rep K H d v := by
  cases r with
  | cons r1 r2 => cases r2; exact ⟨_, rfl, r1⟩
theorem Reps.two {K : PySem.W.Frag} {H : Hp} {d e : D} {vs : List V} (r : Reps K H [d, e] vs) : ∃ v u, vs = [v, u] ∧ Rep K H d v ∧ Rep K H e u := by
  cases r with
  | cons r1 r2 => obtain ⟨u, rfl, r3⟩ := r2.one; exact ⟨_, _, rfl, r1, r3⟩
theorem len_v {K : PySem.W.Frag} {H : Hp} {m : M} {x : D} {v : V} {n : Nat} (h : lenD m x n) (r : Rep K H x v) (rh : RelH K H m) : LenV K v H n := by
  cases r with
  | str z => exact h
  | tup e rr => exact .inr ⟨_, .inl (.inl e), by rw [← rr.length]; exact h⟩
  | ktup e rr => exact .inr ⟨_, e, by rw [← rr.length]; exact h⟩
  | ref a =>
    obtain ⟨ds, e, hn⟩ := h
    obtain ⟨xs, e2, rr⟩ := rh.obj _ _ e
    exact .inl ⟨xs, SqL.of e2, by rw [← rr.length]; exact hn⟩
  | _ => exact h.elim
theorem argl_len {K : PySem.W.Frag} : ArgL K (fun xs H Q => ∃ x n, xs = [x] ∧ LenV K x H n ∧ Q (.int n) H) rdLen := fun xs vs H m Q' Q r rh ⟨x, n, e, hl, q⟩ f => by
  subst e
  obtain ⟨v, rfl, rv⟩ := r.one
  exact ⟨v, n, rfl, len_v hl rv rh, f _ m q _ H (Ts.refl _ _) (.int _) rh⟩
theorem de_blt {id : String} {x : Str} {p : Pos} {r : List V → Hp → VK → Prop} {R : DRA} (hc : CallR X (.builtin id) r) (hl : ArgL X.K r R) (hg : Gl X x) (hm : X.mg x = none) (hv : bootBuiltins x = some (.builtin id)) (ha : DA X (e :: es) t) (hn : x ≠ "__name__" := by decide) (hdb : (x == ("__debug__" : Str)) = false := by decide)
    (he : starEach (e :: es) X.env = (false, eval e X.env) :: starEach es X.env := by rfl) (hpl : (backTo pos (starEach es X.env)).any (·.1) = false := by rfl) : DE X (.Call (.Name x p) (e :: es) [] pos) (dArgs R t) :=
  (pe_callB hc hg hm hv ha hn hdb he hpl).imp (up_args hl)
theorem de_bty {T : String} {x : Str} {p : Pos} {r : List V → Hp → VK → Prop} {R : DRA} (hc : CallR X (.type T) r) (hl : ArgL X.K r R) (hg : Gl X x) (hm : X.mg x = none) (hv : bootBuiltins x = some (.type T)) (ha : DA X (e :: es) t) (hn : x ≠ "__name__" := by decide) (hdb : (x == ("__debug__" : Str)) = false := by decide)
    (he : starEach (e :: es) X.env = (false, eval e X.env) :: starEach es X.env := by rfl) (hpl : (backTo pos (starEach es X.env)).any (·.1) = false := by rfl) : DE X (.Call (.Name x p) (e :: es) [] pos) (dArgs R t) :=
  (pe_callTy hc hg hm hv ha hn hdb he hpl).imp (up_args hl)
theorem de_len {p : Pos} (hg : Gl X "len") (hm : X.mg "len" = none) (ha : DA X (e :: es) t)
    (he : starEach (e :: es) X.env = (false, eval e X.env) :: starEach es X.env := by rfl) (hpl : (backTo pos (starEach es X.env)).any (·.1) = false := by rfl) : DE X (.Call (.Name "len" p) (e :: es) [] pos) (dArgs rdLen t) :=
  de_blt call_len argl_len hg hm PySem.boot_len ha (by decide) (by decide) he hpl
def rdStr : DRA := fun xs m Q => ∃ i : Int, xs = [.int i] ∧ i.natAbs.log2 < 1920 ∧ Q (.str (toString i)) m
theorem argl_str {K : PySem.W.Frag} : ArgL K (fun xs H Q => ∃ i : Int, xs = [.int i] ∧ i.natAbs.log2 < 1920 ∧ Q (.str (toString i)) H) rdStr := fun xs vs H m Q' Q r rh ⟨i, e, hl, q⟩ f => by
  subst e
  obtain ⟨v, rfl, rv⟩ := r.one
  cases rv
  exact ⟨i, rfl, hl, f _ m q _ H (Ts.refl _ _) (.str _) rh⟩
/-- list(xs), tuple(xs) of a list or a tuple -/
def rdList : DRA := fun xs m Q => ∃ x ds, xs = [x] ∧ SeqD m x ds ∧ ∀ p, m.mu p = none → Q (.ref p) (m.set p (.lst ds))
theorem argl_list {K : PySem.W.Frag} : ArgL K (fun xs H Q => ∃ p ys, xs = [.ref p] ∧ (SqL K H p ys ∨ SqT K H p ys) ∧ ∀ l, H l = none → Q (.ref l) (upd H l (.lst ys))) rdList := fun xs vs H m Q' Q r rh ⟨x, ds, e, hs, q⟩ f => by
  subst e
  obtain ⟨v, rfl, rv⟩ := r.one
  obtain ⟨p, ys, rfl, h, rr⟩ := hs.of rv rh
  exact ⟨p, ys, rfl, h, fun l hl => f _ _ (q l (rh.fresh hl)) _ _ (Ts.new hl) (.ref l) (rh.newO hl ⟨ys, upd_same, Reps.mono (Ts.new hl) _ _ rr⟩)⟩
def rdTuple : DRA := fun xs m Q => ∃ x ds, xs = [x] ∧ ((∃ a, x = .ref a ∧ m.mu a = some (.lst ds)) ∨ x = .tup ds) ∧ Q (.tup ds) m
theorem argl_tuple {K : PySem.W.Frag} : ArgL K (fun xs H Q => ∃ p ys, xs = [.ref p] ∧ ((SqL K H p ys ∧ ∀ l, H l = none → Q (.ref l) (upd H l (.tup ys))) ∨ (SqT K H p ys ∧ Q (.ref p) H))) rdTuple := fun xs vs H m Q' Q r rh ⟨x, ds, e, hs, q⟩ f => by
  subst e
  obtain ⟨v, rfl, rv⟩ := r.one
  rcases hs with ⟨a, rfl, h⟩ | rfl
  · cases rv
    obtain ⟨ys, e, rr⟩ := rh.obj _ _ h
    exact ⟨_, ys, rfl, .inl ⟨SqL.of e, fun l hl => f _ m q _ _ (Ts.new hl) (.tup upd_same (Reps.mono (Ts.new hl) _ _ rr)) (rh.new hl)⟩⟩
  · cases rv with
    | tup e rr => exact ⟨_, _, rfl, .inr ⟨.inl (.inl e), f _ m q _ H (Ts.refl _ _) (.tup e rr) rh⟩⟩
/-- isinstance(x, T) -/
def tyD (m : M) (x : D) (T : String) : Prop := match x with
  | .non => T = "NoneType" | .bl _ => T = "bool" | .int _ => T = "int" | .str _ => T = "str" | .tup _ => T = "tuple"
  | .ktup _ => False
  | .ref a => (∃ ds, m.mu a = some (.lst ds) ∧ T = "list") ∨ (∃ ds, m.mu a = some (.dic ds) ∧ T = "dict") ∨ (∃ ds, m.mu a = some (.dit ds) ∧ T = "dict")
theorem ty_v {K : PySem.W.Frag} {H : Hp} {m : M} {x : D} {v : V} {T : String} (h : tyD m x T) (r : Rep K H x v) (rh : RelH K H m) : TyX K H v (.type T) := by
  cases r with
  | non => cases h; exact .base .non
  | bl b => cases h; exact .base (.bl b)
  | int i => cases h; exact .base (.int i)
  | str s => cases h; exact .base (.str s)
  | tup e rr => cases h; exact .base (.tup e)
  | ktup e rr => exact h.elim
  | ref a =>
    rcases h with ⟨ds, e, rfl⟩ | ⟨ds, e, rfl⟩ | ⟨ds, e, rfl⟩
    · obtain ⟨xs, e2, _⟩ := rh.obj _ _ e; exact .base (.lst e2)
    · obtain ⟨xs, e2, _⟩ := rh.obj _ _ e; exact .base (.dK e2)
    · obtain ⟨xs, e2, _⟩ := rh.obj _ _ e; exact .base (.dT e2)
def dIsi (T : String) (te : DTr) : DTr := fun δ m Q => te δ m fun x m1 => ∃ U b, tyD m1 x U ∧ kitB U T = some b ∧ Q (.bl b) m1
theorem de_isi {T : String} {p p2 : Pos} {y : Str} (hg : Gl X "isinstance") (hm : X.mg "isinstance" = none) (hb : bootBuiltins "isinstance" = some (.builtin "isinstance")) (he : DE X e te) (hT : PE X (.Name y p2) (tC (.ty T)))
    (hs : starEach [e, .Name y p2] X.env = (false, eval e X.env) :: starEach [.Name y p2] X.env := by rfl) (hpl : (backTo pos (starEach [.Name y p2] X.env)).any (·.1) = false := by rfl) : DE X (.Call (.Name "isinstance" p) [e, .Name y p2] [] pos) (dIsi T te) :=
  (pe_callB call_isi hg hm hb (pa_cons he (pa_cons hT pa_nil (by rfl)) hs) (by decide) (by decide) hs hpl).imp fun σ H Q ⟨δ, m, Q', rs, rh, q, f⟩ =>
    ⟨δ, m, _, rs, rh, q, fun x m1 ⟨U, b, hU, hk, q1⟩ v H1 t1 r1 rh1 => ⟨v, .ty T, .type U, .type T, b, rfl, .ty T, ty_v hU r1 rh1, kit_ty hk, f _ m1 q1 _ H1 t1 (.bl _) rh1⟩⟩

/-! ### methods of lists -/
abbrev DRM := D → List D → M → DK → Prop
def MtL (K : PySem.W.Frag) (r : V → List V → Hp → VK → Prop) (R : DRM) : Prop := ∀ (x : D) (ys : List D) (vx : V) (vs : List V) (H : Hp) (m : M) (Q' : DK) (Q : VK), Rep K H x vx → Reps K H ys vs → RelH K H m → R x ys m Q' → Fits K H Q' Q → r vx vs H Q
def isL (m : M) (x : D) : Prop := ∃ a ds, x = .ref a ∧ m.mu a = some (.lst ds)
def dMeth (R : DRM) (to : DTr) (t : DTA) : DTr := fun δ m Q => to δ m fun x m1 => isL m1 x ∧ t δ m1 fun ys m2 => R x ys m2 Q
def dMeth0 (R : DRM) (to : DTr) : DTr := fun δ m Q => to δ m fun x m1 => isL m1 x ∧ R x [] m1 Q
theorem isL_v {K : PySem.W.Frag} {H : Hp} {m : M} {x : D} {v : V} (h : isL m x) (r : Rep K H x v) (rh : RelH K H m) : tyV K "list" v H := by
  obtain ⟨a, ds, rfl, e⟩ := h
  cases r
  obtain ⟨xs, e2, _⟩ := rh.obj _ _ e
  exact .inl ⟨rfl, xs, SqL.of e2⟩
theorem up_bm {K : PySem.W.Frag} {r : V → List V → Hp → VK → Prop} {R : DRM} (h : MtL K r R) : ∀ σ H Q, up K (dMeth R to t) σ H Q → tBM K "list" r (up K to) (upA K t) σ H Q := fun σ H Q ⟨δ, m, Q', rs, rh, q, f⟩ =>
  ⟨δ, m, _, rs, rh, q, fun x m1 ⟨hl, q1⟩ v H1 t1 r1 rh1 => ⟨isL_v hl r1 rh1, δ, m1, _, rs.mono t1, rh1, q1, fun ys m2 q2 vs H2 t2 r2 rh2 => h x ys v vs H2 m2 Q' Q (Rep.mono t2 _ _ r1) r2 rh2 q2 (f.mono (t1.trans t2))⟩⟩
theorem up_bm0 {K : PySem.W.Frag} {r : V → List V → Hp → VK → Prop} {R : DRM} (h : MtL K r R) : ∀ σ H Q, up K (dMeth0 R to) σ H Q → tBM0 K "list" r (up K to) σ H Q := fun σ H Q ⟨δ, m, Q', rs, rh, q, f⟩ =>
  ⟨δ, m, _, rs, rh, q, fun x m1 ⟨hl, q1⟩ v H1 t1 r1 rh1 => ⟨isL_v hl r1 rh1, h x [] v [] H1 m1 Q' Q r1 .nil rh1 q1 (f.mono t1)⟩⟩
def rdAppend : DRM := fun x ys m Q => ∃ a ds y, x = .ref a ∧ ys = [y] ∧ m.mu a = some (.lst ds) ∧ ds.length < sizeLine ∧ Q .non (m.set a (.lst (ds ++ [y])))
theorem mtl_append {K : PySem.W.Frag} : MtL K rAppend rdAppend := fun x ys vx vs H m Q' Q rx rs rh ⟨a, ds, y, ex, ey, h, hz, q⟩ f => by
  subst ex ey
  cases rx
  obtain ⟨v, rfl, rv⟩ := rs.one
  obtain ⟨xs, e, rr⟩ := rh.obj _ _ h
  have t := rh.putTS (o := .lst (xs ++ [v])) h
  exact ⟨a, xs, v, rfl, rfl, e, by rw [← rr.length]; exact hz, f _ _ q _ _ t .non (rh.put h ⟨_, upd_same, Reps.mono t _ _ (rr.append (.cons rv .nil))⟩)⟩
def rdExtend : DRM := fun x ys m Q => ∃ a b ds es, x = .ref a ∧ ys = [.ref b] ∧ m.mu a = some (.lst ds) ∧ m.mu b = some (.lst es) ∧ ds.length + es.length ≤ sizeLine ∧ Q .non (m.set a (.lst (ds ++ es)))
theorem mtl_extend {K : PySem.W.Frag} : MtL K rExtend rdExtend := fun x ys vx vs H m Q' Q rx rs rh ⟨a, b, ds, es, ex, ey, h, hb, hz, q⟩ f => by
  subst ex ey
  cases rx
  obtain ⟨v, rfl, rv⟩ := rs.one
  cases rv
  obtain ⟨xs, e, rr⟩ := rh.obj _ _ h
  obtain ⟨zs, e2, rr2⟩ := rh.obj _ _ hb
  have t := rh.putTS (o := .lst (xs ++ zs)) h
  exact ⟨a, b, xs, zs, rfl, rfl, e, e2, by rw [← rr.length, ← rr2.length]; exact hz, f _ _ q _ _ t .non (rh.put h ⟨_, upd_same, Reps.mono t _ _ (rr.append rr2)⟩)⟩
def rdPopAt : DRM := fun x ys m Q => ∃ a ds i k y, x = .ref a ∧ ys = [.int i] ∧ m.mu a = some (.lst ds) ∧ -(2 ^ 63) ≤ i ∧ i < 2 ^ 63 ∧ seqIndex? i ds.length = some k ∧ ds[k]? = some y ∧ Q y (m.set a (.lst (ds.eraseIdx k)))
theorem mtl_popAt {K : PySem.W.Frag} : MtL K rPopAt rdPopAt := fun x ys vx vs H m Q' Q rx rs rh ⟨a, ds, i, k, y, ex, ey, h, h1, h2, hk, hy, q⟩ f => by
  subst ex ey
  cases rx
  obtain ⟨v, rfl, rv⟩ := rs.one
  cases rv
  obtain ⟨xs, e, rr⟩ := rh.obj _ _ h
  obtain ⟨u, hu, ru⟩ := rr.get hy
  have t := rh.putTS (o := .lst (xs.eraseIdx k)) h
  exact ⟨a, xs, i, k, u, rfl, rfl, e, h1, h2, by rw [← rr.length]; exact hk, hu, f _ _ q _ _ t (Rep.mono t _ _ ru) (rh.put h ⟨_, upd_same, Reps.mono t _ _ (rr.erase k)⟩)⟩
theorem de_meth {id : String} {name : Str} {r : V → List V → Hp → VK → Prop} {R : DRM} (slot : Slot "list" name id) (hty : typeOf (.builtin id) = pure (.type "method_descriptor")) (hm : MtR X id r) (hl : MtL X.K r R) (ho : DE X o to) (ha : DA X (e :: es) t)
    (hbase : attributeBase o name X.env (eval o X.env) = eval o X.env := by rfl)
    (hfew : ((backTo pos (starEach (e :: es) X.env)).all (fun x => !x.1) && (backToKw pos (keywordEach [] X.env)).all (fun x => x.1.isSome)
      && decide ((e :: es).length + ([] : List Keyword).length + (if ([] : List Keyword).isEmpty then 0 else 1) < 30)) = true := by rfl)
    (hline : (apos.endLine == pos.line) = true := by rfl) (hs : starEach (e :: es) X.env = (false, eval e X.env) :: starEach es X.env := by rfl) (hplain : (backTo pos (starEach es X.env)).any (·.1) = false := by rfl) :
    DE X (.Call (.Attribute o name apos) (e :: es) [] pos) (dMeth R to t) := (pe_bm PySem.F.plainAttrs_list slot hty hm ho ha hbase hfew hline hs hplain).imp (up_bm hl)
theorem de_append (ho : DE X o to) (he : DE X e te)
    (hbase : attributeBase o "append" X.env (eval o X.env) = eval o X.env := by rfl)
    (hfew : ((backTo pos (starEach [e] X.env)).all (fun x => !x.1) && (backToKw pos (keywordEach [] X.env)).all (fun x => x.1.isSome)
      && decide ([e].length + ([] : List Keyword).length + (if ([] : List Keyword).isEmpty then 0 else 1) < 30)) = true := by rfl)
    (hline : (apos.endLine == pos.line) = true := by rfl) (hs : starEach [e] X.env = (false, eval e X.env) :: starEach [] X.env := by rfl) (hplain : (backTo pos (starEach [] X.env)).any (·.1) = false := by rfl) :
    DE X (.Call (.Attribute o "append" apos) [e] [] pos) (dMeth rdAppend to (dCons te dNil)) := de_meth PySem.F.slot_list_append PySem.F.type_list_append mt_append mtl_append ho (da_cons he da_nil hs) hbase hfew hline hs hplain
theorem de_extend (ho : DE X o to) (he : DE X e te)
    (hbase : attributeBase o "extend" X.env (eval o X.env) = eval o X.env := by rfl)
    (hfew : ((backTo pos (starEach [e] X.env)).all (fun x => !x.1) && (backToKw pos (keywordEach [] X.env)).all (fun x => x.1.isSome)
      && decide ([e].length + ([] : List Keyword).length + (if ([] : List Keyword).isEmpty then 0 else 1) < 30)) = true := by rfl)
    (hline : (apos.endLine == pos.line) = true := by rfl) (hs : starEach [e] X.env = (false, eval e X.env) :: starEach [] X.env := by rfl) (hplain : (backTo pos (starEach [] X.env)).any (·.1) = false := by rfl) :
    DE X (.Call (.Attribute o "extend" apos) [e] [] pos) (dMeth rdExtend to (dCons te dNil)) := de_meth PySem.F.slot_list_extend PySem.F.type_list_extend mt_extend mtl_extend ho (da_cons he da_nil hs) hbase hfew hline hs hplain
theorem de_popAt (ho : DE X o to) (he : DE X e te)
    (hbase : attributeBase o "pop" X.env (eval o X.env) = eval o X.env := by rfl)
    (hfew : ((backTo pos (starEach [e] X.env)).all (fun x => !x.1) && (backToKw pos (keywordEach [] X.env)).all (fun x => x.1.isSome)
      && decide ([e].length + ([] : List Keyword).length + (if ([] : List Keyword).isEmpty then 0 else 1) < 30)) = true := by rfl)
    (hline : (apos.endLine == pos.line) = true := by rfl) (hs : starEach [e] X.env = (false, eval e X.env) :: starEach [] X.env := by rfl) (hplain : (backTo pos (starEach [] X.env)).any (·.1) = false := by rfl) :
    DE X (.Call (.Attribute o "pop" apos) [e] [] pos) (dMeth rdPopAt to (dCons te dNil)) := de_meth PySem.F.slot_list_pop PySem.F.type_list_pop mt_popAt mtl_popAt ho (da_cons he da_nil hs) hbase hfew hline hs hplain

/-! ### methods of texts -/
def dM1 (R : DRM) (to te : DTr) : DTr := fun δ m Q => to δ m fun x m1 => (∃ z, x = .str z) ∧ te δ m1 fun y m2 => R x [y] m2 Q
theorem up_m1 {K : PySem.W.Frag} {r : V → List V → Hp → VK → Prop} {R : DRM} (h : MtL K r R) : ∀ σ H Q, up K (dM1 R to te) σ H Q → tM1 r (up K to) (up K te) σ H Q := fun σ H Q ⟨δ, m, Q', rs, rh, q, f⟩ =>
  ⟨δ, m, _, rs, rh, q, fun x m1 ⟨⟨z, ez⟩, q1⟩ v H1 t1 r1 rh1 => ⟨by subst ez; cases r1; exact ⟨z, rfl⟩, δ, m1, _, rs.mono t1, rh1, q1, fun y m2 q2 u H2 t2 r2 rh2 => h x [y] v [u] H2 m2 Q' Q (Rep.mono t2 _ _ r1) (.cons r2 .nil) rh2 q2 (f.mono (t1.trans t2))⟩⟩
def rdJoin : DRM := fun x ys m Q => ∃ (z : Str) (y : D) (ss : List Str), x = .str z ∧ ys = [y] ∧ SeqD m y (ss.map D.str) ∧ (ss.map (·.length)).sum + ss.length * z.length ≤ 16777216 ∧ Q (.str (Txt.join z ss)) m
theorem mtl_join {K : PySem.W.Frag} : MtL K (fun x xs H Q => ∃ a p, ∃ ys : List Str, x = .str a ∧ xs = [.ref p] ∧ (SqL K H p (ys.map V.str) ∨ SqT K H p (ys.map V.str)) ∧
      (ys.map (·.length)).sum + ys.length * a.length ≤ 16777216 ∧ Q (.str (Txt.join a ys)) H) rdJoin := fun x ys vx vs H m Q' Q rx rs rh ⟨z, y, ss, ex, ey, hs, hz, q⟩ f => by
  subst ex ey
  cases rx
  obtain ⟨v, rfl, rv⟩ := rs.one
  obtain ⟨p, xs, rfl, h, rr⟩ := hs.of rv rh
  have := rr.strs
  subst this
  exact ⟨z, p, ss, rfl, rfl, h, hz, f _ m q _ H (Ts.refl _ _) (.str _) rh⟩
theorem de_join (ho : DE X o to) (he : DE X e te) (hs : starEach [e] X.env = [(false, eval e X.env)] := by rfl) (hbase : attributeBase o "join" X.env (eval o X.env) = eval o X.env := by rfl) (hline : (apos.endLine == pos.line) = true := by rfl) :
    DE X (.Call (.Attribute o "join" apos) [e] [] pos) (dM1 rdJoin to te) := (pe_join ho he hs hbase hline).imp (up_m1 mtl_join)

/-! ### f-strings -/
def dFmt (te : DTr) : DTr := fun δ m Q => te δ m fun x m1 => match x with
  | .str y => y.length ≤ sizeLine ∧ Q (.str y) m1
  | .int i => i.natAbs.log2 < 1920 ∧ Q (.str (toString i)) m1
  | _ => False
theorem de_fmt (he : DE X e te) : DE X (.FormattedValue e (-1) none pos) (dFmt te) := (pe_fmt he).imp fun σ H Q ⟨δ, m, Q', rs, rh, q, f⟩ =>
  ⟨δ, m, _, rs, rh, q, fun x m1 q1 v H1 t1 r1 rh1 => by
    cases r1 <;> first | exact q1.elim | skip
    · rename_i i
      exact .inr ⟨i, rfl, q1.1, f _ m1 q1.2 _ H1 t1 (.str _) rh1⟩
    · rename_i y
      exact .inl ⟨y, rfl, q1.1, f _ m1 q1.2 _ H1 t1 (.str _) rh1⟩⟩
def dJs : List DTr → Str → Sl → M → (Str → M → Prop) → Prop
  | [], acc, _, m, Q => Q acc m
  | t :: ts, acc, δ, m, Q => t δ m fun x m1 => ∃ y : Str, x = .str y ∧ (acc ++ y).length ≤ sizeLine ∧ dJs ts (acc ++ y) δ m1 Q
inductive DJ (X : Cx) : List Expr → List DTr → Prop where
  | nil : DJ X [] []
  | cons {e : Expr} {t : DTr} {es : List Expr} {ts : List DTr} (h : DE X e t) (r : DJ X es ts) : DJ X (e :: es) (t :: ts)
theorem DJ.pj {es : List Expr} {ts : List DTr} (h : DJ X es ts) : PJ X es (ts.map (up X.K)) := by
  induction h with
  | nil => exact .nil
  | cons h _ ih => exact .cons h ih
theorem up_js {K : PySem.W.Frag} {Q : VK} : ∀ (ts : List DTr) (acc : Str) (σ : L2.St) (H : Hp) (δ : Sl) (m : M) (Q' : DK), RelS K H δ σ → RelH K H m → dJs ts acc δ m (fun out m1 => Q' (.str out) m1) → Fits K H Q' Q → tJs (ts.map (up K)) acc σ H (fun out H1 => Q (.str out) H1)
  | [], acc, σ, H, δ, m, Q', rs, rh, q, f => f _ m q _ H (Ts.refl _ _) (.str _) rh
  | t :: ts, acc, σ, H, δ, m, Q', rs, rh, q, f => ⟨δ, m, _, rs, rh, q, fun x m1 ⟨y, ex, hy, q1⟩ v H1 t1 r1 rh1 => by
      subst ex; cases r1
      exact ⟨y, rfl, hy, up_js ts (acc ++ y) σ H1 δ m1 Q' (rs.mono t1) rh1 q1 (f.mono t1)⟩⟩
theorem de_joined {v1 v2 : Expr} {rest : List Expr} {ts : List DTr} (h : DJ X (v1 :: v2 :: rest) ts) : DE X (.JoinedStr (v1 :: v2 :: rest) pos) (fun δ m Q => dJs ts Str.empty δ m fun out m1 => Q (.str out) m1) :=
  (pe_joined h.pj).imp fun σ H Q ⟨δ, m, Q', rs, rh, q, f⟩ => up_js ts Str.empty σ H δ m Q' rs rh q f

/-! ### defs -/
abbrev DSp := List D → M → DK → Prop
def spUp (K : PySem.W.Frag) (sp : DSp) : Sp := fun vs H Q _ => ∃ ds m Q', Reps K H ds vs ∧ RelH K H m ∧ sp ds m Q' ∧ Fits K H Q' Q
structure DCal (P : Program) (w : World) (K : PySem.W.Frag) (mg : Str → Option Value) (base : Heap) (k : Nat) (x : Str) (sp : DSp) : Prop where
  ex : ∃ (f : Addr) (fd : FuncData) (ps : List Str), FnOk P w K mg base CX0 k f fd ps (spUp K sp) ∧ mg x = some (.ref f) ∧ PySem.W.keepIn K (.ref f) = true ∧ Binds K fd ps []
def dCall (sp : DSp) (t : DTA) : DTr := fun δ m Q => t δ m fun ds m1 => sp ds m1 Q
theorem up_call {K : PySem.W.Frag} {sp : DSp} {E : XK} : ∀ σ H Q, up K (dCall sp t) σ H Q → tCall (spUp K sp) [] E (upA K t) σ H Q := fun σ H Q ⟨δ, m, Q', rs, rh, q, f⟩ =>
  ⟨δ, m, _, rs, rh, q, fun ds m1 q1 vs H1 t1 r1 rh1 => by
    show spUp K sp (vs ++ []) H1 Q E
    rw [List.append_nil]
    exact ⟨ds, m1, Q', r1, rh1, q1, f.mono t1⟩⟩
theorem de_call {k j : Nat} {x : Str} {p : Pos} {sp : DSp} (c : DCal X.prog X.w X.K X.mg X.base k x sp) (hr : Room j X.A) (hk : k ≤ j) (hg : Gl X x) (ha : DA X (e :: es) t)
    (hdb : (x == ("__debug__" : Str)) = false := by decide) (he : starEach (e :: es) X.env = (false, eval e X.env) :: starEach es X.env := by rfl) (hpl : (backTo pos (starEach es X.env)).any (·.1) = false := by rfl) :
    DE X (.Call (.Name x p) (e :: es) [] pos) (dCall sp t) := by
  obtain ⟨f, fd, ps, F, hm, kp, b⟩ := c.ex
  exact (pe_call F (hr.mono hk) hg hm kp b .nil pass0 ha hdb he hpl).imp up_call
end
end DL

namespace DL
open PySem PySem.Spec PyProof.Rows L2 GA GxR

/-! ### statements -/
structure DEnds where
  nx : Sl → M → Prop
  rt : DK
  bk : Sl → M → Prop := fun _ _ => False
  ct : Sl → M → Prop := fun _ _ => False
abbrev DTS := DEnds → Sl → M → Prop
def FitN (K : PySem.W.Frag) (H : Hp) (q : Sl → M → Prop) (Q : L2.St → Hp → Prop) : Prop := ∀ δ m, q δ m → ∀ σ H', Ts K H H' → RelS K H' δ σ → RelH K H' m → Q σ H'
theorem FitN.mono {K : PySem.W.Frag} {H H1 : Hp} {q : Sl → M → Prop} {Q : L2.St → Hp → Prop} (t : Ts K H H1) (f : FitN K H q Q) : FitN K H1 q Q := fun δ m h σ H' t' rs rh => f δ m h σ H' (t.trans t') rs rh
structure FitsE (K : PySem.W.Frag) (H : Hp) (E' : DEnds) (E : Ends) : Prop where
  nx : FitN K H E'.nx E.nx
  rt : Fits K H E'.rt E.rt
  bk : FitN K H E'.bk E.bk
  ct : FitN K H E'.ct E.ct
theorem FitsE.mono {K : PySem.W.Frag} {H H1 : Hp} {E' : DEnds} {E : Ends} (t : Ts K H H1) (f : FitsE K H E' E) : FitsE K H1 E' E := ⟨f.nx.mono t, f.rt.mono t, f.bk.mono t, f.ct.mono t⟩
def upS (K : PySem.W.Frag) (t : DTS) : L2.TS := fun E σ H => ∃ δ m E', RelS K H δ σ ∧ RelH K H m ∧ t E' δ m ∧ FitsE K H E' E
def DS (X : Cx) (st : Stmt) (t : DTS) : Prop := PS X st (upS X.K t)
def DSs (X : Cx) (st : List Stmt) (t : DTS) : Prop := PSs X st (upS X.K t)

/-! ### targets: names, and tuples of names -/
inductive Tg where
  | name (i : Nat) | tup (is : List Nat)
def setAll (δ : Sl) : List Nat → List D → Sl
  | i :: is, d :: ds => setAll (δ.set i (some d)) is ds
  | _, _ => δ
def gD : Tg → D → Sl → (Sl → Prop) → Prop
  | .name i, d, δ, Q => Q (δ.set i (some d))
  | .tup is, d, δ, Q => ∃ ds, (d = .tup ds ∨ d = .ktup ds) ∧ ds.length = is.length ∧ Q (setAll δ is ds)
def gNs : List Nat → TGs
  | [] => gNil
  | i :: is => gCons (gName i) (gNs is)
def gV (K : PySem.W.Frag) : Tg → TG
  | .name i => gName i
  | .tup is => gTup K is.length (gNs is)
theorem gNs_ok {K : PySem.W.Frag} {H : Hp} : ∀ (is : List Nat) (ds : List D) (vs : List V) (δ : Sl) (σ : L2.St) (Q : L2.St → Hp → Prop), ds.length = is.length → Reps K H ds vs → RelS K H δ σ → (∀ σ', RelS K H (setAll δ is ds) σ' → (∀ ws, (∀ i ∈ is, i ∈ ws) → wipe σ' ws = wipe σ ws) → Q σ' H) → gNs is vs σ H Q
  | [], ds, vs, δ, σ, Q, hl, r, rs, h => by
    have : ds = [] := List.eq_nil_of_length_eq_zero (by simpa using hl)
    subst this
    cases r
    exact ⟨rfl, h σ rs fun _ _ => rfl⟩
  | i :: is, [], vs, δ, σ, Q, hl, r, rs, h => by simp at hl
  | i :: is, d :: ds, vs, δ, σ, Q, hl, r, rs, h => by
    cases r with
    | cons r1 r2 =>
      rename_i v vs
      refine ⟨v, vs, rfl, ?_⟩
      refine gNs_ok is ds vs (δ.set i (some d)) (σ.set i (some v)) Q (by simpa using hl) r2 (RelS.set r1 i rs) fun σ' h1 h2 => h σ' h1 fun ws hw => ?_
      rw [h2 ws fun j hj => hw j (List.mem_cons_of_mem _ hj)]
      exact wipe_set (hw i List.mem_cons_self) _ _
where
  wipe_set {i : Nat} : ∀ {ws : List Nat}, i ∈ ws → ∀ (σ : L2.St) (x : Option V), wipe (σ.set i x) ws = wipe σ ws
  | w :: ws, h, σ, x => by
    unfold wipe
    by_cases e : i ∈ ws
    · rw [wipe_set e]
    · have : i = w := by
        rcases List.mem_cons.mp h with h | h
        · exact h
        · exact (e h).elim
      subst this
      rw [wipe_out e, List.set_set]
  wipe_out {i : Nat} : ∀ {ws : List Nat}, i ∉ ws → ∀ {σ : L2.St} {x : Option V}, wipe (σ.set i x) ws = (wipe σ ws).set i x
  | [], _, σ, x => rfl
  | w :: ws, h, σ, x => by
    unfold wipe
    rw [wipe_out fun e => h (List.mem_cons_of_mem _ e), List.set_comm]
    exact fun e => h (e ▸ List.mem_cons_self)
theorem gV_ok {K : PySem.W.Frag} {H : Hp} {t : Tg} {d : D} {v : V} {δ : Sl} {σ : L2.St} {q : Sl → Prop} {Q : L2.St → Hp → Prop} (r : Rep K H d v) (rs : RelS K H δ σ) (h : gD t d δ q)
    (hq : ∀ δ' σ', q δ' → RelS K H δ' σ' → (∀ ws, (∀ i ∈ (match t with | .name i => [i] | .tup is => is), i ∈ ws) → wipe σ' ws = wipe σ ws) → Q σ' H) : gV K t v σ H Q := by
  cases t with
  | name i => exact hq _ _ h (RelS.set r i rs) fun ws hw => gNs_ok.wipe_set (hw i List.mem_cons_self) _ _
  | tup is =>
    obtain ⟨ds, e, hl, h⟩ := h
    obtain ⟨a, vs, rfl, hs, rr⟩ : ∃ a vs, v = .ref a ∧ SqT K H a vs ∧ Reps K H ds vs := by
      rcases e with rfl | rfl
      · cases r with | tup h1 h2 => exact ⟨_, _, rfl, .inl (.inl h1), h2⟩
      · cases r with | ktup h1 h2 => exact ⟨_, _, rfl, h1, h2⟩
    exact ⟨a, vs, rfl, hs, by rw [← rr.length]; exact hl, gNs_ok is ds vs δ σ Q hl rr rs fun σ' h1 h2 => hq _ σ' h h1 h2⟩
def DG (X : Cx) (target : Expr) (t : Tg) : Prop := PG X target (gV X.K t)

section
variable {X : Cx} {e : Expr} {te : DTr} {pos : Pos} {st : Stmt} {rest : List Stmt} {t u : DTS}
theorem dg_name {i : Nat} {x : Str} (hN : X.N.Nodup) (hi : X.N[i]? = some x) (hx : Loc X.env.scope x) (hf : X.fn x = true ∨ X.env.scope.names.lookup x = some .local := by first | exact .inl rfl | exact .inr rfl | assumption) : DG X (.Name x pos) (.name i) := pg_name hN hi hx hf
def DGs (X : Cx) (es : List Expr) (is : List Nat) : Prop := PGs X es (gNs is)
theorem dgs_nil : DGs X [] [] := pgs_nil
theorem dgs_cons {i : Nat} {is : List Nat} {e : Expr} {es : List Expr} (h : PG X e (gName i)) (r : DGs X es is) (hs : (assignEach (e :: es) X.env).map (·.2) = assign e X.env :: (assignEach es X.env).map (·.2) := by rfl) : DGs X (e :: es) (i :: is) := pgs_cons h r hs
theorem dg_tup {es : List Expr} {is : List Nat} {k : Nat} (hc : X.calm = true) (h : DGs X es is) (hn : (assignEach es X.env).length = is.length := by rfl) (hst : (assignEach es X.env).findIdx? (·.1) = none := by rfl) : DG X (.Tuple es k pos) (.tup is) := pg_tup hc h hn hst

def dNext : DTS := fun E δ m => E.nx δ m
theorem dss_nil : DSs X [] dNext := pss_nil.imp fun E σ H ⟨δ, m, E', rs, rh, q, f⟩ => f.nx δ m q σ H (Ts.refl _ _) rs rh
def dSeq (t u : DTS) : DTS := fun E δ m => t { E with nx := fun δ' m' => u E δ' m' } δ m
theorem dss_cons (h1 : DS X st t) (h2 : DSs X rest u) : DSs X (st :: rest) (dSeq t u) := (pss_cons h1 h2).imp fun E σ H ⟨δ, m, E', rs, rh, q, f⟩ =>
  ⟨δ, m, _, rs, rh, q, ⟨fun δ' m' q' σ' H' t' rs' rh' => ⟨δ', m', E', rs', rh', q', f.mono t'⟩, f.rt, f.bk, f.ct⟩⟩
theorem dss_one (h1 : DS X st t) : DSs X [st] t := pss_one h1
def dSet (te : DTr) (i : Nat) : DTS := fun E δ m => te δ m fun x m1 => E.nx (δ.set i (some x)) m1
theorem ds_set {i : Nat} {x : Str} {pos' : Pos} (hN : X.N.Nodup) (hi : X.N[i]? = some x) (hx : Loc X.env.scope x) (he : DE X e te) (hs : swapsWith e (some (.Name x pos')) pos.line X.env = pure false := by rfl) (hf : X.fn x = true ∨ X.env.scope.names.lookup x = some .local := by first | exact .inl rfl | exact .inr rfl | assumption) :
    DS X (.Assign [.Name x pos'] e pos) (dSet te i) := (ps_set hN hi hx he hs hf).imp fun E σ H ⟨δ, m, E', rs, rh, q, f⟩ =>
  ⟨δ, m, _, rs, rh, q, fun d m1 q1 v H1 t1 r1 rh1 => f.nx _ m1 q1 _ H1 t1 (RelS.set r1 i (rs.mono t1)) rh1⟩
def dAsg (te : DTr) (g : Tg) : DTS := fun E δ m => te δ m fun x m1 => gD g x δ fun δ' => E.nx δ' m1
theorem ds_asg {tg : Expr} {g : Tg} (he : DE X e te) (hg : DG X tg g) (hs : swapsWithSole [tg] e pos.line X.env = pure false := by rfl) (hw : swappedStores [tg] e X.env = pure none := by rfl)
    (h1 : (assignEach [tg] X.env).map (·.2) = [assign tg X.env] := by rfl) : DS X (.Assign [tg] e pos) (dAsg te g) := (ps_asg he hg hs hw h1).imp fun E σ H ⟨δ, m, E', rs, rh, q, f⟩ =>
  ⟨δ, m, _, rs, rh, q, fun d m1 q1 v H1 t1 r1 rh1 => gV_ok r1 (rs.mono t1) q1 fun δ' σ' q2 rs2 _ => f.nx δ' m1 q2 σ' H1 t1 rs2 rh1⟩
def dPar (i j : Nat) (ta : DTA) : DTS := fun E δ m => ta δ m fun ds m1 => ∃ x y, ds = [x, y] ∧ E.nx ((δ.set i (some x)).set j (some y)) m1
theorem ds_par {i j : Nat} {x y : Str} {a b : Expr} {ta : DTA} {px py pt : Pos} {kt k2 pt2} (hc : X.calm = true) (hN : X.N.Nodup) (hi : X.N[i]? = some x) (hj : X.N[j]? = some y) (hij : i ≠ j)
    (hx : X.env.scope.names.lookup x = some .local) (hy : X.env.scope.names.lookup y = some .local) (ha : DA X [a, b] ta)
    (hw : swappedStores [.Tuple [.Name x px, .Name y py] kt pt] (.Tuple [a, b] k2 pt2) X.env = pure (some [x, y]))
    (hs : swapsWithSole [.Tuple [.Name x px, .Name y py] kt pt] (.Tuple [a, b] k2 pt2) pos.line X.env = pure false := by rfl) :
    DS X (.Assign [.Tuple [.Name x px, .Name y py] kt pt] (.Tuple [a, b] k2 pt2) pos) (dPar i j ta) := (ps_par hc hN hi hj hij hx hy ha hw hs).imp fun E σ H ⟨δ, m, E', rs, rh, q, f⟩ =>
  ⟨δ, m, _, rs, rh, q, fun ds m1 ⟨x, y, e, q1⟩ vs H1 t1 r1 rh1 => by
    subst e
    obtain ⟨v, u, rfl, r2, r3⟩ := r1.two
    exact ⟨v, u, rfl, f.nx _ m1 q1 _ H1 t1 (RelS.set r3 j (RelS.set r2 i (rs.mono t1))) rh1⟩⟩
def dExpr (te : DTr) : DTS := fun E δ m => te δ m fun _ m1 => E.nx δ m1
theorem ds_expr (he : DE X e te) (hs : swapsWith e none pos.line X.env = pure false := by rfl) : DS X (.Expr e pos) (dExpr te) := (ps_expr he hs).imp fun E σ H ⟨δ, m, E', rs, rh, q, f⟩ =>
  ⟨δ, m, _, rs, rh, q, fun d m1 q1 v H1 t1 r1 rh1 => f.nx _ m1 q1 σ H1 t1 (rs.mono t1) rh1⟩
def dRet (te : DTr) : DTS := fun E δ m => te δ m E.rt
theorem ds_ret (he : DE X e te) : DS X (.Return (some e) pos) (dRet te) := (ps_ret he).imp fun E σ H ⟨δ, m, E', rs, rh, q, f⟩ => ⟨δ, m, _, rs, rh, q, f.rt⟩
def dIfS (c : DTT) (t u : DTS) : DTS := fun E δ m => c δ m fun b m1 => if b = true then t E δ m1 else u E δ m1
theorem ds_if {c : Expr} {a b : List Stmt} {tc : DTT} (hc : DTst X c tc) (ha : DSs X a t) (hb : DSs X b u) : DS X (.If c a b pos) (dIfS tc t u) := (ps_if hc ha hb).imp fun E σ H ⟨δ, m, E', rs, rh, q, f⟩ =>
  ⟨δ, m, _, rs, rh, q, fun b m1 q1 H1 t1 rh1 => by
    cases b with
    | true => exact ⟨δ, m1, E', rs.mono t1, rh1, q1, f.mono t1⟩
    | false => exact ⟨δ, m1, E', rs.mono t1, rh1, q1, f.mono t1⟩⟩
theorem ds_never : DS X st (fun _ _ _ => False) := ps_never.imp fun E σ H ⟨δ, m, E', rs, rh, q, f⟩ => q.elim

/-! ### what is walked -/
abbrev DTI := Sl → M → (List D → (M → Prop) → M → Prop) → Prop
structure Wk (K : PySem.W.Frag) (H0 : Hp) (J : It) (xs : List D) (ok : M → Prop) : Prop where
  go : ∀ i H m, Ts K H0 H → RelH K H m → ok m → i < xs.length → J.go i H
  yld : ∀ i H m v H', Ts K H0 H → RelH K H m → ok m → i < xs.length → J.yld i H v H' → Ts K H H' ∧ RelH K H' m ∧ ∃ d, xs[i]? = some d ∧ Rep K H' d v
  stop : ∀ i H m, Ts K H0 H → RelH K H m → ok m → xs.length ≤ i → J.stop i H
def upI (K : PySem.W.Frag) (t : DTI) : TI := fun σ H R => ∃ δ m Q', RelS K H δ σ ∧ RelH K H m ∧ t δ m Q' ∧ ∀ xs ok m1, Q' xs ok m1 → ∀ J H1, Ts K H H1 → RelH K H1 m1 → Wk K H1 J xs ok → R J H1
def DPI (X : Cx) (tg iter : Expr) (t : DTI) : Prop := PI X tg iter (upI X.K t)
theorem _root_.L2.PI.imp {X : Cx} {tg iter : Expr} {t t' : TI} (h : PI X tg iter t) (i : ∀ σ H Q, t' σ H Q → t σ H Q) : PI X tg iter t' := ⟨fun pins s σ H Q I q => h.run pins s σ H Q I (i σ H Q q)⟩
/-- a list of the store, which stands through the walk -/
def iL (te : DTr) : DTI := fun δ m R => te δ m fun x m1 => ∃ a ds, x = .ref a ∧ m1.mu a = some (.lst ds) ∧ R ds (fun m => m.mu a = some (.lst ds)) m1
theorem wk_list {K : PySem.W.Frag} {H0 : Hp} {a : Addr} {ds : List D} : Wk K H0 (Itl K a) ds (fun m => m.mu a = some (.lst ds)) := by
  refine ⟨fun i H m t r o hi => ?_, fun i H m v H' t r o hi y => ?_, fun i H m t r o hi => ?_⟩
  · obtain ⟨ys, e, rr⟩ := r.obj _ _ o
    exact ⟨ys, ys[i]'(by rw [← rr.length]; exact hi), SqL.of e, by simp⟩
  · obtain ⟨ys, e, rr⟩ := r.obj _ _ o
    obtain ⟨rfl, y⟩ := y
    obtain ⟨d, hd, rd⟩ := rr.getV (y ys (SqL.of e))
    exact ⟨Ts.refl _ _, r, d, hd, rd⟩
  · obtain ⟨ys, e, rr⟩ := r.obj _ _ o
    exact ⟨ys, SqL.of e, by rw [← rr.length]; exact hi⟩
theorem dpi_list {tg : Expr} (he : DE X e te) : DPI X tg e (iL te) := (pi_list he).imp fun σ H R ⟨δ, m, Q', rs, rh, q, f⟩ =>
  ⟨δ, m, _, rs, rh, q, fun x m1 ⟨a, ds, ex, h, q1⟩ v H1 t1 r1 rh1 => by
    subst ex; cases r1
    obtain ⟨xs, e1, _⟩ := rh1.obj _ _ h
    exact ⟨a, rfl, ⟨xs, SqL.of e1⟩, f ds _ m1 q1 _ H1 t1 rh1 wk_list⟩⟩
/-- a tuple -/
def iT (te : DTr) : DTI := fun δ m R => te δ m fun x m1 => ∃ ds, (x = .tup ds ∨ x = .ktup ds) ∧ R ds (fun _ => True) m1
theorem sq_of {K : PySem.W.Frag} {H : Hp} {x : D} {ds : List D} {v : V} (e : x = .tup ds ∨ x = .ktup ds) (r : Rep K H x v) : ∃ a vs, v = .ref a ∧ SqT K H a vs ∧ Reps K H ds vs := by
  rcases e with rfl | rfl
  · cases r with | tup h1 h2 => exact ⟨_, _, rfl, .inl (.inl h1), h2⟩
  · cases r with | ktup h1 h2 => exact ⟨_, _, rfl, h1, h2⟩
theorem wk_tup {K : PySem.W.Frag} {H0 : Hp} {a : Addr} {ds : List D} {vs : List V} (h : SqT K H0 a vs) (r0 : Reps K H0 ds vs) : Wk K H0 (Itt K a) ds (fun _ => True) := by
  refine ⟨fun i H m t r o hi => ?_, fun i H m v H' t r o hi y => ?_, fun i H m t r o hi => ?_⟩
  · exact ⟨vs, vs[i]'(by rw [← r0.length]; exact hi), t.1 _ _ h, by simp⟩
  · obtain ⟨rfl, y⟩ := y
    obtain ⟨d, hd, rd⟩ := (Reps.mono t _ _ r0).getV (y vs (t.1 _ _ h))
    exact ⟨Ts.refl _ _, r, d, hd, rd⟩
  · exact ⟨vs, t.1 _ _ h, by rw [← r0.length]; exact hi⟩
theorem dpi_tup {tg : Expr} (he : DE X e te) : DPI X tg e (iT te) := (pi_tup he).imp fun σ H R ⟨δ, m, Q', rs, rh, q, f⟩ =>
  ⟨δ, m, _, rs, rh, q, fun x m1 ⟨ds, ex, q1⟩ v H1 t1 r1 rh1 => by
    obtain ⟨a, vs, rfl, hs, rr⟩ := sq_of ex r1
    exact ⟨a, rfl, ⟨vs, hs⟩, f ds _ m1 q1 _ H1 t1 rh1 (wk_tup hs rr)⟩⟩
/-- a range -/
def rangeD (n : Nat) : List D := (List.range n).map fun (i : Nat) => D.int (i : Int)
def iR1 (te : DTr) : DTI := fun δ m R => te δ m fun x m1 => ∃ j : Int, x = .int j ∧ -(2 ^ 62) ≤ j ∧ j < 2 ^ 62 ∧ R (rangeD j.toNat) (fun _ => True) m1
theorem rangeD_len (n : Nat) : (rangeD n).length = n := by simp [rangeD]
theorem rangeD_get {n i : Nat} (h : i < n) : (rangeD n)[i]? = some (.int (i : Int)) := by simp [rangeD, h]
theorem dpi_range {tg : Expr} {p : Pos} (hg : Gl X "range") (hm : X.mg "range" = none) (he : DE X e te) (hs : starEach [e] X.env = [(false, eval e X.env)] := by rfl) : DPI X tg (.Call (.Name "range" p) [e] [] pos) (iR1 te) :=
  (pi_range1 hg hm (pa_cons he pa_nil (by rw [hs]; rfl)) hs).imp fun σ H R ⟨δ, m, Q', rs, rh, q, f⟩ =>
  ⟨δ, m, _, rs, rh, q, fun x m1 ⟨j, ex, h1, h2, q1⟩ v H1 t1 r1 rh1 => by
    subst ex; cases r1
    refine ⟨j, rfl, h1, h2, f _ _ m1 q1 _ H1 t1 rh1 ⟨fun i H m t r o hi => ?_, fun i H m v H' t r o hi y => ?_, fun i H m t r o hi => ?_⟩⟩
    · rw [rangeD_len] at hi; exact hi
    · obtain ⟨rfl, rfl⟩ := y
      rw [rangeD_len] at hi
      refine ⟨Ts.refl _ _, r, _, rangeD_get hi, ?_⟩
      have : (0 : Int) + (i : Int) = (i : Int) := by omega
      rw [this]
      exact .int _
    · rw [rangeD_len] at hi; exact hi⟩

/-! ### for -/
def dFor (ws : DTI) (g : Tg) (tb : DTS) : DTS := fun E δ m => ws δ m fun xs ok m1 => ∃ P : Nat → Sl → M → Prop, P 0 δ m1 ∧ (∀ i δ m, P i δ m → ok m) ∧
  (∀ i d δ m, xs[i]? = some d → P i δ m → gD g d δ fun δ2 => tb { E with nx := P (i + 1), ct := P (i + 1), bk := E.nx } δ2 m) ∧ (∀ δ m, P xs.length δ m → E.nx δ m)
theorem ds_for {iter tg : Expr} {body : List Stmt} {ws : DTI} {g : Tg} {tb : DTS} (hp : PassesOwn (model X.prog X.w) X.A X.env X.xe) (hc : X.calm = true) (hi : DPI X tg iter ws) (hg : DG X tg g) (hb : DSs X body tb)
    (hs : ∀ x, foldedSetIterable iter X.env x = pure x := by intro _; rfl) : DS X (.For tg iter body [] pos) (dFor ws g tb) := (ps_for hp hc hi hg hb hs).imp fun E σ H ⟨δ, m, E', rs, rh, q, f⟩ => by
  refine ⟨δ, m, _, rs, rh, q, fun xs ok m1 ⟨P, h0, hok, hs, hd⟩ J H1 t1 rh1 wk => ?_⟩
  refine ⟨fun i n σ' H' => n = xs.length - i ∧ i ≤ xs.length ∧ ∃ δ' m', Ts X.K H1 H' ∧ RelS X.K H' δ' σ' ∧ RelH X.K H' m' ∧ P i δ' m', ⟨xs.length, by simp, Nat.zero_le _, δ, m1, Ts.refl _ _, rs.mono t1, rh1, h0⟩, ?_⟩
  rintro i n σ2 H2 ⟨rfl, hi, δ2, m2, t2, rs2, rh2, p⟩
  have o := hok _ _ _ p
  by_cases hlt : i < xs.length
  · refine .inr ⟨wk.go i H2 m2 t2 rh2 o hlt, fun σ' H' => ∃ δ' m', Ts X.K H1 H' ∧ RelS X.K H' δ' σ' ∧ RelH X.K H' m' ∧ P (i + 1) δ' m', fun σ' H' ⟨δ', m', z⟩ => ⟨xs.length - (i + 1), by omega, rfl, hlt, δ', m', z⟩, fun v H3 y => ?_⟩
    obtain ⟨t3, rh3, d, hd', rd⟩ := wk.yld i H2 m2 v H3 t2 rh2 o hlt y
    refine gV_ok rd (rs2.mono t3) (hs i d δ2 m2 hd' p) fun δ4 σ4 q4 rs4 _ => ?_
    have tt := t2.trans t3
    exact ⟨δ4, m2, _, rs4, rh3, q4, ⟨fun δ' m' p' σ' H' t' rs' rh' => ⟨δ', m', tt.trans t', rs', rh', p'⟩, (f.rt.mono t1).mono tt, (f.nx.mono t1).mono tt, fun δ' m' p' σ' H' t' rs' rh' => ⟨δ', m', tt.trans t', rs', rh', p'⟩⟩⟩
  · have e : i = xs.length := by omega
    subst e
    exact .inl ⟨wk.stop _ H2 m2 t2 rh2 o (Nat.le_refl _), f.nx δ2 m2 (hd δ2 m2 p) σ2 H2 (t1.trans t2) rs2 rh2⟩

/-! ### list comprehensions -/
def DPts (X : Cx) (ifs : List Expr) (t : DTT) : Prop := PTs X ifs (upB X.K t)
def dYes : DTT := fun _ m Q => Q true m
theorem dpts_nil : DPts X [] dYes := ⟨fun pins s σ H Q I ⟨δ, m, Q', rs, rh, q, f⟩ => pts_nil.run pins s σ H Q I (f true m q H (Ts.refl _ _) rh)⟩
theorem dpts_one {c : Expr} {tc : DTT} (h : DTst X c tc) : DPts X [c] tc := pts_one h
def wipeD (δ : Sl) : List Nat → Sl
  | [] => δ
  | v :: vs => (wipeD δ vs).set v none
theorem RelS.wipe {K : PySem.W.Frag} {H : Hp} {δ : Sl} {σ : L2.St} (rs : RelS K H δ σ) : ∀ ws : List Nat, RelS K H (wipeD δ ws) (L2.wipe σ ws)
  | [] => rs
  | w :: ws => (RelS.wipe rs ws).forget w none
def Tg.ix : Tg → List Nat
  | .name i => [i]
  | .tup is => is
def dLC (ws : DTI) (g : Tg) (tt : DTT) (te : DTr) (ow : List Nat) : DTr := fun δ m Q => ws δ m fun xs ok m1 => ∀ p, m1.mu p = none → ∃ P : Nat → M → Prop, P 0 (m1.set p (.lst [])) ∧ (∀ i m, P i m → ok m) ∧
  (∀ i d m, xs[i]? = some d → P i m → gD g d (wipeD δ ow) fun δ2 => tt δ2 m fun b m3 => if b = true then te δ2 m3 fun y m4 => ∃ acc, m4.mu p = some (.lst acc) ∧ acc.length < sizeLine ∧ P (i + 1) (m4.set p (.lst (acc ++ [y]))) else P (i + 1) m3) ∧
  (∀ m, P xs.length m → Q (.ref p) m)
theorem up_lc {K : PySem.W.Frag} {ws : DTI} {g : Tg} {tt : DTT} {te : DTr} {ow : List Nat} (hgo : ∀ i ∈ g.ix, i ∈ ow) : ∀ σ H Q, up K (dLC ws g tt te ow) σ H Q → tLc (upI K ws) (gV K g) (upB K tt) (up K te) ow σ H Q := fun σ H Q ⟨δ, m, Q', rs, rh, q, f⟩ => by
  refine ⟨δ, m, _, rs, rh, q, fun xs ok m1 hP J H1 t1 rh1 wk => fun p hp => ?_⟩
  obtain ⟨P, h0, hok, hs, hd⟩ := hP p (rh1.fresh hp)
  have tp := Ts.new (K := K) (o := .lst []) hp
  refine ⟨fun i n H' => n = xs.length - i ∧ i ≤ xs.length ∧ ∃ m', Ts K H1 H' ∧ RelH K H' m' ∧ P i m', ⟨xs.length, by simp, Nat.zero_le _, _, tp, rh1.newO (x := .lst []) hp ⟨[], upd_same, .nil⟩, h0⟩, ?_⟩
  rintro i n H2 ⟨rfl, hi, m2, t2, rh2, hp2⟩
  have o := hok _ _ hp2
  by_cases hlt : i < xs.length
  · refine .inr ⟨wk.go i H2 m2 t2 rh2 o hlt, fun H' => ∃ m', Ts K H1 H' ∧ RelH K H' m' ∧ P (i + 1) m', fun H' ⟨m', z⟩ => ⟨xs.length - (i + 1), by omega, rfl, hlt, m', z⟩, fun v H3 y => ?_⟩
    obtain ⟨t3, rh3, d, hd', rd⟩ := wk.yld i H2 m2 v H3 t2 rh2 o hlt y
    have t13 := t2.trans t3
    refine gV_ok rd (((rs.mono t1).mono t13).wipe ow) (hs i d m2 hd' hp2) fun δ4 σ4 q4 rs4 hw => ⟨?_, ?_⟩
    · have e := hw ow (fun j hj => hgo j (by cases g <;> exact hj))
      rw [e, wipe_wipe]
    · refine ⟨δ4, m2, _, rs4, rh3, q4, fun b m5 q5 H5 t5 rh5 => ?_⟩
      cases b with
      | true =>
        rw [if_pos rfl] at q5 ⊢
        refine ⟨δ4, m5, _, rs4.mono t5, rh5, q5, fun y m6 ⟨acc, ha, hl, hn⟩ u H6 t6 r6 rh6 => ?_⟩
        obtain ⟨us, e6, rr6⟩ := rh6.obj _ _ ha
        have t7 := rh6.putTS (o := .lst (us ++ [u])) ha
        exact ⟨us, e6, by rw [← rr6.length]; exact hl, _, (((t13.trans t5).trans t6).trans t7), rh6.put (x := .lst (acc ++ [y])) ha ⟨_, upd_same, Reps.mono t7 _ _ (rr6.append (.cons r6 .nil))⟩, hn⟩
      | false =>
        rw [if_neg Bool.false_ne_true] at q5 ⊢
        exact ⟨m5, t13.trans t5, rh5, q5⟩
  · have e : i = xs.length := by omega
    subst e
    exact .inl ⟨wk.stop _ H2 m2 t2 rh2 o (Nat.le_refl _), f _ m2 (hd m2 hp2) _ H2 (t1.trans t2) (.ref p) rh2⟩
where
  wipe_wipe {σ : L2.St} : ∀ {ws : List Nat}, L2.wipe (L2.wipe σ ws) ws = L2.wipe σ ws := fun {ws} => wipe_sub fun i hi => hi
  wipe_sub {σ : L2.St} {us : List Nat} : ∀ {ws : List Nat}, (∀ i ∈ ws, i ∈ us) → L2.wipe (L2.wipe σ us) ws = L2.wipe σ us
    | [], _ => rfl
    | w :: ws, h => by
      show (L2.wipe (L2.wipe σ us) ws).set w none = _
      rw [wipe_sub fun i hi => h i (List.mem_cons_of_mem _ hi)]
      exact set_id (h w List.mem_cons_self)
  set_id {σ : L2.St} {w : Nat} : ∀ {us : List Nat}, w ∈ us → (L2.wipe σ us).set w none = L2.wipe σ us
    | u :: us, h => by
      show ((L2.wipe σ us).set u none).set w none = (L2.wipe σ us).set u none
      by_cases e : w = u
      · subst e; rw [List.set_set]
      · rcases List.mem_cons.mp h with z | z
        · exact (e z).elim
        · rw [List.set_comm _ _ (fun q => e q.symm), set_id z]
theorem de_lc {elt tg iter : Expr} {ifs : List Expr} {scope : Scope} {own : List (Str × Nat)} {ws : DTI} {g : Tg} {tt : DTT} {te : DTr} (hc : X.calm = true) (hN : X.N.Nodup) (hi : DPI X tg iter ws) (ok : BlkOk X.N X.env.scope scope own)
    (hg : ∀ (s : Shared) (H : Hp) (C : Addr) (cl : List (Str × Addr)) (fp : List Addr), DG (X.blk s H scope (compEnvC scope cl C X.env) fp) tg g) (ht : ∀ (s : Shared) (H : Hp) (C : Addr) (cl : List (Str × Addr)) (fp : List Addr), DPts (X.blk s H scope (compEnvC scope cl C X.env) fp) ifs tt)
    (he : ∀ (s : Shared) (H : Hp) (C : Addr) (cl : List (Str × Addr)) (fp : List Addr), DE (X.blk s H scope (compEnvC scope cl C X.env) fp) elt te) (hgo : ∀ i ∈ g.ix, i ∈ own.map (·.2) := by decide) (hs : ∀ x, foldedSetIterable iter X.env x = pure x := by intro _; rfl) :
    DE X (.ListComp elt [⟨tg, iter, ifs, 0⟩] scope pos) (dLC ws g tt te (own.map (·.2))) := (pe_lc (g := gV X.K g) (tt := upB X.K tt) (te := up X.K te) hc hN hi ok hg ht he hs).imp (up_lc hgo)
theorem ds_setLc {i : Nat} {y : Str} {py : Pos} {elt tg iter : Expr} {ifs : List Expr} {scope : Scope} {own : List (Str × Nat)} {spos : Pos} {ws : DTI} {g : Tg} {tt : DTT} {te : DTr} (hc : X.calm = true) (hN : X.N.Nodup) (hy : X.N[i]? = some y) (hyl : X.env.scope.names.lookup y = some .local)
    (hsw : swapsWith (.ListComp elt [⟨tg, iter, ifs, 0⟩] scope pos) (some (.Name y py)) spos.line X.env = pure true) (hi : DPI X tg iter ws) (ok : BlkOk X.N X.env.scope scope own)
    (hg : ∀ (s : Shared) (H : Hp) (C : Addr) (cl : List (Str × Addr)) (fp : List Addr), DG (X.blk s H scope (compEnvC scope cl C X.env) fp) tg g) (ht : ∀ (s : Shared) (H : Hp) (C : Addr) (cl : List (Str × Addr)) (fp : List Addr), DPts (X.blk s H scope (compEnvC scope cl C X.env) fp) ifs tt)
    (he : ∀ (s : Shared) (H : Hp) (C : Addr) (cl : List (Str × Addr)) (fp : List Addr), DE (X.blk s H scope (compEnvC scope cl C X.env) fp) elt te) (hgo : ∀ i ∈ g.ix, i ∈ own.map (·.2) := by decide) (hs : ∀ x, foldedSetIterable iter X.env x = pure x := by intro _; rfl) :
    DS X (.Assign [.Name y py] (.ListComp elt [⟨tg, iter, ifs, 0⟩] scope pos) spos) (dSet (dLC ws g tt te (own.map (·.2))) i) := (ps_setLc (g := gV X.K g) (tt := upB X.K tt) (te := up X.K te) hc hN hy hyl hsw hi ok hg ht he hs).imp fun E σ H ⟨δ, m, E', rs, rh, q, f⟩ => by
  refine up_lc hgo σ H _ ⟨δ, m, _, rs, rh, q, fun d m1 q1 v H1 t1 r1 rh1 => ?_⟩
  exact f.nx _ m1 q1 _ H1 t1 (RelS.set r1 i (rs.mono t1)) rh1

/-! ### all(..) of a generator expression -/
/-- the tables of the code objects that stand in gh -/
def dAll (P : Addr) (ow : List Nat) (ws : DTI) (g : Tg) (te : DTr) : DTr := fun δ m Q => ws δ m fun xs ok m1 => m1.gh.own P ∧ (∀ H, m1.gh.inv H → TabG H P) ∧ (∀ H H2, m1.gh.inv H → Tabbed P H H2 → m1.gh.inv H2) ∧
  ∃ W : Nat → M → Prop, W 0 m1 ∧ (∀ i m, W i m → ok m) ∧ (∀ i d m, xs[i]? = some d → W i m → gD g d (wipeD δ ow) fun δ2 => te δ2 m fun r m3 => ∃ b, r = .bl b ∧ if b = true then W (i + 1) m3 else Q (.bl false) m3) ∧ (∀ m, W xs.length m → Q (.bl true) m)
theorem tabbed_rel {K : PySem.W.Frag} {H H2 : Hp} {m : M} {P : Addr} (r : RelH K H m) (ho : m.gh.own P) (hT : TabG H P) (hi : m.gh.inv H2) (h : Tabbed P H H2) : Ts K H H2 ∧ RelH K H2 m := by
  obtain ⟨ps, hP, _⟩ := hT
  have t : Ts K H H2 := by
    refine ⟨fun a xs s => ?_, fun a xs e => ?_⟩
    · rcases s with (s | ⟨ob, s⟩) | s
      · exact .inl (.inl (by rw [h.2 a (fun z => by subst z; rw [hP] at s; cases s)]; exact s))
      · exact .inl (.inr ⟨ob, by rw [h.2 a (fun z => by subst z; rw [hP] at s; cases s)]; exact s⟩)
      · exact .inr s
    · rw [h.2 a (fun z => by subst z; rw [hP] at e; cases e)]; exact e
  refine ⟨t, hi, r.sep, fun a o e => (r.obj a o e).mono t (h.2 a fun z => ?_)⟩
  subst z
  rw [r.sep _ ho] at e; cases e
theorem RelS.of {K : PySem.W.Frag} {H : Hp} : ∀ {δ : Sl} {σ : L2.St}, δ.length = σ.length → (∀ (i : Nat) (d : D), δ[i]? = some (some d) → ∃ v, σ[i]? = some (some v) ∧ Rep K H d v) → RelS K H δ σ
  | [], [], _, _ => .nil
  | [], _ :: _, h, _ => by simp at h
  | _ :: _, [], h, _ => by simp at h
  | o :: δ, p :: σ, hl, h => .cons (fun d e => by
      obtain ⟨v, e1, r⟩ := h 0 d (by simp [e])
      exact ⟨v, by simpa using e1, r⟩) (RelS.of (by simpa using hl) fun i d e => by
      obtain ⟨v, e1, r⟩ := h (i + 1) d (by simpa using e)
      exact ⟨v, by simpa using e1, r⟩)
theorem wipeD_some {δ : Sl} {i : Nat} {d : D} : ∀ {vs : List Nat}, (wipeD δ vs)[i]? = some (some d) → δ[i]? = some (some d) ∧ i ∉ vs
  | [], h => ⟨h, by simp⟩
  | v :: vs, h => by
    unfold wipeD at h
    by_cases hi : v = i
    · subst hi
      by_cases hv : v < (wipeD δ vs).length
      · rw [List.getElem?_set_self hv] at h; cases h
      · rw [List.getElem?_eq_none (by simpa using hv)] at h; cases h
    · rw [List.getElem?_set_ne hi] at h
      obtain ⟨h1, h2⟩ := wipeD_some h
      exact ⟨h1, by simp only [List.mem_cons, not_or]; exact ⟨fun e => hi e.symm, h2⟩⟩
theorem wipe_at {σ : L2.St} {i : Nat} : ∀ {vs : List Nat}, i ∉ vs → (L2.wipe σ vs)[i]? = σ[i]?
  | [], _ => rfl
  | v :: vs, h => by
    unfold L2.wipe
    rw [List.getElem?_set_ne (fun e => h (by rw [e]; exact List.mem_cons_self)), wipe_at fun e => h (List.mem_cons_of_mem _ e)]
theorem RelS.sameW {K : PySem.W.Frag} {H : Hp} {δ : Sl} {σ σ' : L2.St} {ow : List Nat} (r : RelS K H (wipeD δ ow) σ) (e : L2.wipe σ' ow = L2.wipe σ ow) : RelS K H (wipeD δ ow) σ' := by
  refine RelS.of ?_ fun i d h => ?_
  · rw [r.length, ← wipe_length σ ow, ← e, wipe_length]
  · obtain ⟨_, hi⟩ := wipeD_some h
    obtain ⟨v, e1, rv⟩ := r.get h
    exact ⟨v, by rw [← wipe_at hi, e, wipe_at hi]; exact e1, rv⟩
theorem de_all {c P : Addr} {elt tg iter : Expr} {p gpos : Pos} {scope : Scope} {own : List (Str × Nat)} {ws : DTI} {g : Tg} {te : DTr} {k : Nat}
    (hr : Room (k + 1) X.A) (hg : Gl X "all") (hm : X.mg "all" = none) (hb : bootBuiltins "all" = some (.builtin "all")) (TB : TabB X.base X.mg c P) (hcode : X.env.code = .ref c)
    (ok : GenOk X.N X.env.scope scope own) (hN : X.N.Nodup) (hi : DPI X tg iter ws)
    (hgt : ∀ A cenv s H fp, cenv.scope = scope → DG (cxG X X.N A cenv s H fp) tg g)
    (hel : ∀ A cenv s H fp, cenv.scope = scope → Room k A → DE (cxG X X.N A cenv s H fp) elt te)
    (hs : ∀ v, genFold iter X.env v = pure v) (hgo : ∀ i ∈ g.ix, i ∈ own.map (·.2) := by decide)
    (he : starEach [gexp elt tg iter scope gpos] X.env = (false, eval (gexp elt tg iter scope gpos) X.env) :: starEach [] X.env := by rfl) :
    DE X (.Call (.Name "all" p) [gexp elt tg iter scope gpos] [] pos) (dAll P (own.map (·.2)) ws g te) := (pe_allG (g := gV X.K g) (te := up X.K te) hr hg hm hb TB hcode ok hN hi hgt hel hs he).imp fun σ H Q ⟨δ, m, Q', rs, rh, q, f⟩ => by
  refine ⟨δ, m, _, rs, rh, q, fun xs ok m1 ⟨hP, hT, hI, W, h0, hok, hst, hd⟩ J H1 t1 rh1 wk => ⟨hT H1 rh1.inv, fun H2 hT2 => ?_⟩⟩
  obtain ⟨t2, rh2⟩ := tabbed_rel rh1 hP (hT H1 rh1.inv) (hI H1 H2 rh1.inv hT2) hT2
  refine ⟨fun i n σ' H' => n = xs.length - i ∧ i ≤ xs.length ∧ ∃ m' , Ts X.K H1 H' ∧ RelS X.K H' (wipeD δ (own.map (·.2))) σ' ∧ RelH X.K H' m' ∧ W i m', xs.length, ⟨by simp, Nat.zero_le _, m1, t2, ((rs.mono t1).mono t2).wipe _, rh2, h0⟩, ⟨?_⟩⟩
  · rintro i n σ3 H3 ⟨rfl, hi, m3, t3, rs3, rh3, w3⟩
    have o := hok _ _ w3
    by_cases hlt : i < xs.length
    · refine .inr ⟨wk.go i H3 m3 t3 rh3 o hlt, by omega, fun v H4 y => ?_⟩
      obtain ⟨t4, rh4, d, hd', rd⟩ := wk.yld i H3 m3 v H4 t3 rh3 o hlt y
      have rsw : RelS X.K H4 (wipeD δ (own.map (·.2))) σ3 := rs3.mono t4
      refine gV_ok rd rsw (hst i d m3 hd' w3) fun δ5 σ5 q5 rs5 hw => ?_
      refine ⟨δ5, m3, _, rs5, rh4, q5, fun r m6 ⟨b, eb, q6⟩ u H6 t6 r6 rh6 => ?_⟩
      subst eb; cases r6
      refine ⟨b, rfl, ?_⟩
      have t36 := (t3.trans t4).trans t6
      cases b with
      | true =>
        rw [if_pos rfl] at q6 ⊢
        refine ⟨xs.length - (i + 1), by omega, rfl, hlt, m6, t36, RelS.mono t6 (rsw.sameW (hw _ fun j hj => hgo j (by cases g <;> exact hj))), rh6, q6⟩
      | false =>
        rw [if_neg Bool.false_ne_true] at q6 ⊢
        exact f _ m6 q6 _ H6 (t1.trans t36) (.bl _) rh6
    · have e : i = xs.length := by omega
      subst e
      exact .inl ⟨wk.stop _ H3 m3 t3 rh3 o (Nat.le_refl _), f _ m3 (hd m3 w3) _ H3 (t1.trans t3) (.bl _) rh3⟩
end
end DL

namespace DL
open PySem PySem.Spec PyProof.Rows L2 GA GxR

/-! ### list.remove of data -/
mutual
theorem py_plain : ∀ d : D, d.py.plain = true
  | .non | .bl _ | .int _ | .str _ | .ref _ => rfl
  | .tup ds => pys_plain ds
  | .ktup ds => pys_plain ds
theorem pys_plain : ∀ ds : List D, PyData.plainAll (D.pys ds) = true
  | [] => rfl
  | d :: ds => by
    show (d.py.plain && PyData.plainAll (D.pys ds)) = true
    rw [py_plain d, pys_plain ds]; rfl
end
def rRemD (K : PySem.W.Frag) : V → List V → Hp → VK → Prop := fun x vs H Q => ∃ (l : Addr) (xs : List V) (y : V) (d : PyData) (ds : List PyData) (j : Nat), x = .ref l ∧ vs = [y] ∧ H l = some (.lst xs) ∧ DpAll K H xs ds ∧ Dp K H y d ∧
  PyData.plainAll ds = true ∧ d.plain = true ∧ d.depth ≤ 60 ∧ SeqAt.dataPlace ds d = some j ∧ Q .non (upd H l (.lst (xs.eraseIdx j)))
theorem Vals.erase : ∀ {xs : List V} {us : List Value} (n : Nat), Vals xs us → Vals (xs.eraseIdx n) (us.eraseIdx n)
  | _, _, _, .nil => .nil
  | _, _, 0, .cons r t => t
  | _, _, n + 1, .cons r t => .cons r (Vals.erase n t)
theorem mt_removeD {X : Cx} {k : Nat} (hr : Room k X.A) : MtM X "list.remove" (rRemD X.K) := by
  intro pins s σ H x vs v us Q I rx rv h
  obtain ⟨l, xs, y, d, ds, j, rfl, rfl, hH, hall, hd, p1, p2, hdep, hp, q⟩ := h
  cases rx
  obtain ⟨u, rfl, ru⟩ := rv.one
  obtain ⟨z, its, n, r, hl, e⟩ := I.lstM hH
  obtain ⟨as, ra⟩ := Dp.readsAll I ds xs its hall r
  obtain ⟨bs, rb⟩ := Dp.reads I d y u hd ru
  refine SeqAt.remove_list_data (j := j) (vs := its.toArray) ⟨_, e, rfl, _, rfl⟩ (by simpa using ra) rb p1 p2 ?_ hp (by rw [List.size_toArray, ← hl]; exact z) ?_
  · have := hr.units
    have h2 : min (PyData.depthAll ds) d.depth ≤ d.depth := Nat.min_le_right _ _
    omega
  · refine ⟨.non, _, I.lset (its' := its.eraseIdx j) (t' := s.toks) hH e ?_ (Vals.erase j r) ?_, rfl, q⟩
    · have : (its.toArray.eraseIdxIfInBounds j).toList = its.eraseIdx j := by
        by_cases hj : j < its.toArray.size
        · rw [Array.eraseIdxIfInBounds, dif_pos hj, Array.toList_eraseIdx]
        · rw [Array.eraseIdxIfInBounds, dif_neg hj]
          have h2 : its.length ≤ j := by simpa using hj
          rw [List.eraseIdx_of_length_le h2]
      exact Array.ext' (by rw [this])
    · exact Nat.le_trans (by rw [List.length_eraseIdx]; split <;> omega) z
def rdRemove : DRM := fun x ys m Q => ∃ a ds y j, x = .ref a ∧ ys = [y] ∧ m.mu a = some (.lst ds) ∧ D.pures ds = true ∧ y.pure = true ∧ y.py.depth ≤ 60 ∧ SeqAt.dataPlace (D.pys ds) y.py = some j ∧ Q .non (m.set a (.lst (ds.eraseIdx j)))
theorem mtl_remove {K : PySem.W.Frag} : MtL K (rRemD K) rdRemove := fun x ys vx vs H m Q' Q rx rs rh ⟨a, ds, y, j, ex, ey, h, p1, p2, hdep, hp, q⟩ f => by
  subst ex ey
  cases rx
  obtain ⟨v, rfl, rv⟩ := rs.one
  obtain ⟨xs, e, rr⟩ := rh.obj _ _ h
  have t := rh.putTS (o := .lst (xs.eraseIdx j)) h
  exact ⟨a, xs, v, y.py, D.pys ds, j, rfl, rfl, e, Reps.dp _ _ p1 rr, Rep.dp _ _ p2 rv, pys_plain _, py_plain _, hdep, hp, f _ _ q _ _ t .non (rh.put (x := .lst (ds.eraseIdx j)) h ⟨_, upd_same, Reps.mono t _ _ (rr.erase j)⟩)⟩
section
variable {X : Cx} {a b e o i value : Expr} {ta tb te to td ty tv : DTr} {es : List Expr} {t : DTA} {pos apos pos' : Pos}
theorem de_remove {k : Nat} (hr : Room k X.A) (ho : DE X o to) (he : DE X e te)
    (hbase : attributeBase o "remove" X.env (eval o X.env) = eval o X.env := by rfl)
    (hfew : ((backTo pos (starEach [e] X.env)).all (fun x => !x.1) && (backToKw pos (keywordEach [] X.env)).all (fun x => x.1.isSome)
      && decide ([e].length + ([] : List Keyword).length + (if ([] : List Keyword).isEmpty then 0 else 1) < 30)) = true := by rfl)
    (hline : (apos.endLine == pos.line) = true := by rfl) (hs : starEach [e] X.env = (false, eval e X.env) :: starEach [] X.env := by rfl) (hplain : (backTo pos (starEach [] X.env)).any (·.1) = false := by rfl) :
    DE X (.Call (.Attribute o "remove" apos) [e] [] pos) (dMeth rdRemove to (dCons te dNil)) := de_meth PySem.F.slot_list_remove PySem.F.type_list_remove (mt_removeD hr) mtl_remove ho (da_cons he da_nil hs) hbase hfew hline hs hplain

/-! ### dicts -/
def kD : Key → D
  | .inl k => .int k
  | .inr s => .str s
theorem kD_rep {K : PySem.W.Frag} {H : Hp} {k : Key} {v : V} (r : Rep K H (kD k) v) : v = kV k := by
  cases k <;> (cases r; rfl)
theorem kDs_rep {K : PySem.W.Frag} {H : Hp} : ∀ {ks : List Key} {vs : List V}, Reps K H (ks.map kD) vs → vs = ks.map kV
  | [], _, r => by cases r; rfl
  | k :: ks, _, r => by
    cases r with
    | cons r1 r2 => rw [kD_rep r1, kDs_rep r2]; rfl
theorem rep_kD {K : PySem.W.Frag} {H : Hp} : ∀ k : Key, Rep K H (kD k) (kV k)
  | .inl k => .int k
  | .inr s => .str s
theorem reps_kD {K : PySem.W.Frag} {H : Hp} : ∀ ks : List Key, Reps K H (ks.map kD) (ks.map kV)
  | [] => .nil
  | k :: ks => .cons (rep_kD k) (reps_kD ks)
def valD {κ : Type} [DecidableEq κ] (kvs : List (κ × D)) (k : κ) : Option D := (kvs.find? fun kv => decide (kv.1 = k)).map (·.2)
def putD {κ : Type} [DecidableEq κ] (kvs : List (κ × D)) (k : κ) (v : D) : List (κ × D) :=
  if (kvs.any fun kv => decide (kv.1 = k)) = true then kvs.map (fun kv => if kv.1 = k then (kv.1, v) else kv) else kvs ++ [(k, v)]
theorem KVd.val {K : PySem.W.Frag} {H : Hp} {κ : Type} [DecidableEq κ] {k : κ} : ∀ {kvs : List (κ × D)} {ys : List (κ × V)}, KVd K H kvs ys → (∀ d, valD kvs k = some d → ∃ v, valV ys k = some v ∧ Rep K H d v) ∧ (valD kvs k = none → valV ys k = none)
  | _, _, .nil => ⟨fun d h => (by cases h), fun _ => rfl⟩
  | _, _, .cons (a := p) (b := q) (l₁ := l1) (l₂ := l2) r t => by
    obtain ⟨ih1, ih2⟩ := KVd.val (k := k) t
    unfold valD valV at *
    rw [List.find?_cons, List.find?_cons]
    by_cases e : p.1 = k
    · have e' : q.1 = k := by rw [← r.1]; exact e
      simp only [e, e', decide_true]
      exact ⟨fun d h => ⟨q.2, rfl, by simp at h; rw [← h]; exact r.2⟩, fun h => by simp at h⟩
    · have e' : ¬ q.1 = k := by rw [← r.1]; exact e
      simp only [decide_eq_false e, decide_eq_false e']
      exact ⟨ih1, ih2⟩
theorem KVd.length {K : PySem.W.Frag} {H : Hp} {κ : Type} {kvs : List (κ × D)} {ys : List (κ × V)} (h : KVd K H kvs ys) : kvs.length = ys.length := Paired.length h
theorem KVd.any {K : PySem.W.Frag} {H : Hp} {κ : Type} [DecidableEq κ] {k : κ} : ∀ {kvs : List (κ × D)} {ys : List (κ × V)}, KVd K H kvs ys → (kvs.any fun kv => decide (kv.1 = k)) = (ys.any fun kv => decide (kv.1 = k))
  | _, _, .nil => rfl
  | _, _, .cons r t => by rw [List.any_cons, List.any_cons, KVd.any t, r.1]
theorem KVd.map {K : PySem.W.Frag} {H : Hp} {κ : Type} [DecidableEq κ] {k : κ} {d : D} {v : V} (rv : Rep K H d v) : ∀ {kvs : List (κ × D)} {ys : List (κ × V)}, KVd K H kvs ys → KVd K H (kvs.map fun kv => if kv.1 = k then (kv.1, d) else kv) (ys.map fun kv => if kv.1 = k then (kv.1, v) else kv)
  | _, _, .nil => .nil
  | _, _, .cons (a := p) (b := q) r t => by
    refine .cons ?_ (KVd.map rv t)
    by_cases e : p.1 = k
    · have e' : q.1 = k := by rw [← r.1]; exact e
      simp only [if_pos e, if_pos e']
      exact ⟨r.1, rv⟩
    · have e' : ¬ q.1 = k := by rw [← r.1]; exact e
      simp only [if_neg e, if_neg e']
      exact r
theorem KVd.append {K : PySem.W.Frag} {H : Hp} {κ : Type} : ∀ {kvs ks : List (κ × D)} {ys zs : List (κ × V)}, KVd K H kvs ys → KVd K H ks zs → KVd K H (kvs ++ ks) (ys ++ zs)
  | _, _, _, _, .nil, h => h
  | _, _, _, _, .cons r t, h => .cons r (KVd.append t h)
theorem KVd.put {K : PySem.W.Frag} {H : Hp} {κ : Type} [DecidableEq κ] {k : κ} {d : D} {v : V} {kvs : List (κ × D)} {ys : List (κ × V)} (h : KVd K H kvs ys) (rv : Rep K H d v) : KVd K H (putD kvs k d) (putK ys k v) := by
  unfold putD putK
  rw [h.any (k := k)]
  split
  · exact h.map rv
  · exact h.append (.cons ⟨rfl, rv⟩ .nil)
/-- what stands at the key y of the dict at a -/
def GetD (m : M) (a : Addr) (y : D) (r : Option D) : Prop := (∃ kvs k, m.mu a = some (.dic kvs) ∧ y = kD k ∧ r = valD kvs k) ∨ ∃ kvs ks, m.mu a = some (.dit kvs) ∧ y = .tup (ks.map kD) ∧ r = valD kvs ks
theorem GetD.v {K : PySem.W.Frag} {H : Hp} {m : M} {a : Addr} {y : D} {v : V} {r : Option D} (h : GetD m a y r) (ry : Rep K H y v) (rh : RelH K H m) : ∃ o, DGet H a v o ∧ (∀ d, r = some d → ∃ u, o = some u ∧ Rep K H d u) ∧ (r = none → o = none) := by
  rcases h with ⟨kvs, k, e, rfl, er⟩ | ⟨kvs, ks, e, rfl, er⟩
  · obtain ⟨ys, e2, kv⟩ := rh.obj _ _ e
    have := kD_rep ry
    subst this er
    obtain ⟨h1, h2⟩ := kv.val (k := k)
    exact ⟨valV ys k, DGet.k e2, fun d hd => by obtain ⟨u, hu, ru⟩ := h1 d hd; exact ⟨u, hu, ru⟩, h2⟩
  · obtain ⟨ys, e2, kv⟩ := rh.obj _ _ e
    cases ry with
    | tup eb rr =>
      have := kDs_rep rr
      subst this er
      obtain ⟨h1, h2⟩ := kv.val (k := ks)
      exact ⟨valV ys ks, DGet.t e2 eb, fun d hd => by obtain ⟨u, hu, ru⟩ := h1 d hd; exact ⟨u, hu, ru⟩, h2⟩
def dDGet (td ty : DTr) : DTr := fun δ m Q => td δ m fun x m1 => ty δ m1 fun y m2 => ∃ a d, x = .ref a ∧ GetD m2 a y (some d) ∧ Q d m2
theorem de_dget {k : Nat} (hr : Room k X.A) (ho : DE X o td) (hi : DE X i ty) (hs : NoSl i := by exact fun _ _ => rfl) : DE X (.Subscript o i pos) (dDGet td ty) := (pe_dget (hu_of hr) ho hi hs).imp fun σ H Q ⟨δ, m, Q', rs, rh, q, f⟩ =>
  ⟨δ, m, _, rs, rh, q, fun x m1 q1 v H1 t1 r1 rh1 => ⟨δ, m1, _, rs.mono t1, rh1, q1, fun y m2 ⟨a, d, ex, hg, q2⟩ u H2 t2 r2 rh2 => by
    subst ex; cases r1
    obtain ⟨o, h1, h2, _⟩ := hg.v r2 rh2
    obtain ⟨w, rfl, rw'⟩ := h2 d rfl
    exact ⟨a, w, rfl, h1, f d m2 q2 w H2 (t1.trans t2) rw' rh2⟩⟩⟩
def dDIn (neg : Bool) (ty td : DTr) : DTr := fun δ m Q => ty δ m fun y m1 => td δ m1 fun x m2 => ∃ a r, x = .ref a ∧ GetD m2 a y r ∧ Q (.bl (if neg then !r.isSome else r.isSome)) m2
theorem isSome_eq {K : PySem.W.Frag} {H : Hp} {r : Option D} {o : Option V} (h1 : ∀ d, r = some d → ∃ u, o = some u ∧ Rep K H d u) (h2 : r = none → o = none) : o.isSome = r.isSome := by
  cases r with
  | none => rw [h2 rfl]; rfl
  | some d => obtain ⟨u, rfl, _⟩ := h1 d rfl; rfl
theorem up_din {K : PySem.W.Frag} {ty td : DTr} : ∀ σ H Q, up K (dDIn false ty td) σ H Q → tDIn (up K ty) (up K td) σ H Q := fun σ H Q ⟨δ, m, Q', rs, rh, q, f⟩ =>
  ⟨δ, m, _, rs, rh, q, fun y m1 q1 v H1 t1 r1 rh1 => ⟨δ, m1, _, rs.mono t1, rh1, q1, fun x m2 ⟨a, r, ex, hg, q2⟩ u H2 t2 r2 rh2 => by
    subst ex; cases r2
    obtain ⟨o, h1, h2, h3⟩ := hg.v (Rep.mono t2 _ _ r1) rh2
    refine ⟨a, o, rfl, h1, ?_⟩
    rw [isSome_eq h2 h3]
    exact f _ m2 q2 _ H2 (t1.trans t2) (.bl _) rh2⟩⟩
theorem up_dnotin {K : PySem.W.Frag} {ty td : DTr} : ∀ σ H Q, up K (dDIn true ty td) σ H Q → tDNotIn (up K ty) (up K td) σ H Q := fun σ H Q ⟨δ, m, Q', rs, rh, q, f⟩ =>
  ⟨δ, m, _, rs, rh, q, fun y m1 q1 v H1 t1 r1 rh1 => ⟨δ, m1, _, rs.mono t1, rh1, q1, fun x m2 ⟨a, r, ex, hg, q2⟩ u H2 t2 r2 rh2 => by
    subst ex; cases r2
    obtain ⟨o, h1, h2, h3⟩ := hg.v (Rep.mono t2 _ _ r1) rh2
    refine ⟨a, o, rfl, h1, ?_⟩
    rw [isSome_eq h2 h3]
    exact f _ m2 q2 _ H2 (t1.trans t2) (.bl _) rh2⟩⟩
theorem de_din {k : Nat} (hr : Room k X.A) (hi : DE X i ty) (ho : DE X o td) (hb : behindInMarks .In o = false := by rfl) : DE X (.Compare i [.In] [o] pos) (dDIn false ty td) := (pe_cmp (pc_din (hu_of hr) hi ho) hb).imp up_din
theorem dt_din {k : Nat} (hr : Room k X.A) (hi : DE X i ty) (ho : DE X o td) (hb : behindInMarks .In o = false := by rfl) : DTst X (.Compare i [.In] [o] pos) (dB (dDIn false ty td)) := (pt_cmp (pc_din (hu_of hr) hi ho) hb).imp fun σ H Q q => up_din σ H _ (up_B σ H Q q)
theorem dt_dnotin {k : Nat} (hr : Room k X.A) (hi : DE X i ty) (ho : DE X o td) (hb : behindInMarks .NotIn o = false := by rfl) : DTst X (.Compare i [.NotIn] [o] pos) (dB (dDIn true ty td)) := (pt_cmp (pc_dnotin (hu_of hr) hi ho) hb).imp fun σ H Q q => up_dnotin σ H _ (up_B σ H Q q)
def dDPut (td ty tv : DTr) : DTS := fun E δ m => tv δ m fun v m1 => td δ m1 fun x m2 => ty δ m2 fun y m3 => ∃ a, x = .ref a ∧
  ((∃ kvs k, m3.mu a = some (.dic kvs) ∧ y = kD k ∧ kvs.length < sizeLine ∧ E.nx δ (m3.set a (.dic (putD kvs k v)))) ∨ ∃ kvs ks, m3.mu a = some (.dit kvs) ∧ y = .tup (ks.map kD) ∧ kvs.length < sizeLine ∧ E.nx δ (m3.set a (.dit (putD kvs ks v))))
theorem ds_dput {k : Nat} (hr : Room k X.A) (ho : DE X o td) (hi : DE X i ty) (hv : DE X value tv) (hs : swapsWith value (some (.Subscript o i pos')) pos.line X.env = pure false := by rfl) : DS X (.Assign [.Subscript o i pos'] value pos) (dDPut td ty tv) :=
  (ps_dput (hu_of hr) ho hi hv hs).imp fun E σ H ⟨δ, m, E', rs, rh, q, f⟩ =>
  ⟨δ, m, _, rs, rh, q, fun v m1 q1 vv H1 t1 r1 rh1 => ⟨δ, m1, _, rs.mono t1, rh1, q1, fun x m2 q2 vx H2 t2 r2 rh2 => ⟨δ, m2, _, (rs.mono t1).mono t2, rh2, q2, fun y m3 ⟨a, ex, q3⟩ vy H3 t3 r3 rh3 => by
    subst ex; cases r2
    have rv := Rep.mono (t2.trans t3) _ _ r1
    have t13 := (t1.trans t2).trans t3
    rcases q3 with ⟨kvs, k, e, rfl, hl, qn⟩ | ⟨kvs, ks, e, rfl, hl, qn⟩
    · obtain ⟨ys, e2, kv⟩ := rh3.obj _ _ e
      have := kD_rep r3
      subst this
      have t4 := rh3.putTS (o := .dK (putK ys k vv)) e
      exact ⟨a, _, rfl, DPut.k e2 (by rw [← kv.length]; exact hl), f.nx _ _ qn _ _ (t13.trans t4) (rs.mono (t13.trans t4)) (rh3.put (x := .dic (putD kvs k v)) e ⟨_, upd_same, (kv.put rv).mono t4⟩)⟩
    · obtain ⟨ys, e2, kv⟩ := rh3.obj _ _ e
      cases r3 with
      | tup eb rr =>
        have := kDs_rep rr
        subst this
        have t4 := rh3.putTS (o := .dT (putK ys ks vv)) e
        exact ⟨a, _, rfl, DPut.t e2 eb (by rw [← kv.length]; exact hl), f.nx _ _ qn _ _ (t13.trans t4) (rs.mono (t13.trans t4)) (rh3.put (x := .dit (putD kvs ks v)) e ⟨_, upd_same, (kv.put rv).mono t4⟩)⟩⟩⟩⟩
def dNewK : DTr := fun _ m Q => ∀ p, m.mu p = none → Q (.ref p) (m.set p (.dic []))
def dNewT : DTr := fun _ m Q => ∀ p, m.mu p = none → Q (.ref p) (m.set p (.dit []))
theorem de_newK : DE X (.Dict [] [] pos) dNewK := pe_dnewK.imp fun σ H Q ⟨δ, m, Q', rs, rh, q, f⟩ => fun p hp => f _ _ (q p (rh.fresh hp)) _ _ (Ts.new hp) (.ref p) (rh.newO (x := .dic []) hp ⟨[], upd_same, .nil⟩)
theorem de_newT : DE X (.Dict [] [] pos) dNewT := pe_dnewT.imp fun σ H Q ⟨δ, m, Q', rs, rh, q, f⟩ => fun p hp => f _ _ (q p (rh.fresh hp)) _ _ (Ts.new hp) (.ref p) (rh.newO (x := .dit []) hp ⟨[], upd_same, .nil⟩)
/-- a display of constants, by its own reading -/
def dNewC (kvs : List (Key × D)) : DTr := fun _ m Q => ∀ p, m.mu p = none → Q (.ref p) (m.set p (.dic kvs))

/-! ### a dict with tuple keys, walked -/
def dLock (n : Nat) (t : DTr) : DTr := fun δ m Q => ∃ a kvs, δ[n]? = some (some (.ref a)) ∧ m.mu a = some (.dit kvs) ∧ ∀ u, t δ (m.set a (.lck kvs u)) (fun d m' => m'.mu a = some (.lck kvs u) ∧ Q d (m'.set a (.dit kvs)))
theorem de_lock {n : Nat} {t : DTr} (h : DE X e t) : DE X e (dLock n t) := (pe_lock h).imp fun σ H Q ⟨δ, m, Q', rs, rh, ⟨a, kvs, ha, he, q⟩, f⟩ => by
  obtain ⟨ys, e2, kv⟩ := rh.obj _ _ he
  refine ⟨a, _, e2, trivial, fun od => ?_⟩
  have t1 : Ts X.K H (upd H a (.frz od (.dT ys))) := rh.putTS he
  refine ⟨δ, _, _, rs.mono t1, rh.put (x := .lck kvs (.frz od (.dT ys))) he ⟨upd_same, od, ys, rfl, kv.mono t1⟩, q _, fun d m' ⟨hl, q1⟩ v H' t2 r2 rh2 => ?_⟩
  obtain ⟨e3, od', ys', e4, kv'⟩ := rh2.obj _ _ hl
  cases e4
  have t3 := rh2.putTS (o := .dT ys) hl
  exact ⟨e3, f d _ q1 v _ ((t1.trans t2).trans t3) (Rep.mono t3 _ _ r2) (rh2.put (x := .dit kvs) hl ⟨ys, upd_same, kv'.mono t3⟩)⟩
def iK (n : Nat) : DTI := fun δ m R => ∃ a kvs u, δ[n]? = some (some (.ref a)) ∧ m.mu a = some (.lck kvs u) ∧ R (kvs.map fun p => D.tup (p.1.map kD)) (fun m => m.mu a = some (.lck kvs u)) m
theorem dpi_keys {n : Nat} {tg : Expr} (he : PE X e (tVar n)) : DPI X tg e (iK n) := (pi_keys he).imp fun σ H R ⟨δ, m, Q', rs, rh, ⟨a, kvs, u, ha, hm, q⟩, f⟩ => by
  obtain ⟨v, e1, r1⟩ := rs.get ha
  cases r1
  obtain ⟨e2, od, ys, eu, kv⟩ := rh.obj _ _ hm
  subst eu
  refine ⟨_, e1, a, od, rfl, .inr ⟨ys, e2, f _ _ m q _ H (Ts.refl _ _) rh ⟨fun i H2 m2 t r o hi => ?_, fun i H2 m2 v H' t r o hi y => ?_, fun i H2 m2 t r o hi => ?_⟩⟩⟩
  · obtain ⟨e3, _⟩ := r.obj _ _ o
    exact ⟨e3, by rw [← kv.length]; simpa using hi⟩
  · obtain ⟨rfl, k, w, b, h1, rfl, h3⟩ := y
    obtain ⟨e3, od', ys', e4, kv'⟩ := r.obj _ _ o
    cases e4
    refine ⟨Ts.refl _ _, r, .tup (k.map kD), ?_, .tup h3 (reps_kD k)⟩
    have hi' : i < kvs.length := by simpa using hi
    rw [List.getElem?_map, List.getElem?_eq_getElem hi']
    have : (kvs[i]).1 = k := pair_key kv' (List.getElem?_eq_getElem hi') h1
    simp [this]
  · obtain ⟨e3, _⟩ := r.obj _ _ o
    exact ⟨e3, by rw [← kv.length]; simpa using hi⟩
where
  pair_key {K : PySem.W.Frag} {H : Hp} {κ : Type} : ∀ {kvs : List (κ × D)} {ys : List (κ × V)} {i : Nat} {p : κ × D} {k : κ} {w : V}, KVd K H kvs ys → kvs[i]? = some p → ys[i]? = some (k, w) → p.1 = k
    | _, _, _, _, _, _, .nil, h, _ => by simp at h
    | _, _, 0, _, _, _, .cons r _, h, h' => by simp at h h'; rw [← h, r.1, h']
    | _, _, i + 1, _, _, _, .cons _ t, h, h' => pair_key (i := i) t (by simpa using h) (by simpa using h')
end
end DL

namespace DL
open PySem PySem.Spec PyProof.Rows L2 GA GxR
def startD (N : List Str) (ds : List D) : Sl := ds.map some ++ List.replicate (N.length - ds.length) none
theorem start_rel {K : PySem.W.Frag} {H : Hp} {N : List Str} {ds : List D} {vs : List V} (r : Reps K H ds vs) : RelS K H (startD N ds) (L2.start N vs) := by
  unfold startD L2.start
  rw [← r.length]
  refine RelS.of (by simp [r.length]) fun i d h => ?_
  by_cases hi : i < ds.length
  · rw [List.getElem?_append_left (by simpa using hi), List.getElem?_map] at h
    cases e : ds[i]? with
    | none => rw [e] at h; cases h
    | some d' =>
      rw [e] at h; cases h
      obtain ⟨v, hv, rv⟩ := r.get e
      exact ⟨v, by rw [List.getElem?_append_left (by simpa [← r.length] using hi), List.getElem?_map, hv]; rfl, rv⟩
  · rw [List.getElem?_append_right (by simpa using hi), List.getElem?_replicate] at h
    split at h <;> cases h
section
variable {P : Program} {w : World} {K : PySem.W.Frag} {mg : Str → Option Value} {base : Heap}
/-- a def by its body, over trees -/
theorem dcal {x : Str} {st : Stmt} {f : Addr} {fd : FuncData} {N ps : List Str} {k : Nat} {sp : DSp} (F : Fun K x x st f fd) (hm : mg x = some (.ref f)) (b : Binds K fd ps []) (S : FnScope N ps (defScope st)) (hl : ∀ ds m Q, sp ds m Q → ds.length = ps.length)
    (hbody : ∀ (cdv : Value) (A : Around) (outer : List Env) (s : Shared) (H : Hp) (E : XK), Room k (A.deeper (envOfC x (defScope st) s.heap.objs.size f cdv)) →
      ∃ t, DSs (cxOf CX0 P w K mg base N x (defScope st) f cdv A outer s H E).nox (defBody st) t ∧ ∀ ds m Q, sp ds m Q → t { nx := fun _ m' => Q .non m', rt := Q } (startD N ds) m) : DCal P w K mg base (k + 1) x sp := by
  refine ⟨f, fd, ps, F.ok S (fun vs H Q E ⟨ds, m, Q', r, rh, q, f⟩ => by rw [← r.length]; exact hl ds m Q' q) fun cdv A outer s H vs Q E hr hsp => ?_, hm, F.kp, b⟩
  obtain ⟨ds, m, Q', r, rh, q, f⟩ := hsp
  obtain ⟨t, ht, h⟩ := hbody cdv A outer s H E hr
  refine ⟨_, ht, startD N ds, m, _, start_rel r, rh, h ds m Q' q, ⟨fun δ' m' q' σ' H' t' rs' rh' => f .non m' q' .non H' t' .non rh', f, fun _ _ z => z.elim, fun _ _ z => z.elim⟩⟩
/-- .. whose code object is known -/
structure FunC (K : PySem.W.Frag) (x : Str) (st : Stmt) (f : Addr) (fd : FuncData) (c : Addr) : Prop where
  ex : ∃ (oc : Value) (od : Option Addr) (kV doc pm : Value) (an : Option Addr) (ct : Value) (osl : Array (Option Value)),
    fd = PySem.W.fnOf x x (defArgs st) (defBody st) (defScope st) .none kV doc pm an (.ref c) ct ∧ K.lookup f = some ⟨oc, od, .func fd, osl⟩ ∧ PySem.W.codeIn K (.ref c) x = true
  kp : PySem.W.keepIn K (.ref f) = true
theorem FunC.fun {x : Str} {st : Stmt} {f c : Addr} {fd : FuncData} (F : FunC K x st f fd c) : Fun K x x st f fd := by
  obtain ⟨oc, od, kV, doc, pm, an, ct, osl, e, l, cd⟩ := F.ex
  exact ⟨⟨oc, od, kV, doc, pm, an, .ref c, ct, osl, e, l, cd⟩, F.kp⟩
theorem dcalC {x : Str} {st : Stmt} {f c : Addr} {fd : FuncData} {N ps : List Str} {k : Nat} {sp : DSp} (F : FunC K x st f fd c) (hm : mg x = some (.ref f)) (b : Binds K fd ps []) (S : FnScope N ps (defScope st)) (hl : ∀ ds m Q, sp ds m Q → ds.length = ps.length)
    (hbody : ∀ (A : Around) (outer : List Env) (s : Shared) (H : Hp) (E : XK), Room k (A.deeper (envOfC x (defScope st) s.heap.objs.size f (.ref c))) →
      ∃ t, DSs (cxOf CX0 P w K mg base N x (defScope st) f (.ref c) A outer s H E).nox (defBody st) t ∧ ∀ ds m Q, sp ds m Q → t { nx := fun _ m' => Q .non m', rt := Q } (startD N ds) m) : DCal P w K mg base (k + 1) x sp := by
  have F' := F.fun
  obtain ⟨oc, od, kV, doc, pm, an, ct, osl, rfl, lk, hcd⟩ := F.ex
  refine ⟨f, _, ps, fn_of lk hcd S (fun vs H Q E ⟨ds, m, Q', r, rh, q, f⟩ => by rw [← r.length]; exact hl ds m Q' q) fun A outer s H vs Q E hr hsp => ?_, hm, F.kp, b⟩
  obtain ⟨ds, m, Q', r, rh, q, f⟩ := hsp
  obtain ⟨t, ht, h⟩ := hbody A outer s H E hr
  refine ⟨_, ht.nox, startD N ds, m, _, start_rel r, rh, h ds m Q' q, ⟨fun δ' m' q' σ' H' t' rs' rh' => f .non m' q' .non H' t' .non rh', f, fun _ _ z => z.elim, fun _ _ z => z.elim⟩⟩
end
end DL

namespace DL
open PySem PySem.Spec PyProof.Rows L2 GA GxR
section
variable {X : Cx} {e : Expr} {te : DTr} {es : List Expr} {t : DTA} {pos : Pos}
/-- a text, sign by sign -/
def iS (te : DTr) : DTI := fun δ m R => te δ m fun x m1 => ∃ z : Str, x = .str z ∧ R (z.cps.toList.map fun c => D.str ⟨#[c]⟩) (fun _ => True) m1
theorem dpi_str {tg : Expr} (he : DE X e te) : DPI X tg e (iS te) := (pi_str he).imp fun σ H R ⟨δ, m, Q', rs, rh, q, f⟩ =>
  ⟨δ, m, _, rs, rh, q, fun x m1 ⟨z, ex, q1⟩ v H1 t1 r1 rh1 => by
    subst ex; cases r1
    have hl : (z.cps.toList.map fun c => D.str ⟨#[c]⟩).length = z.cps.size := by simp
    refine ⟨z, rfl, f _ _ m1 q1 _ H1 t1 rh1 ⟨fun i H m t r o hi => ?_, fun i H m v H' t r o hi y => ?_, fun i H m t r o hi => ?_⟩⟩
    · show i < z.cps.size
      rw [← hl]; exact hi
    · obtain ⟨rfl, c, hc, rfl⟩ := y
      refine ⟨Ts.refl _ _, r, .str ⟨#[c]⟩, ?_, .str _⟩
      rw [List.getElem?_map, Array.getElem?_toList, hc]; rfl
    · show z.cps.size ≤ i
      rw [← hl]; exact hi⟩
/-- a local name that holds a def -/
structure DCalAt (P : Program) (w : World) (K : PySem.W.Frag) (mg : Str → Option Value) (base : Heap) (k : Nat) (f : Addr) (sp : DSp) : Prop where
  ex : ∃ (fd : FuncData) (ps : List Str), FnOk P w K mg base CX0 k f fd ps (spUp K sp) ∧ PySem.W.keepIn K (.ref f) = true ∧ Binds K fd ps []
def dCallL (i : Nat) (f : Addr) (sp : DSp) (t : DTA) : DTr := fun δ m Q => δ[i]? = some (some (.ref f)) ∧ t δ m fun ds m1 => sp ds m1 Q
theorem de_callL {k j i : Nat} {f : Addr} {x : Str} {p : Pos} {sp : DSp} (c : DCalAt X.prog X.w X.K X.mg X.base k f sp) (hr : Room j X.A) (hk : k ≤ j) (hN : X.N[i]? = some x := by rfl)
    (hv : Vis X.env.scope x := by first | exact Or.inl rfl | exact Or.inr (Or.inl rfl) | exact Or.inr (Or.inr rfl)) (ha : DA X (e :: es) t)
    (hdb : (x == ("__debug__" : Str)) = false := by decide) (hcd : (x == ("__classdict__" : Str)) = false := by decide)
    (he : starEach (e :: es) X.env = (false, eval e X.env) :: starEach es X.env := by rfl) (hpl : (backTo pos (starEach es X.env)).any (·.1) = false := by rfl) : DE X (.Call (.Name x p) (e :: es) [] pos) (dCallL i f sp t) := by
  obtain ⟨fd, ps, F, kp, b⟩ := c.ex
  refine (pe_callL F (hr.mono hk) hN hv kp b .nil pass0 ha hdb hcd he hpl).imp fun σ H Q ⟨δ, m, Q', rs, rh, ⟨h1, q⟩, f⟩ => ?_
  obtain ⟨v, e1, r1⟩ := rs.get h1
  cases r1
  exact ⟨e1, δ, m, _, rs, rh, q, fun ds m1 q1 vs H1 t1 r1 rh1 => by
    show spUp X.K sp (vs ++ []) H1 Q _
    rw [List.append_nil]
    exact ⟨ds, m1, Q', r1, rh1, q1, f.mono t1⟩⟩
theorem DCal.at {P : Program} {w : World} {K : PySem.W.Frag} {mg : Str → Option Value} {base : Heap} {k : Nat} {x : Str} {sp : DSp} {f : Addr} (c : DCal P w K mg base k x sp) (hm : mg x = some (.ref f)) : DCalAt P w K mg base k f sp := by
  obtain ⟨f', fd, ps, F, hm', kp, b⟩ := c.ex
  rw [hm] at hm'; cases hm'
  exact ⟨fd, ps, F, kp, b⟩
theorem DCal.imp {P : Program} {w : World} {K : PySem.W.Frag} {mg : Str → Option Value} {base : Heap} {k : Nat} {x : Str} {sp sp' : DSp} (c : DCal P w K mg base k x sp) (h : ∀ ds m Q, sp' ds m Q → sp ds m Q) : DCal P w K mg base k x sp' := by
  obtain ⟨f', fd, ps, F, hm', kp, b⟩ := c.ex
  exact ⟨f', fd, ps, F.imp fun vs H Q E ⟨ds, m, Q', r, rh, q, f⟩ => ⟨ds, m, Q', r, rh, h ds m Q' q, f⟩, hm', kp, b⟩
theorem genOk {N : List Str} {scX scope : Scope} {ow : List (Str × Nat)} (h1 : scope.kind = .function) (h2 : scope.isCoroutine = false) (h3 : scope.names.lookup (".0" : Str) = some NameKind.local)
    (h4 : (scope.names.all fun y => !decide (y.2 = .cell) && (!decide (y.2 = .free) || ((decide (scX.names.lookup y.1 = some .cell) || decide (scX.names.lookup y.1 = some .free)) && decide (scope.names.lookup y.1 = some .free))) && (!decide (y.2 = .local) || decide (y.1 ∈ ow.map (·.1)) || !decide (y.1 ∈ N))) = true)
    (h5 : (ow.all fun p => decide (N[p.2]? = some p.1)) = true) : GenOk N scX scope ow := by
  have q : ∀ y ∈ scope.names, _ := List.all_eq_true.mp h4
  simp only [Bool.and_eq_true, Bool.or_eq_true, Bool.not_eq_true', decide_eq_true_eq, decide_eq_false_iff_not] at q
  refine ⟨h1, h2, fun y hy => (q y hy).1.1, h3, fun y hy e => ?_, fun y hy => ?_, fun y hy e => ?_, fun p hp => ?_⟩
  · rcases (q y hy).1.2 with z | z
    · exact (z e).elim
    · exact z.1
  · rcases (q _ hy).1.2 with z | z
    · exact (z rfl).elim
    · exact z.2
  · rcases (q y hy).2 with (z | z) | z
    · exact (z e).elim
    · exact .inl z
    · exact .inr z
  · simpa using List.all_eq_true.mp h5 p hp
end
theorem de_globS {X : Cx} {x : Str} {s : Str} {t : Tok} {pos : Pos} (hg : Gl X x) (hm : X.mg x = some (.str s t)) (hd : (x == ("__debug__" : Str)) = false := by decide) : DE X (.Name x pos) (dC (.str s)) := de_glob hg hm (v := .str s) ⟨_, rfl⟩ (fun _ => .str s) hd
theorem de_globI {X : Cx} {x : Str} {i : Int} {t : Tok} {pos : Pos} (hg : Gl X x) (hm : X.mg x = some (.int i t)) (hd : (x == ("__debug__" : Str)) = false := by decide) : DE X (.Name x pos) (dC (.int i)) := de_glob hg hm (v := .int i) ⟨_, rfl⟩ (fun _ => .int i) hd
theorem de_globR {X : Cx} {x : Str} {a : Addr} {d : D} {pos : Pos} (hg : Gl X x) (hm : X.mg x = some (.ref a)) (r : ∀ H, Rep X.K H d (.ref a)) (hd : (x == ("__debug__" : Str)) = false := by decide) : DE X (.Name x pos) (dC d) := de_glob hg hm (v := .ref a) rfl r hd
/-- the table at P stands beside the store -/
structure Tab (m : M) (P : Addr) : Prop where
  own : m.gh.own P
  is : ∀ H, m.gh.inv H → TabG H P
  grow : ∀ H H2, m.gh.inv H → Tabbed P H H2 → m.gh.inv H2
theorem Tab.set {m : M} {P a : Addr} {o : DO} (h : Tab m P) : Tab (m.set a o) P := ⟨h.own, h.is, h.grow⟩
/-- facts of a walk that leaves the store as it is: each turn's test of the item -/
theorem dAll_pure {P : Addr} {ow : List Nat} {ws : DTI} {i : Nat} {te : DTr} {δ : Sl} {m : M} {Q : DK} {xs : List D} {p : D → Bool} (hT : Tab m P) (hw : ∀ R : List D → (M → Prop) → M → Prop, R xs (fun _ => True) m → ws δ m R)
    (he : ∀ d ∈ xs, ∀ R : DK, R (.bl (p d)) m → te ((wipeD δ ow).set i (some d)) m R) (hq : Q (.bl (xs.all p)) m) : dAll P ow ws (.name i) te δ m Q := by
  refine hw _ ⟨hT.own, hT.is, hT.grow, fun j m' => m' = m ∧ (∀ d ∈ xs.take j, p d = true), ⟨rfl, by simp⟩, fun _ _ _ => trivial, ?_, ?_⟩
  · rintro j d m' hd ⟨rfl, ht⟩
    have hmem : d ∈ xs := List.mem_of_getElem? hd
    refine he d hmem _ ⟨p d, rfl, ?_⟩
    cases e : p d with
    | true =>
      rw [if_pos rfl]
      refine ⟨rfl, fun x hx => ?_⟩
      have : xs.take (j + 1) = xs.take j ++ [d] := by
        rw [List.take_succ, hd]; rfl
      rw [this] at hx
      rcases List.mem_append.mp hx with z | z
      · exact ht x z
      · rw [List.mem_singleton.mp z]; exact e
    | false =>
      rw [if_neg Bool.false_ne_true]
      have : xs.all p = false := by
        rw [Bool.eq_false_iff]; intro z
        rw [List.all_eq_true.mp z d hmem] at e; cases e
      rw [this] at hq; exact hq
  · rintro m' ⟨rfl, ht⟩
    have : xs.all p = true := List.all_eq_true.mpr fun d hd => ht d (by rw [List.take_length]; exact hd)
    rw [this] at hq; exact hq
end DL

namespace DL
open PySem PySem.Spec PyProof.Rows L2 GA GxR
section
variable {X : Cx} {a b e o : Expr} {ta tb te to : DTr} {es : List Expr} {t : DTA} {pos apos : Pos}
theorem de_fdiv (ha : DE X a ta) (hb : DE X b tb) : DE X (.BinOp a .FloorDiv b pos) (dOp (rdI CDiv (· / ·)) ta tb) := (pe_op op_fdiv ha hb).imp (up_op opl_I)
def rdMax : DRA := fun xs m Q => ∃ i j : Int, xs = [.int i, .int j] ∧ Q (.int (if j > i then j else i)) m
theorem argl_max {K : PySem.W.Frag} : ArgL K (fun xs H Q => ∃ i j, xs = [.int i, .int j] ∧ Q (.int (if j > i then j else i)) H) rdMax := fun xs vs H m Q' Q r rh ⟨i, j, e, q⟩ f => by
  subst e
  obtain ⟨v, u, rfl, rv, ru⟩ := r.two
  cases rv; cases ru
  exact ⟨i, j, rfl, f _ m q _ H (Ts.refl _ _) (.int _) rh⟩
def rdInt : DRA := fun xs m Q => ∃ i : Int, xs = [.int i] ∧ Q (.int i) m
theorem argl_int {K : PySem.W.Frag} : ArgL K (fun xs H Q => (∃ i, xs = [.int i] ∧ Q (.int i) H) ∨ ∃ k, xs = [.bl k] ∧ Q (.int (if k then 1 else 0)) H) rdInt := fun xs vs H m Q' Q r rh ⟨i, e, q⟩ f => by
  subst e
  obtain ⟨v, rfl, rv⟩ := r.one
  cases rv
  exact .inl ⟨i, rfl, f _ m q _ H (Ts.refl _ _) (.int _) rh⟩
def rdPop : DRM := fun x ys m Q => ∃ a ds y, x = .ref a ∧ ys = [] ∧ m.mu a = some (.lst ds) ∧ ds[ds.length - 1]? = some y ∧ Q y (m.set a (.lst ds.dropLast))
theorem Reps.dropLast {K : PySem.W.Frag} {H : Hp} {ds : List D} {vs : List V} (r : Reps K H ds vs) : Reps K H ds.dropLast vs.dropLast := by
  rw [List.dropLast_eq_take, List.dropLast_eq_take, ← r.length]; exact r.take _
theorem mtl_pop {K : PySem.W.Frag} : MtL K rPop rdPop := fun x ys vx vs H m Q' Q rx rs rh ⟨a, ds, y, ex, ey, h, hy, q⟩ f => by
  subst ex ey
  cases rx; cases rs
  obtain ⟨xs, e, rr⟩ := rh.obj _ _ h
  obtain ⟨u, hu, ru⟩ := rr.get hy
  have t := rh.putTS (o := .lst xs.dropLast) h
  exact ⟨a, xs, u, rfl, rfl, e, by rw [← rr.length]; exact hu, f _ _ q _ _ t (Rep.mono t _ _ ru) (rh.put (x := .lst ds.dropLast) h ⟨_, upd_same, Reps.mono t _ _ rr.dropLast⟩)⟩
theorem de_pop (ho : DE X o to) (hbase : attributeBase o "pop" X.env (eval o X.env) = eval o X.env := by rfl) (hline : (apos.endLine == pos.line) = true := by rfl) :
    DE X (.Call (.Attribute o "pop" apos) [] [] pos) (dMeth0 rdPop to) := (pe_bm0 PySem.F.plainAttrs_list PySem.F.slot_list_pop PySem.F.type_list_pop mt_pop ho hbase hline).imp (up_bm0 mtl_pop)
def dRevL (te : DTr) : DTr := fun δ m Q => te δ m fun x m1 => ∃ a ds, x = .ref a ∧ m1.mu a = some (.lst ds) ∧ ∀ p, m1.mu p = none → Q (.ref p) (m1.set p (.lst ds.reverse))
theorem Reps.reverse {K : PySem.W.Frag} {H : Hp} : ∀ {ds : List D} {vs : List V}, Reps K H ds vs → Reps K H ds.reverse vs.reverse
  | [], _, r => by cases r; exact .nil
  | d :: ds, _, r => by
    cases r with
    | cons r1 r2 => rw [List.reverse_cons, List.reverse_cons]; exact (Reps.reverse r2).append (.cons r1 .nil)
theorem de_revL {k : Nat} {p1 p2 p3 : Pos} (he : DE X e te) : DE X (.Subscript e (.Slice none none (some (.UnaryOp .USub (.Constant (.int 1) k p1) p2)) p3) pos) (dRevL te) := (pe_revL he).imp fun σ H Q ⟨δ, m, Q', rs, rh, q, f⟩ =>
  ⟨δ, m, _, rs, rh, q, fun x m1 ⟨a, ds, ex, h, q1⟩ v H1 t1 r1 rh1 => by
    subst ex; cases r1
    obtain ⟨xs, e1, rr⟩ := rh1.obj _ _ h
    exact ⟨a, xs, rfl, SqL.of e1, fun p hp => f _ _ (q1 p (rh1.fresh hp)) _ _ (t1.trans (Ts.new hp)) (.ref p) (rh1.newO hp ⟨_, upd_same, Reps.mono (Ts.new hp) _ _ rr.reverse⟩)⟩⟩
/-- a, b, c = x, y, z -/
def dPar3 (i j l : Nat) (ta : DTA) : DTS := fun E δ m => ta δ m fun ds m1 => ∃ x y z, ds = [x, y, z] ∧ E.nx (((δ.set i (some x)).set j (some y)).set l (some z)) m1
theorem Reps.three {K : PySem.W.Frag} {H : Hp} {d e g : D} {vs : List V} (r : Reps K H [d, e, g] vs) : ∃ v u w, vs = [v, u, w] ∧ Rep K H d v ∧ Rep K H e u ∧ Rep K H g w := by
  cases r with
  | cons r1 r2 => obtain ⟨u, w, rfl, r3, r4⟩ := r2.two; exact ⟨_, _, _, rfl, r1, r3, r4⟩
theorem ds_par3 {i j l : Nat} {x y z : Str} {a b c : Expr} {ta : DTA} {px py pz pt : Pos} {kt k2 pt2} (hc : X.calm = true) (hN : X.N.Nodup) (hi : X.N[i]? = some x) (hj : X.N[j]? = some y) (hl : X.N[l]? = some z) (hij : i ≠ j) (hil : i ≠ l) (hjl : j ≠ l)
    (hx : X.env.scope.names.lookup x = some .local) (hy : X.env.scope.names.lookup y = some .local) (hz : X.env.scope.names.lookup z = some .local) (ha : DA X [a, b, c] ta)
    (hw : swappedStores [.Tuple [.Name x px, .Name y py, .Name z pz] kt pt] (.Tuple [a, b, c] k2 pt2) X.env = pure (some [x, y, z]))
    (hs : swapsWithSole [.Tuple [.Name x px, .Name y py, .Name z pz] kt pt] (.Tuple [a, b, c] k2 pt2) pos.line X.env = pure false := by rfl) :
    DS X (.Assign [.Tuple [.Name x px, .Name y py, .Name z pz] kt pt] (.Tuple [a, b, c] k2 pt2) pos) (dPar3 i j l ta) := (ps_par3 hc hN hi hj hl hij hil hjl hx hy hz ha hw hs).imp fun E σ H ⟨δ, m, E', rs, rh, q, f⟩ =>
  ⟨δ, m, _, rs, rh, q, fun ds m1 ⟨x, y, z, e, q1⟩ vs H1 t1 r1 rh1 => by
    subst e
    obtain ⟨v, u, w, rfl, r2, r3, r4⟩ := r1.three
    exact ⟨v, u, w, rfl, f.nx _ m1 q1 _ H1 t1 (RelS.set r4 l (RelS.set r3 j (RelS.set r2 i (rs.mono t1)))) rh1⟩⟩
/-! ### shapes of data -/
theorem lay_pys : ∀ {ds : List D}, (∀ d ∈ ds, d.py.canLay0 = true) → PyData.canLayAll0 (D.pys ds) = true
  | [], _ => rfl
  | d :: ds, h => by
    show (d.py.canLay0 && PyData.canLayAll0 (D.pys ds)) = true
    rw [h d List.mem_cons_self, lay_pys fun x hx => h x (List.mem_cons_of_mem _ hx)]; rfl
mutual
def D.dep : D → Nat
  | .tup ds => D.deps ds + 1
  | .ktup ds => D.deps ds + 1
  | _ => 0
def D.deps : List D → Nat
  | [] => 0
  | d :: ds => max d.dep (D.deps ds)
end
mutual
theorem dep_py : ∀ d : D, d.py.depth = d.dep
  | .non | .bl _ | .int _ | .str _ | .ref _ => rfl
  | .tup ds => by show PyData.depthAll (D.pys ds) + 1 = D.deps ds + 1; rw [dep_pys ds]
  | .ktup ds => by show PyData.depthAll (D.pys ds) + 1 = D.deps ds + 1; rw [dep_pys ds]
theorem dep_pys : ∀ ds : List D, PyData.depthAll (D.pys ds) = D.deps ds
  | [] => rfl
  | d :: ds => by show max d.py.depth (PyData.depthAll (D.pys ds)) = max d.dep (D.deps ds); rw [dep_py d, dep_pys ds]
end
theorem deps_le {n : Nat} : ∀ {ds : List D}, (∀ d ∈ ds, d.dep ≤ n) → D.deps ds ≤ n
  | [], _ => Nat.zero_le _
  | d :: ds, h => by
    show max d.dep (D.deps ds) ≤ n
    have h1 := h d List.mem_cons_self
    have h2 := deps_le fun x hx => h x (List.mem_cons_of_mem _ hx)
    omega
theorem pures_of : ∀ {ds : List D}, (∀ d ∈ ds, d.pure = true) → D.pures ds = true
  | [], _ => rfl
  | d :: ds, h => by
    show (d.pure && D.pures ds) = true
    rw [h d List.mem_cons_self, pures_of fun x hx => h x (List.mem_cons_of_mem _ hx)]; rfl
/-- data that can be compared -/
structure Fine (d : D) : Prop where
  pure : d.pure = true
  dep : d.dep ≤ 60
  lay : d.py.canLay0 = true
theorem Fine.int (i : Int) : Fine (.int i) := ⟨rfl, Nat.zero_le _, rfl⟩
theorem Fine.str {s : Str} (h : PyData.strOk s = true) : Fine (.str s) := ⟨rfl, Nat.zero_le _, h⟩
theorem shaped_d {d : D} (h : Fine d) : SeqAt.shaped d.py = true := by
  unfold SeqAt.shaped
  have := h.dep
  rw [h.lay, dep_py d, decide_eq_true (by omega)]; rfl
theorem shaped_l {ds : List D} (h : ∀ d ∈ ds, Fine d) : SeqAt.shaped (.list (D.pys ds)) = true := by
  unfold SeqAt.shaped
  have h1 : (PyData.list (D.pys ds)).canLay0 = true := lay_pys fun d hd => (h d hd).lay
  have h2 : (PyData.list (D.pys ds)).depth = D.deps ds + 1 := by show PyData.depthAll (D.pys ds) + 1 = _; rw [dep_pys]
  have h3 := deps_le fun d hd => (h d hd).dep
  rw [h1, h2, decide_eq_true (by omega)]; rfl
theorem eqv_nil (ds : List D) : PyData.eqv (.list (D.pys ds)) (.list []) = ds.isEmpty := by
  cases ds <;> rfl
/-- xs != [], with a new empty list -/
theorem ne_nil {m : M} {Q : DK} {a p : Addr} {ds : List D} (ha : m.mu a = some (.lst ds)) (hp : m.mu p = some (.lst [])) (h1 : ∀ d ∈ ds, Fine d) (q : Q (.bl (!ds.isEmpty)) m) : rdEq true (.ref a) (.ref p) m Q := by
  refine ⟨_, _, .l ha (pures_of fun d hd => (h1 d hd).pure), .l hp (pures_of fun d h => (by cases h)), shaped_l h1, shaped_l (ds := []) (fun d h => (by cases h)), ?_⟩
  show Q (.bl (if true = true then !PyData.eqv (.list (D.pys ds)) (.list []) else _)) m
  rw [if_pos rfl, eqv_nil]; exact q
/-! ### displays of dicts, with keys that are written texts -/
inductive DD (X : Cx) (pos : Pos) : List (Option Expr) → List Expr → List (Str × DTr) → Prop where
  | nil : DD X pos [] [] []
  | cons {s : Str} {j : Nat} {p : Pos} {v : Expr} {tv : DTr} {ks : List (Option Expr)} {vs : List Expr} {ts : List (Str × DTr)} (h : DE X v tv) (r : DD X pos ks vs ts) : DD X pos (some (.Constant (.str s) j p) :: ks) (v :: vs) ((s, tv) :: ts)
theorem DD.len {ks : List (Option Expr)} {vs : List Expr} {ts : List (Str × DTr)} (h : DD X pos ks vs ts) : ts.length = ks.length := by
  induction h with
  | nil => rfl
  | cons h _ ih => simp [ih]
theorem DD.pps {ks : List (Option Expr)} {vs : List Expr} {ts : List (Str × DTr)} (h : DD X pos ks vs ts) : PPs X pos ks vs (ts.map fun p => (tC (.str p.1), up X.K p.2)) := by
  induction h with
  | nil => exact pps_nil
  | cons h _ ih => exact pps_cons pe_str h ih
def dPairs : List (Str × DTr) → Sl → M → (List D → M → Prop) → Prop
  | [], _, m, Q => Q [] m
  | (_, t) :: r, δ, m, Q => t δ m fun y m1 => dPairs r δ m1 fun ps m2 => Q (y :: ps) m2
def dDisp (ts : List (Str × DTr)) : DTr := fun δ m Q => ∀ p, m.mu p = none → dPairs ts δ (m.set p (.dic [])) fun ys m2 => m2.mu p = some (.dic []) ∧ Q (.ref p) (m2.set p (.dic (((ts.map fun x => (Sum.inr x.1 : Key)).zip ys).foldl (fun acc kv => putD acc kv.1 kv.2) [])))
theorem up_pairs {K : PySem.W.Frag} : ∀ (ts : List (Str × DTr)) (δ : Sl) (σ : L2.St) (H : Hp) (m : M) (Q' : List D → M → Prop) (Q : List (V × V) → Hp → Prop), RelS K H δ σ → RelH K H m → dPairs ts δ m Q' →
    (∀ ys m', ys.length = ts.length → Q' ys m' → ∀ us H', Ts K H H' → Reps K H' ys us → RelH K H' m' → Q ((ts.map fun p => V.str p.1).zip us) H') → tPairs (ts.map fun p => (tC (.str p.1), up K p.2)) σ H Q
  | [], δ, σ, H, m, Q', Q, rs, rh, q, f => f [] m rfl q [] H (Ts.refl _ _) .nil rh
  | (s, t) :: ts, δ, σ, H, m, Q', Q, rs, rh, q, f => by
    refine ⟨δ, m, _, rs, rh, q, fun y m1 q1 v H1 t1 r1 rh1 => ?_⟩
    refine up_pairs ts δ σ H1 m1 _ _ (rs.mono t1) rh1 q1 fun ys m' hl q2 us H' t2 r2 rh2 => ?_
    exact f (y :: ys) m' (by rw [List.length_cons, hl]; rfl) q2 (v :: us) H' (t1.trans t2) (.cons (Rep.mono t2 _ _ r1) r2) rh2
theorem KVd.fold {K : PySem.W.Frag} {H : Hp} : ∀ {ks : List Str} {ys : List D} {us : List V} {acc : List (Key × D)} {acv : List (Key × V)}, Reps K H ys us → KVd K H acc acv →
    KVd K H (((ks.map fun x => (Sum.inr x : Key)).zip ys).foldl (fun acc kv => putD acc kv.1 kv.2) acc) (((ks.map fun x => (Sum.inr x : Key)).zip us).foldl (fun acc kv => putK acc kv.1 kv.2) acv)
  | [], _, _, _, _, _, h => h
  | _ :: _, [], _, _, _, r, h => by cases r; exact h
  | k :: ks, y :: ys, _, _, _, r, h => by
    cases r with
    | cons r1 r2 => exact KVd.fold (ks := ks) r2 (h.put r1)
theorem de_disp {ks : List (Option Expr)} {vs : List Expr} {ts : List (Str × DTr)} (h : DD X pos ks vs ts) (hall : ks.all (·.isSome) = true := by rfl) (hl : ks.length = vs.length := by rfl) (h0 : ks ≠ [] := by exact fun z => nomatch z) (h15 : ks.length ≤ 15 := by decide) :
    DE X (.Dict ks vs pos) (dDisp ts) := (pe_disp h.pps hall hl h0 h15).imp fun σ H Q ⟨δ, m, Q', rs, rh, q, f⟩ => fun p hp => by
  have ht : ts.length ≤ 15 := by rw [h.len]; exact h15
  have t0 := Ts.new (K := X.K) (o := .dK []) hp
  refine up_pairs ts δ σ _ _ _ _ (rs.mono t0) (rh.newO (x := .dic []) hp ⟨[], upd_same, .nil⟩) (q p (rh.fresh hp)) fun ys m' hy ⟨e, q1⟩ us H' t1 r1 rh1 => ?_
  obtain ⟨zs, e1, kv0⟩ := rh1.obj _ _ e
  cases kv0
  have t2 := rh1.putTS (o := .dK (mergeK [] ((ts.map fun x => (Sum.inr x.1 : Key)).zip us))) e
  refine ⟨e1, (ts.map fun x => (Sum.inr x.1 : Key)).zip us, ?_, ?_, f _ _ q1 _ _ ((t0.trans t1).trans t2) (.ref p) (rh1.put e ⟨_, upd_same, ?_⟩)⟩
  · exact zipEq ts us
  · rw [List.length_zip, List.length_map]; omega
  · have := KVd.fold (ks := ts.map (·.1)) r1 (KVd_nil (K := X.K) (H := H'))
    rw [List.map_map] at this
    exact this.mono t2
where
  KVd_nil {K : PySem.W.Frag} {H : Hp} : KVd K H ([] : List (Key × D)) ([] : List (Key × V)) := .nil
  zipEq : ∀ (ts : List (Str × DTr)) (us : List V), (ts.map fun p => V.str p.1).zip us = ((ts.map fun x => (Sum.inr x.1 : Key)).zip us).map fun kv => (kV kv.1, kv.2)
    | [], _ => rfl
    | _ :: _, [] => rfl
    | t :: ts, u :: us => by
      rw [List.map_cons, List.map_cons, List.zip_cons_cons, List.zip_cons_cons, List.map_cons, zipEq ts us]; rfl
end
end DL

namespace PySem
open Sem (wp)
open AutoSeq1 (wpAny_loadPart')
/-! ### enumerate of a tuple -/
theorem DrawsTuple {prog : Program} {w : World} {A : Around} (hh : A.handled = none) (it t : Addr) (hne : t ≠ it) (items : Array Value) :
    Draws prog w A it [it, t] items.size (fun i v => items[i]? = some v) (fun i h => h.IsTupleIter it t i ∧ h.IsTuple t items) where
  live := fun _ _ st => let ⟨o, ho, _⟩ := st.1; ⟨o, ho⟩
  frame := fun _ _ _ st hk => ⟨st.1.at fun o e => hk it (by simp) o e, by
    obtain ⟨o, ho, r⟩ := st.2; exact ⟨o, hk t (by simp) o ho, r⟩⟩
  item := fun i s Q E hi st hQ => by
    refine wpAny_nextOf_tuple_item st.1 st.2 (x := items[i]) (by simp [hi]) fun h' hit' hs' => ?_
    refine hQ _ h' s.toks (by simp [hi]) ⟨hit', ?_⟩ hs'
    obtain ⟨o, ho, r⟩ := st.2; exact ⟨o, hs'.extBut t o hne ho, r⟩
  done := fun s Q E st hE => wpAny_nextOf_tuple_end hh st.1 st.2 (by simp) hE
theorem meets_enumerate_newT (l : Addr) (items : Array Value) (n : Nat) (dct : Option Addr) (sl : Array (Option Value)) :
    Meets (Builtin.«enumerate.__new__» ⟨[.type "enumerate", .ref l], []⟩) (fun _ R s => s.heap.get? l = some { cls := .type "tuple", dict := dct, data := .seq items n, slots := sl } ∧
      R (.ok (.ret (.ref (s.heap.push { cls := .type "tuple_iterator", data := .fields #[.ref l, .int 0 0] }).objs.size)))
        { s with heap := (s.heap.push { cls := .type "tuple_iterator", data := .fields #[.ref l, .int 0 0] }).push { cls := .type "enumerate", data := .fields #[.none, .bool false, .ref s.heap.objs.size, rawInt 0, .none, .none] } }) :=
  .of_wp fun prog w A R s h => by
    obtain ⟨hp, g, d, tk, os⟩ := s; obtain ⟨hl, h⟩ := h
    have hsub := sub_enumerate
    have hL : Heap.IsTuple (Shared.heap ⟨hp, g, d, tk, os⟩) l items := ⟨_, hl, rfl, n, rfl⟩
    wp_walk using wpAny_loadPart' hl
    refine wpAny_stack_any fun st => wpAny_pure ?_
    split
    · rename_i c _ _ _ _ _
      cases (c == Value.type "enumerate")
      · wp_walk using wpAny_loadPart' hl, wpAny_pyIter_tuple hL
        exact ⟨_, rfl, h⟩
      · wp_walk using wpAny_loadPart' hl, wpAny_pyIter_tuple hL
        exact ⟨_, rfl, h⟩
    · wp_walk using wpAny_loadPart' hl, wpAny_pyIter_tuple hL
      exact ⟨_, rfl, h⟩
theorem call_enumerate_tuple {prog : Program} {w : World} {A : Around} {E : Value → Shared → Prop} {s : Shared} {l : Addr} {items : Array Value} {Q : Value → Shared → Prop} (hL : s.heap.IsTuple l items)
    (h : ∀ h', IsEnum h' (s.heap.objs.size + 1) s.heap.objs.size 0 .none → h'.IsTupleIter s.heap.objs.size l 0 → h'.objs.size = s.heap.objs.size + 2 →
      (∀ b o, s.heap.get? b = some o → h'.get? b = some o) → Q (.ref (s.heap.objs.size + 1)) { s with heap := h' }) :
    wpAny (model prog w) A (call (.type "enumerate") [.ref l]) Q E s := by
  obtain ⟨⟨c, dct, dt, sl⟩, hl, hc, n, hd⟩ := hL
  replace hc : c = .type "tuple" := hc
  replace hd : dt = .seq items n := hd
  subst hc hd
  refine callType_new F.called_enumerate (by decide) (F.typeCall_enumerate_1 _) (F.newCall_enumerate_1 _) (fun obj => F.args_object_init_2 obj _) F.entry_enumerate_new
    (meets_enumerate_newT l items n dct sl) ⟨hl, ?_⟩
  have hz : (s.heap.push { cls := .type "tuple_iterator", data := .fields #[.ref l, .int 0 0] }).objs.size = s.heap.objs.size + 1 := Heap.size_push ..
  show _ ∧ _
  rw [hz]
  have he : IsEnum ((s.heap.push { cls := .type "tuple_iterator", data := .fields #[.ref l, .int 0 0] }).push
      { cls := .type "enumerate", data := .fields #[.none, .bool false, .ref s.heap.objs.size, rawInt 0, .none, .none] }) (s.heap.objs.size + 1) s.heap.objs.size 0 .none := by
    have := Heap.get?_push_size (s.heap.push { cls := .type "tuple_iterator", data := .fields #[.ref l, .int 0 0] })
      (o := { cls := .type "enumerate", data := .fields #[.none, .bool false, .ref s.heap.objs.size, rawInt 0, .none, .none] }) rfl
    rw [hz] at this; exact this
  refine ⟨⟨_, he, rfl⟩, h _ he ⟨_, Heap.get?_push_of_some _ (Heap.get?_push_size _ rfl), rfl, rfl⟩ (by rw [Heap.size_push, hz]) fun b o x => Heap.get?_push_of_some _ (Heap.get?_push_of_some _ x)⟩
theorem wpAny_pyNext_enum_endT {prog : Program} {w : World} {A : Around} {E : Value → Shared → Prop} {s : Shared} {e it l : Addr} {i : Nat} {items : Array Value} {old : Value} {Q : Option Value → Shared → Prop} (hh : A.handled = none)
    (he : IsEnum s.heap e it i old) (hit : s.heap.IsTupleIter it l i) (hl : s.heap.IsTuple l items) (hx : items[i]? = none)
    (hQ : ∀ h', Heap.ExtBut it s.heap h' → Q none { s with heap := h' }) : wpAny (model prog w) A (pyNext (.ref e)) Q E s := by
  have hT : s.TypeIs (.ref e) "enumerate" := ⟨_, he, rfl⟩
  unfold pyNext
  refine wpAny_bind (wpAny_attempt (wpAny_callSpecial?_slot (name := Str.ofString "__next__") hT F.slot_enumerate_next
    (wpAny_call_entry F.slot_enumerate_next hT F.entry_enumerate_next ?_ (F.args_enumerate_next_1 _))))
  show wpAny _ _ (field (.ref e) 2 >>= _) _ _ _
  refine wpAny_bind (wpAny_field he rfl (x := .ref it) rfl ?_)
  refine wpAny_bind (wpAny_nextOf_tuple_end hh hit hl hx fun h' x he' hx' => ?_)
  obtain ⟨o, ho, hc⟩ := hx'
  refine wpAny_bind (wpAny_isInstance (T := "StopIteration") (b := true) ⟨o, ho, hc⟩ isSubtype_stop ?_)
  exact wpAny_pure (hQ _ he')
end PySem
namespace DL
open PySem PySem.Spec PyProof.Rows L2 GA GxR
/-- the tuple at a, each item in a new pair -/
def IteT (K : PySem.W.Frag) (a : Addr) : It :=
  ⟨fun i H => ∃ (xs : List V) (x : V), SqT K H a xs ∧ xs[i]? = some x, fun i H v H' => ∃ T x, v = .ref T ∧ H T = none ∧ H' = upd H T (.tup [.int (i : Nat), x]) ∧ ∀ xs, SqT K H a xs → xs[i]? = some x, fun i H => ∃ xs : List V, SqT K H a xs ∧ xs.length ≤ i⟩
theorem turn_enumT {P : Program} {w : World} {K : PySem.W.Frag} {elts : List Expr} {kk : Nat} {tpos : Pos} (a e it : Addr) (hai : a ≠ it) (hae : a ≠ e) :
    Turn P w K (.Tuple elts kk tpos) (IteT K a) [e, it] e (fun i h => (∃ old, IsEnum h e it ((i : Nat) : Int) old) ∧ h.IsTupleIter it a i ∧ e ≠ it) where
  mem := by simp
  obj := fun i h st b hb => by
    obtain ⟨⟨old, he⟩, ⟨o, ho, hc, hd⟩, _⟩ := st
    have e' : b = e ∨ b = it := by simpa using hb
    rcases e' with z | z
    · rw [z]; exact ⟨_, he, fun v q => nomatch q⟩
    · rw [z]; exact ⟨o, ho, fun v q => by rw [hd] at q; cases q⟩
  keep := fun i h h' st k => let ⟨⟨old, he⟩, hi, hne⟩ := st; ⟨⟨old, k e (by simp) _ he⟩, hi.at fun o q => k it (by simp) o q, hne⟩
  item := by
    intro X hP hw hK hc i pins s σ H E I hf st hg
    subst hP hw hK
    obtain ⟨⟨old, he⟩, hit, hne⟩ := st
    obtain ⟨xs, x, hq, hx⟩ := hg
    obtain ⟨its, rv, p, hz⟩ := I.tuple hq
    obtain ⟨u, hu, ru⟩ := rv.get hx
    have hel : e < s.heap.objs.size := Heap.lt_size he
    have hil : it < s.heap.objs.size := by obtain ⟨_, q, _⟩ := hit; exact Heap.lt_size q
    have hlt : i < its.toArray.size := by
      by_cases z : i < its.length
      · simpa using z
      · rw [List.getElem?_eq_none (by omega)] at hu; cases hu
    refine wpAny_pyNext_enum_itemD (DrawsTuple (A := X.A.in1) (show X.A.in1.handled = none from I.ok.hd hc) it a hai its.toArray) he ⟨hit, p⟩ hlt hne (by simp; exact ⟨hne, fun z => hae z.symm⟩) fun x' h' tk hx' ho hst hT hsz hk => ?_
    have ex : x' = u := by
      have : its[i]? = some x' := by simpa using hx'
      rw [hu] at this; cases this; rfl
    subst ex
    refine ⟨_, rfl, wpAny_letOwnedTupleGo_enum (s := { s with heap := h', toks := tk + 1 }) ho fun h'' he' sb => ?_⟩
    have hT2 : h''.get? s.heap.objs.size = some { cls := .type "tuple", data := .seq #[.int i tk, x'] } := (sb.2 _ (Nat.ne_of_gt hel)).trans hT
    have new : ObjOk X.prog X.w (upd H s.heap.objs.size (.tup [.int (i : Nat), x])) h'' s.heap.objs.size (.tup [.int (i : Nat), x]) :=
      ⟨by show 2 ≤ sizeLine; decide, [.int i tk, x'], .cons ⟨_, rfl⟩ (.cons ru .nil), ⟨_, hT2, rfl, _, rfl⟩⟩
    have I1 : Inv X pins σ (upd H s.heap.objs.size (.tup [.int (i : Nat), x])) { s with heap := h'', toks := tk + 1 } :=
      I.turnedNew (ch := [e, it]) (fun b ob hb q => (sb.2 b (fun z => hb (by simp [z]))).trans (hk b ob (fun z => hb (by simp [z])) (fun z => hb (by simp [z])) q)) hf (Nat.le_refl _) new
    refine ⟨.ref s.heap.objs.size, _, I1, rfl, ⟨_, x, rfl, I.hok.fresh (Nat.le_refl _), rfl, fun ys hy => by rw [I.tuple_inj hy hq]; exact hx⟩, ⟨⟨x', ?_⟩, hst.1.at fun o q => (sb.2 it (Ne.symm hne)).trans q, hne⟩, fun b hb => ?_⟩
    · have e1 : ((i + 1 : Nat) : Int) = (i : Int) + 1 := by omega
      rw [e1]; exact he'
    · have hb' : b < s.heap.objs.size := by
        have e' : b = e ∨ b = it := by simpa using hb
        rcases e' with z | z
        · rw [z]; exact hel
        · rw [z]; exact hil
      rw [upd_ne (Nat.ne_of_lt hb')]
      exact (hf b hb).1
  done := by
    intro X hP hw hK hc i pins s σ H E I hf st hg
    subst hP hw hK
    obtain ⟨⟨old, he⟩, hit, hne⟩ := st
    obtain ⟨xs, hq, hx⟩ := hg
    obtain ⟨its, rv, p, hz⟩ := I.tuple hq
    obtain ⟨f0, f1, f2, f3, f4, f5⟩ := hf it (by simp)
    have hl := rv.length
    exact wpAny_pyNext_enum_endT (I.ok.hd hc) he hit p (by simp; omega) fun h' eb => ⟨rfl, I.turned (t' := s.toks) (fun b o hb q => eb b o hb q) f0 f1 f3 f4 f5⟩
  self := fun A i s Q E st h => let ⟨⟨_, he⟩, _⟩ := st; wpAny_pyIter_enum he h
def iEnumT (K : PySem.W.Frag) (ta : TA) : TI := fun σ H R => ta σ H fun vs H1 => ∃ a xs, vs = [.ref a] ∧ SqT K H1 a xs ∧ R (IteT K a) H1
theorem pi_enumT {X : Cx} {e : Expr} {ta : TA} {p pos tpos : Pos} {elts : List Expr} {kk : Nat} (hg : Gl X "enumerate") (hm : X.mg "enumerate" = none) (ha : PA X [e] ta) (hs : starEach [e] X.env = [(false, eval e X.env)] := by rfl) :
    PI X (.Tuple elts kk tpos) (.Call (.Name "enumerate" p) [e] [] pos) (iEnumT X.K ta) := by
  refine ⟨fun pins s σ H R I h => ?_⟩
  refine Call_ (ld_blt I hg hm boot_enumerate (PyProof.Rows.callWith_type1 (thn (ha.run pos pins s σ H _ I h) fun us s1 ⟨vs, H1, I1, r1, q1⟩ => ?_) hs rfl))
  obtain ⟨a, xs, ex, hq, q⟩ := q1
  subst ex
  cases r1 with
  | cons r rr =>
    cases rr
    cases r
    obtain ⟨its, rv, p', hz⟩ := I1.tuple hq
    have hal : a < s1.heap.objs.size := by obtain ⟨o, ho, _⟩ := p'; exact Heap.lt_size ho
    refine call_enumerate_tuple p' fun h' he hit hsz hk => wpAny_pyIter_enum he ?_
    have I2 : Inv X pins σ H1 { s1 with heap := h' } := I1.kept (t' := s1.toks) hk
    refine ⟨s1.heap.objs.size + 1, [s1.heap.objs.size + 1, s1.heap.objs.size], _, _, H1, rfl, I2, turn_enumT a (s1.heap.objs.size + 1) s1.heap.objs.size (Nat.ne_of_lt hal) (Nat.ne_of_lt (Nat.lt_succ_of_lt hal)), ⟨⟨.none, he⟩, hit, Nat.succ_ne_self _⟩, fun b hb => ?_, q⟩
    have e' : b = s1.heap.objs.size + 1 ∨ b = s1.heap.objs.size := by simpa using hb
    have hle : s1.heap.objs.size ≤ b := by
      rcases e' with z | z
      · rw [z]; exact Nat.le_add_right _ _
      · rw [z]; exact Nat.le_refl _
    exact I1.fpOk hle (I1.hok.fresh hle)
/-- enumerate(t), t a tuple: pairs -/
def enumD : Nat → List D → List D
  | _, [] => []
  | n, d :: ds => .tup [.int (n : Int), d] :: enumD (n + 1) ds
theorem enumD_len : ∀ (n : Nat) (ds : List D), (enumD n ds).length = ds.length
  | _, [] => rfl
  | n, d :: ds => by simp [enumD, enumD_len]
theorem enumD_get : ∀ {n i : Nat} {ds : List D} {d : D}, ds[i]? = some d → (enumD n ds)[i]? = some (.tup [.int ((n + i : Nat) : Int), d])
  | _, _, [], _, h => by simp at h
  | n, 0, d :: ds, _, h => by simp at h; subst h; rfl
  | n, i + 1, d :: ds, e, h => by
    have h' : ds[i]? = some e := by simpa using h
    have := enumD_get (n := n + 1) h'
    have e1 : n + 1 + i = n + (i + 1) := by omega
    rw [e1] at this
    simpa [enumD] using this
def iEn (te : DTr) : DTI := fun δ m R => te δ m fun x m1 => ∃ ds, (x = .tup ds ∨ x = .ktup ds) ∧ R (enumD 0 ds) (fun _ => True) m1
theorem dpi_enum {X : Cx} {e : Expr} {te : DTr} {p pos tpos : Pos} {elts : List Expr} {kk : Nat} (hg : Gl X "enumerate") (hm : X.mg "enumerate" = none) (he : DE X e te) (hs : starEach [e] X.env = [(false, eval e X.env)] := by rfl) :
    DPI X (.Tuple elts kk tpos) (.Call (.Name "enumerate" p) [e] [] pos) (iEn te) := (pi_enumT hg hm (pa_cons he pa_nil (by rw [hs]; rfl)) hs).imp fun σ H R ⟨δ, m, Q', rs, rh, q, f⟩ =>
  ⟨δ, m, _, rs, rh, q, fun x m1 ⟨ds, ex, q1⟩ v H1 t1 r1 rh1 => by
    obtain ⟨a, vs, rfl, hsq, rr⟩ := sq_of ex r1
    refine ⟨a, vs, rfl, hsq, f _ _ m1 q1 _ H1 t1 rh1 ⟨fun i H m t r o hi => ?_, fun i H m v H' t r o hi y => ?_, fun i H m t r o hi => ?_⟩⟩
    · rw [enumD_len] at hi
      exact ⟨vs, vs[i]'(by rw [← rr.length]; exact hi), t.1 _ _ hsq, by simp⟩
    · obtain ⟨T, x, rfl, hT, rfl, hy⟩ := y
      have hx := hy vs (t.1 _ _ hsq)
      obtain ⟨d, hd, rd⟩ := (Reps.mono t _ _ rr).getV hx
      refine ⟨Ts.new hT, r.new hT, .tup [.int (i : Int), d], by have := enumD_get (n := 0) hd; rw [Nat.zero_add] at this; exact this, .tup upd_same (.cons (.int _) (.cons (Rep.mono (Ts.new hT) _ _ rd) .nil))⟩
    · rw [enumD_len] at hi
      exact ⟨vs, t.1 _ _ hsq, by rw [← rr.length]; exact hi⟩⟩
end DL

namespace DL
open PySem PySem.Spec PyProof.Rows L2 GA GxR
/-! ### calls by keywords, in the parameters' order -/
structure DCalK (P : Program) (w : World) (K : PySem.W.Frag) (mg : Str → Option Value) (base : Heap) (k : Nat) (x : Str) (ps : List Str) (sp : DSp) : Prop where
  ex : ∃ (f : Addr) (fd : FuncData), FnOk P w K mg base CX0 k f fd ps (spUp K sp) ∧ mg x = some (.ref f) ∧ PySem.W.keepIn K (.ref f) = true ∧ ∀ ws : List Value, ws.length = ps.length → bindArgs fd ⟨[], ps.zip ws⟩ = pure (ps.zip ws)
section
variable {P : Program} {w : World} {K : PySem.W.Frag} {mg : Str → Option Value} {base : Heap}
theorem dcalB {x : Str} {st : Stmt} {f : Addr} {fd : FuncData} {N ps : List Str} {k : Nat} {sp : DSp} (F : Fun K x x st f fd) (hm : mg x = some (.ref f)) (b : Binds K fd ps [])
    (hk : ∀ (kV doc pm : Value) (an : Option Addr) (cdv ct : Value) (ws : List Value), ws.length = ps.length → bindArgs (PySem.W.fnOf x x (defArgs st) (defBody st) (defScope st) .none kV doc pm an cdv ct) ⟨[], ps.zip ws⟩ = pure (ps.zip ws))
    (S : FnScope N ps (defScope st)) (hl : ∀ ds m Q, sp ds m Q → ds.length = ps.length)
    (hbody : ∀ (cdv : Value) (A : Around) (outer : List Env) (s : Shared) (H : Hp) (E : XK), Room k (A.deeper (envOfC x (defScope st) s.heap.objs.size f cdv)) →
      ∃ t, DSs (cxOf CX0 P w K mg base N x (defScope st) f cdv A outer s H E).nox (defBody st) t ∧ ∀ ds m Q, sp ds m Q → t { nx := fun _ m' => Q .non m', rt := Q } (startD N ds) m) : DCal P w K mg base (k + 1) x sp ∧ DCalK P w K mg base (k + 1) x ps sp := by
  have hF : FnOk P w K mg base CX0 (k + 1) f fd ps (spUp K sp) := F.ok S (fun vs H Q E ⟨ds, m, Q', r, rh, q, f⟩ => by rw [← r.length]; exact hl ds m Q' q) fun cdv A outer s H vs Q E hr hsp => by
    obtain ⟨ds, m, Q', r, rh, q, f⟩ := hsp
    obtain ⟨t, ht, h⟩ := hbody cdv A outer s H E hr
    exact ⟨_, ht, startD N ds, m, _, start_rel r, rh, h ds m Q' q, ⟨fun δ' m' q' σ' H' t' rs' rh' => f .non m' q' .non H' t' .non rh', f, fun _ _ z => z.elim, fun _ _ z => z.elim⟩⟩
  refine ⟨⟨f, fd, ps, hF, hm, F.kp, b⟩, f, fd, hF, hm, F.kp, ?_⟩
  obtain ⟨oc, od, kV, doc, pm, an, cdv, ct, osl, e, _⟩ := F.ex
  intro ws hw
  rw [e]
  exact hk kV doc pm an cdv ct ws hw
end
section
variable {X : Cx} {e : Expr} {te : DTr} {t : DTA} {pos kpos : Pos} {nm : Str} {kws : List Keyword}
def DK' (X : Cx) (kws : List Keyword) (t : DTA) : Prop := PK X kws (upA X.K t)
theorem dk_nil : DK' X [] dNil := ⟨fun pos pins s σ H Q I ⟨δ, m, Q', rs, rh, q, f⟩ => pk_nil.run pos pins s σ H Q I (f [] m q [] H (Ts.refl _ _) .nil rh)⟩
theorem dk_cons (he : DE X e te) (hr : DK' X kws t) : DK' X (⟨nm, e, kpos⟩ :: kws) (dCons te t) := ⟨fun pos pins s σ H Q I ⟨δ, m, Q', rs, rh, q, f⟩ => (pk_cons he hr).run pos pins s σ H Q I
    ⟨δ, m, _, rs, rh, q, fun x m1 q1 v H1 t1 r1 rh1 => ⟨δ, m1, _, rs.mono t1, rh1, q1, fun xs m2 q2 vs H2 t2 r2 rh2 =>
      f (x :: xs) m2 q2 (v :: vs) H2 (t1.trans t2) (.cons (Rep.mono t2 _ _ r1) r2) rh2⟩⟩⟩
theorem de_callK {k j : Nat} {x : Str} {p : Pos} {ps : List Str} {sp : DSp} (c : DCalK X.prog X.w X.K X.mg X.base k x ps sp) (hr : Room j X.A) (hk : k ≤ j) (hg : Gl X x) (hkw : DK' X kws t)
    (hall : (backToKw pos (keywordEach kws X.env)).all (·.1.isSome) = true := by rfl) (hks : (backToKw pos (keywordEach kws X.env)).filterMap (·.1) = ps := by rfl) (hdb : (x == ("__debug__" : Str)) = false := by decide)
    (hpl : ((backTo pos (starEach [] X.env)).any (·.1) || (backToKw pos (keywordEach kws X.env)).any (·.1.isNone)) = false := by rfl) : DE X (.Call (.Name x p) [] kws pos) (dCall sp t) := by
  obtain ⟨f, fd, F, hm, kp, b⟩ := c.ex
  refine ⟨fun pins s σ H Q I ⟨δ, m, Q', rs, rh, q, fq⟩ => ?_⟩
  refine wpAny_Call_Name_kw (ld_glob I hg hm ?_ hdb)
  refine PySem.W.callWith_KW0 (h₀ := X.base) I.ok.mod.kin kp hall ?_ hpl
  refine thn (hkw.run pos pins s σ H (fun zs H2 => spUp X.K sp zs H2 Q (fun _ _ _ => False)) I ⟨δ, m, _, rs, rh, q, fun ds m1 q1 vs H1 t1 r1 rh1 => ⟨ds, m1, Q', r1, rh1, q1, fq.mono t1⟩⟩) fun ws s2 ⟨zs, H2, I2, rz, q2⟩ => ⟨I2.kIn, ?_⟩
  rw [hks]
  have hl : ws.length = ps.length := by rw [← rz.length]; exact F.len _ _ _ _ q2
  refine wpAny_call (codeAny_mono (F.run X.A X.stack s2 H2 ⟨[], ps.zip ws⟩ ws zs Q _ (hr.mono hk) I2.env0 (BindsTo.of_eq (b ws hl)) rz q2) fun r s' hq => ?_)
  cases r with
  | error e => exact pass0 pins σ H2 s2 e s' I2 hq
  | ok fl =>
    cases fl with
    | ret u => exact I2.after hq
    | next => exact False.elim hq
    | brk => exact False.elim hq
    | cont => exact False.elim hq
end
end DL

namespace DL
open PySem PySem.Spec PyProof.Rows L2 GA GxR
def dLockS (n : Nat) (t : DTS) : DTS := fun E δ m => ∃ a kvs, δ[n]? = some (some (.ref a)) ∧ m.mu a = some (.dit kvs) ∧ ∀ u, t { E with nx := fun δ' m' => m'.mu a = some (.lck kvs u) ∧ E.nx δ' (m'.set a (.dit kvs)), rt := fun d m' => m'.mu a = some (.lck kvs u) ∧ E.rt d (m'.set a (.dit kvs)), bk := fun _ _ => False, ct := fun _ _ => False } δ (m.set a (.lck kvs u))
theorem ds_lock {X : Cx} {st : Stmt} {n : Nat} {t : DTS} (h : DS X st t) : DS X st (dLockS n t) := (ps_lock h).imp fun E σ H ⟨δ, m, E', rs, rh, ⟨a, kvs, ha, he, q⟩, f⟩ => by
  obtain ⟨ys, e2, kv⟩ := rh.obj _ _ he
  refine ⟨a, _, e2, trivial, fun od => ?_⟩
  have t1 : Ts X.K H (upd H a (.frz od (.dT ys))) := rh.putTS he
  refine ⟨δ, _, _, rs.mono t1, rh.put (x := .lck kvs (.frz od (.dT ys))) he ⟨upd_same, od, ys, rfl, kv.mono t1⟩, q _, ⟨?_, ?_, fun _ _ z => z.elim, fun _ _ z => z.elim⟩⟩
  · rintro δ' m' ⟨hl, q1⟩ σ' H' t2 rs2 rh2
    obtain ⟨e3, od', ys', e4, kv'⟩ := rh2.obj _ _ hl
    cases e4
    have t3 := rh2.putTS (o := .dT ys) hl
    exact ⟨e3, f.nx δ' _ q1 σ' _ ((t1.trans t2).trans t3) (rs2.mono t3) (rh2.put (x := .dit kvs) hl ⟨ys, upd_same, kv'.mono t3⟩)⟩
  · rintro d m' ⟨hl, q1⟩ v H' t2 r2 rh2
    obtain ⟨e3, od', ys', e4, kv'⟩ := rh2.obj _ _ hl
    cases e4
    have t3 := rh2.putTS (o := .dT ys) hl
    exact ⟨e3, f.rt d _ q1 v _ ((t1.trans t2).trans t3) (Rep.mono t3 _ _ r2) (rh2.put (x := .dit kvs) hl ⟨ys, upd_same, kv'.mono t3⟩)⟩
end DL

namespace PL
open PySem PySem.Spec PyProof.Rows L2 GA GxR DL
/-! ### what the program's tests tell, over trees -/
abbrev lettersS : Str := "abcdefghijklmnopqrstuvwxyz"
abbrev lettersDS : Str := "abcdefghijklmnopqrstuvwxyz0123456789"
def nameS (s : Str) : Bool := decide (1 ≤ s.length) && decide (s.length ≤ 8) && (match s.cps.toList with | c :: _ => decide (c ∈ lettersS.cps.toList) | [] => false) && s.cps.toList.all fun c => decide (c ∈ lettersDS.cps.toList)
def mInt : D → Bool
  | .int _ => true | _ => false
def mTupN (d : D) (n : Int) : Bool := match d with
  | .tup xs => decide ((xs.length : Int) = n) | _ => false
def mName : D → Bool
  | .str s => nameS s | _ => false
def mNum : D → Bool
  | .int i => decide (0 ≤ i) && decide (i ≤ 3) | _ => false
def mEnd : D → Bool
  | .tup [a, b] => mName a && mNum b | _ => false
def mStep : D → Bool
  | .tup [a, b, c] => (mName a && mNum b) && mNum c | _ => false
def kindS (s : Str) : Bool := s == "plain" || s == "points" || s == "crossing"
def mKind : D → Bool
  | .str s => kindS s | _ => false
def mStretch : D → Bool
  | .tup [a, b] => mName a && mKind b | _ => false
def mJoint : D → Bool
  | .tup [a, b] => mEnd a && mEnd b | _ => false
def mGate : D → Bool
  | .tup [a, b] => mName a && mEnd b | _ => false
def mOverlap : D → Bool
  | .tup xs => xs.all mStep && decide (xs.length ≤ 1) | _ => false
def mSignal : D → Bool
  | .tup [a, b, c] => (mName a && mEnd b) && mOverlap c | _ => false
def mAll (g : D → Bool) : D → Bool
  | .tup xs => xs.all g | _ => false
def mPlan : D → Bool
  | .tup [a, b, c, d] => mAll mStretch a && mAll mJoint b && (mAll mGate c && mAll mSignal d) | _ => false
/- values made of None, bools, ints, texts and tuples -/
mutual
def ty : D → Prop
  | .ref _ => False
  | .ktup _ => False
  | .tup ds => tys ds
  | .str s => s.length ≤ sizeLine
  | _ => True
def tys : List D → Prop
  | [] => True
  | d :: ds => ty d ∧ tys ds
end
theorem tys_mem : ∀ {ds : List D} {d : D}, tys ds → d ∈ ds → ty d
  | _ :: _, _, h, .head _ => h.1
  | _ :: _, _, h, .tail _ t => tys_mem h.2 t
/-- .. whose second thing is flat, if it is a pair -/
def tyS (d : D) : Prop := ty d ∧ ∀ a b, d = .tup [a, b] → flatD b = true
/-- .. of the form of a plan's: whose first part's pairs have flat second things -/
def tyP (d : D) : Prop := ty d ∧ ∀ a b c e, d = .tup [a, b, c, e] → ∀ xs, a = .tup xs → ∀ x ∈ xs, ∀ u v, x = .tup [u, v] → flatD v = true
def sp1 (Ok : M → Prop) (dom : D → Prop) (g : D → Bool) : DSp := fun ds m Q => ∃ d, ds = [d] ∧ dom d ∧ Ok m ∧ Q (.bl (g d)) m
theorem kit_ii : kitB "int" "int" = some true := by decide +kernel
theorem kit_bi : kitB "bool" "int" = some true := by decide +kernel
theorem kit_si : kitB "str" "int" = some false := by decide +kernel
theorem kit_ni : kitB "NoneType" "int" = some false := by decide +kernel
theorem kit_ti : kitB "tuple" "int" = some false := by decide +kernel
theorem kit_ib : kitB "int" "bool" = some false := by decide +kernel
theorem kit_bb : kitB "bool" "bool" = some true := by decide +kernel
theorem kit_it : kitB "int" "tuple" = some false := by decide +kernel
theorem kit_bt : kitB "bool" "tuple" = some false := by decide +kernel
theorem kit_st : kitB "str" "tuple" = some false := by decide +kernel
theorem kit_nt : kitB "NoneType" "tuple" = some false := by decide +kernel
theorem kit_tt : kitB "tuple" "tuple" = some true := by decide +kernel
theorem kit_is : kitB "int" "str" = some false := by decide +kernel
theorem kit_bs : kitB "bool" "str" = some false := by decide +kernel
theorem kit_ss : kitB "str" "str" = some true := by decide +kernel
theorem kit_ns : kitB "NoneType" "str" = some false := by decide +kernel
theorem kit_ts : kitB "tuple" "str" = some false := by decide +kernel
/-- isinstance of a typed value -/
def isiD (T : String) : D → Bool
  | .non => false
  | .bl _ => T == "bool" || T == "int"
  | .int _ => T == "int"
  | .str _ => T == "str"
  | .tup _ => T == "tuple"
  | _ => false
theorem dIsi_int {te : DTr} {δ : Sl} {m : M} {Q : DK} {d : D} (h : ∀ R : DK, R d m → te δ m R) (hd : ty d) (q : Q (.bl (isiD "int" d)) m) : dIsi "int" te δ m Q := by
  refine h _ ?_
  cases d with
  | non => exact ⟨_, _, rfl, kit_ni, q⟩
  | bl b => exact ⟨_, _, rfl, kit_bi, q⟩
  | int b => exact ⟨_, _, rfl, kit_ii, q⟩
  | str b => exact ⟨_, _, rfl, kit_si, q⟩
  | tup b => exact ⟨_, _, rfl, kit_ti, q⟩
  | ref a => exact hd.elim
  | ktup a => exact hd.elim
theorem dIsi_bool {te : DTr} {δ : Sl} {m : M} {Q : DK} {i : Int} (h : ∀ R : DK, R (.int i) m → te δ m R) (q : Q (.bl false) m) : dIsi "bool" te δ m Q := h _ ⟨_, _, rfl, kit_ib, q⟩
theorem dIsi_boolb {te : DTr} {δ : Sl} {m : M} {Q : DK} {i : Bool} (h : ∀ R : DK, R (.bl i) m → te δ m R) (q : Q (.bl true) m) : dIsi "bool" te δ m Q := h _ ⟨_, _, rfl, kit_bb, q⟩
theorem dIsi_tup {te : DTr} {δ : Sl} {m : M} {Q : DK} {d : D} (h : ∀ R : DK, R d m → te δ m R) (hd : ty d) (q : Q (.bl (isiD "tuple" d)) m) : dIsi "tuple" te δ m Q := by
  refine h _ ?_
  cases d with
  | non => exact ⟨_, _, rfl, kit_nt, q⟩
  | bl b => exact ⟨_, _, rfl, kit_bt, q⟩
  | int b => exact ⟨_, _, rfl, kit_it, q⟩
  | str b => exact ⟨_, _, rfl, kit_st, q⟩
  | tup b => exact ⟨_, _, rfl, kit_tt, q⟩
  | ref a => exact hd.elim
  | ktup a => exact hd.elim
theorem dIsi_str {te : DTr} {δ : Sl} {m : M} {Q : DK} {d : D} (h : ∀ R : DK, R d m → te δ m R) (hd : ty d) (q : Q (.bl (isiD "str" d)) m) : dIsi "str" te δ m Q := by
  refine h _ ?_
  cases d with
  | non => exact ⟨_, _, rfl, kit_ns, q⟩
  | bl b => exact ⟨_, _, rfl, kit_bs, q⟩
  | int b => exact ⟨_, _, rfl, kit_is, q⟩
  | str b => exact ⟨_, _, rfl, kit_ss, q⟩
  | tup b => exact ⟨_, _, rfl, kit_ts, q⟩
  | ref a => exact hd.elim
  | ktup a => exact hd.elim
theorem dVar_at {i : Nat} {δ : Sl} {m : M} {d : D} {R : DK} (h : δ[i]? = some (some d)) (q : R d m) : dVar i δ m R := ⟨d, h, q⟩
/-! ### equality of ints, texts -/
theorem eqI {i j : Int} {m : M} {Q : DK} (q : Q (.bl (decide (i = j))) m) : rdEq false (.int i) (.int j) m Q := by
  show Q (.bl (if false = true then !(i == j) else i == j)) m
  rw [if_neg Bool.false_ne_true, Bool.beq_eq_decide_eq]; exact q
theorem neI {i j : Int} {m : M} {Q : DK} (q : Q (.bl (!decide (i = j))) m) : rdEq true (.int i) (.int j) m Q := by
  show Q (.bl (if true = true then !(i == j) else i == j)) m
  rw [if_pos rfl, Bool.beq_eq_decide_eq]; exact q
theorem eqT {i j : Str} {m : M} {Q : DK} (q : Q (.bl (decide (i = j))) m) : rdEq false (.str i) (.str j) m Q := by
  show Q (.bl (if false = true then !(i == j) else i == j)) m
  rw [if_neg Bool.false_ne_true, Bool.beq_eq_decide_eq]; exact q
theorem neT {i j : Str} {m : M} {Q : DK} (q : Q (.bl (!decide (i = j))) m) : rdEq true (.str i) (.str j) m Q := by
  show Q (.bl (if true = true then !(i == j) else i == j)) m
  rw [if_pos rfl, Bool.beq_eq_decide_eq]; exact q
theorem tup2 (d : D) : (∃ a b, d = .tup [a, b]) ∨ (mTupN d 2 = false ∧ ∀ a b, d ≠ .tup [a, b]) := by
  cases d with
  | tup xs =>
    match xs with
    | [] => exact .inr ⟨rfl, fun a b h => by cases h⟩
    | [a] => exact .inr ⟨rfl, fun a b h => by cases h⟩
    | [a, b] => exact .inl ⟨a, b, rfl⟩
    | a :: b :: c :: r => exact .inr ⟨by simp only [mTupN, List.length_cons]; exact decide_eq_false (by omega), fun a b h => by cases h⟩
  | _ => exact .inr ⟨rfl, fun a b h => by cases h⟩
theorem tup3 (d : D) : (∃ a b c, d = .tup [a, b, c]) ∨ (mTupN d 3 = false ∧ ∀ a b c, d ≠ .tup [a, b, c]) := by
  cases d with
  | tup xs =>
    match xs with
    | [] => exact .inr ⟨rfl, fun a b c h => by cases h⟩
    | [a] => exact .inr ⟨rfl, fun a b c h => by cases h⟩
    | [a, b] => exact .inr ⟨rfl, fun a b c h => by cases h⟩
    | [a, b, c] => exact .inl ⟨a, b, c, rfl⟩
    | a :: b :: c :: e :: r => exact .inr ⟨by simp only [mTupN, List.length_cons]; exact decide_eq_false (by omega), fun a b c h => by cases h⟩
  | _ => exact .inr ⟨rfl, fun a b c h => by cases h⟩
theorem tup4 (d : D) : (∃ a b c e, d = .tup [a, b, c, e]) ∨ (mTupN d 4 = false ∧ ∀ a b c e, d ≠ .tup [a, b, c, e]) := by
  cases d with
  | tup xs =>
    match xs with
    | [] => exact .inr ⟨rfl, fun a b c e h => by cases h⟩
    | [a] => exact .inr ⟨rfl, fun a b c e h => by cases h⟩
    | [a, b] => exact .inr ⟨rfl, fun a b c e h => by cases h⟩
    | [a, b, c] => exact .inr ⟨rfl, fun a b c e h => by cases h⟩
    | [a, b, c, e] => exact .inl ⟨a, b, c, e, rfl⟩
    | a :: b :: c :: e :: f :: r => exact .inr ⟨by simp only [mTupN, List.length_cons]; exact decide_eq_false (by omega), fun a b c e h => by cases h⟩
  | _ => exact .inr ⟨rfl, fun a b c e h => by cases h⟩
theorem mEnd_no {d : D} (h : ∀ a b, d ≠ .tup [a, b]) : mEnd d = false := by unfold mEnd; split; exact (h _ _ rfl).elim; rfl
theorem mStretch_no {d : D} (h : ∀ a b, d ≠ .tup [a, b]) : mStretch d = false := by unfold mStretch; split; exact (h _ _ rfl).elim; rfl
theorem mJoint_no {d : D} (h : ∀ a b, d ≠ .tup [a, b]) : mJoint d = false := by unfold mJoint; split; exact (h _ _ rfl).elim; rfl
theorem mGate_no {d : D} (h : ∀ a b, d ≠ .tup [a, b]) : mGate d = false := by unfold mGate; split; exact (h _ _ rfl).elim; rfl
theorem mStep_no {d : D} (h : ∀ a b c, d ≠ .tup [a, b, c]) : mStep d = false := by unfold mStep; split; exact (h _ _ _ rfl).elim; rfl
theorem mSignal_no {d : D} (h : ∀ a b c, d ≠ .tup [a, b, c]) : mSignal d = false := by unfold mSignal; split; exact (h _ _ _ rfl).elim; rfl
theorem mPlan_no {d : D} (h : ∀ a b c e, d ≠ .tup [a, b, c, e]) : mPlan d = false := by unfold mPlan; split; exact (h _ _ _ _ rfl).elim; rfl
/-- a sign among the letters and digits -/
def mSign : D → Bool
  | .str z => z.cps.toList.all fun c => decide (c ∈ lettersDS.cps.toList)
  | _ => false
theorem all_signs' (s : Str) : ((s.cps.toList.map fun c => D.str ⟨#[c]⟩).all mSign) = s.cps.toList.all fun c => decide (c ∈ lettersDS.cps.toList) := by
  rw [List.all_map]
  congr 1
  funext c
  simp [mSign]
theorem eqFl_str (a b : Str) : eqFl (.str a) (.str b) = (a == b) := rfl
theorem kinds_any {d : D} (h : flatD d = true) : ([D.str "plain", D.str "points", D.str "crossing"].any fun x => eqFl x d) = mKind d := by
  cases d with
  | str s =>
    simp only [List.any_cons, List.any_nil, Bool.or_false, eqFl_str, mKind, kindS]
    have e : ∀ a b : Str, (a == b) = (b == a) := fun a b => BEq.comm
    rw [e "plain", e "points", e "crossing", Bool.or_assoc]
  | tup _ => simp [flatD] at h
  | ktup _ => simp [flatD] at h
  | ref _ => simp [flatD] at h
  | _ => rfl
theorem ifT {c : Bool} {A B : Prop} (h : c = true) (a : A) : if c = true then A else B := by rw [if_pos h]; exact a
theorem ifF {c : Bool} {A B : Prop} (h : c = false) (b : B) : if c = true then A else B := by rw [h, if_neg Bool.false_ne_true]; exact b
theorem len1 {s : Str} {c : Nat} {r : List Nat} (h : s.cps.toList = c :: r) : atI s.cps.toList 0 = some c := by rw [h]; simp [atI, ixN]
theorem nameS_len {s : Str} (h : nameS s = true) : 1 ≤ s.length ∧ s.length ≤ 8 := by
  unfold nameS at h
  simp only [Bool.and_eq_true, decide_eq_true_eq] at h
  exact ⟨h.1.1.1, h.1.1.2⟩
theorem sl8 {n : Nat} (h : n ≤ 8) : n ≤ sizeLine := Nat.le_trans h (by decide)
end PL

namespace PL
open PySem PySem.Spec PyProof.Rows L2 GA GxR DL
/-! ### texts -/
theorem str_ext {a b : Str} (h : a.cps.toList = b.cps.toList) : a = b := by
  cases a; cases b
  simp only at h
  congr
  exact Array.ext' h
theorem app_list (a b : Str) : (a ++ b).cps.toList = a.cps.toList ++ b.cps.toList := by
  show (a.cps ++ b.cps).toList = _
  simp
theorem app_assoc (a b c : Str) : (a ++ b) ++ c = a ++ (b ++ c) := str_ext (by simp [app_list, List.append_assoc])
theorem emp_app (a : Str) : Str.empty ++ a = a := str_ext (by rw [app_list]; rfl)
theorem len_list (a : Str) : a.length = a.cps.toList.length := by
  show a.cps.size = _
  simp
theorem len_app (a b : Str) : (a ++ b).length = a.length + b.length := by
  rw [len_list, len_list, len_list, app_list, List.length_append]
/-! ### plans -/
abbrev End := Str × Int
abbrev Step := Str × Int × Int
structure Pln where
  st : List (Str × Str)
  jo : List (End × End)
  ga : List (Str × End)
  si : List (Str × End × Option Step)
def endD (e : End) : D := .tup [.str e.1, .int e.2]
def stepD (s : Step) : D := .tup [.str s.1, .int s.2.1, .int s.2.2]
def strD (s : Str × Str) : D := .tup [.str s.1, .str s.2]
def joD (j : End × End) : D := .tup [endD j.1, endD j.2]
def gaD (g : Str × End) : D := .tup [.str g.1, endD g.2]
def ovD (o : Option Step) : D := match o with
  | none => .tup [] | some s => .tup [stepD s]
def siD (s : Str × End × Option Step) : D := .tup [.str s.1, endD s.2.1, ovD s.2.2]
def Pln.d (p : Pln) : D := .tup [.tup (p.st.map strD), .tup (p.jo.map joD), .tup (p.ga.map gaD), .tup (p.si.map siD)]
def numOk (i : Int) : Prop := 0 ≤ i ∧ i ≤ 3
def endOk (e : End) : Prop := nameS e.1 = true ∧ numOk e.2
def stepOk (s : Step) : Prop := nameS s.1 = true ∧ numOk s.2.1 ∧ numOk s.2.2
def strOk' (s : Str × Str) : Prop := nameS s.1 = true ∧ kindS s.2 = true
def joOk (j : End × End) : Prop := endOk j.1 ∧ endOk j.2
def gaOk (g : Str × End) : Prop := nameS g.1 = true ∧ endOk g.2
def siOk (s : Str × End × Option Step) : Prop := nameS s.1 = true ∧ endOk s.2.1 ∧ ∀ t, s.2.2 = some t → stepOk t
/-- a plan, of a size within the limits of what is passed -/
structure Pln.Ok (p : Pln) : Prop where
  st : ∀ s ∈ p.st, strOk' s
  jo : ∀ s ∈ p.jo, joOk s
  ga : ∀ s ∈ p.ga, gaOk s
  si : ∀ s ∈ p.si, siOk s
  n1 : p.st.length ≤ 12
  n2 : p.jo.length ≤ 16
  n3 : p.ga.length ≤ 4
  n4 : p.si.length ≤ 10
theorem mNum_ok {i : Int} (h : numOk i) : mNum (.int i) = true := by
  show (decide (0 ≤ i) && decide (i ≤ 3)) = true
  rw [decide_eq_true h.1, decide_eq_true h.2]; rfl
theorem mEnd_ok {e : End} (h : endOk e) : mEnd (endD e) = true := by
  show (nameS e.1 && mNum (.int e.2)) = true
  rw [h.1, mNum_ok h.2]; rfl
theorem mStep_ok {e : Step} (h : stepOk e) : mStep (stepD e) = true := by
  show ((nameS e.1 && mNum (.int e.2.1)) && mNum (.int e.2.2)) = true
  rw [h.1, mNum_ok h.2.1, mNum_ok h.2.2]; rfl
theorem mStretch_ok {e : Str × Str} (h : strOk' e) : mStretch (strD e) = true := by
  show (nameS e.1 && kindS e.2) = true
  rw [h.1, h.2]; rfl
theorem mJoint_ok {e : End × End} (h : joOk e) : mJoint (joD e) = true := by
  show (mEnd (endD e.1) && mEnd (endD e.2)) = true
  rw [mEnd_ok h.1, mEnd_ok h.2]; rfl
theorem mGate_ok {e : Str × End} (h : gaOk e) : mGate (gaD e) = true := by
  show (nameS e.1 && mEnd (endD e.2)) = true
  rw [h.1, mEnd_ok h.2]; rfl
theorem mSignal_ok {e : Str × End × Option Step} (h : siOk e) : mSignal (siD e) = true := by
  show ((nameS e.1 && mEnd (endD e.2.1)) && mOverlap (ovD e.2.2)) = true
  rw [h.1, mEnd_ok h.2.1]
  cases ho : e.2.2 with
  | none => rfl
  | some t => show (true && true && (([stepD t].all mStep) && true)) = true; simp [mStep_ok (h.2.2 t ho)]
theorem mAll_ok {α : Type} {f : α → D} {g : D → Bool} {l : List α} {ok : α → Prop} (h : ∀ x ∈ l, ok x) (hg : ∀ x, ok x → g (f x) = true) : mAll g (.tup (l.map f)) = true := by
  show (l.map f).all g = true
  rw [List.all_map, List.all_eq_true]
  exact fun x hx => hg x (h x hx)
theorem mPlan_ok {p : Pln} (h : p.Ok) : mPlan p.d = true := by
  show (mAll mStretch (.tup (p.st.map strD)) && mAll mJoint (.tup (p.jo.map joD)) && (mAll mGate (.tup (p.ga.map gaD)) && mAll mSignal (.tup (p.si.map siD)))) = true
  rw [mAll_ok h.st fun _ => mStretch_ok, mAll_ok h.jo fun _ => mJoint_ok, mAll_ok h.ga fun _ => mGate_ok, mAll_ok h.si fun _ => mSignal_ok]; rfl
theorem name_ty {s : Str} (h : nameS s = true) : s.length ≤ sizeLine := sl8 (nameS_len h).2
theorem kind_len {s : Str} (h : kindS s = true) : s.length ≤ 8 := by
  unfold kindS at h
  simp only [Bool.or_eq_true, beq_iff_eq] at h
  rcases h with (rfl | rfl) | rfl <;> decide
theorem tys_map {α : Type} {f : α → D} : ∀ {l : List α}, (∀ x ∈ l, ty (f x)) → tys (l.map f)
  | [], _ => trivial
  | a :: l, h => ⟨h a List.mem_cons_self, tys_map fun x hx => h x (List.mem_cons_of_mem _ hx)⟩
theorem end_ty {e : End} (h : endOk e) : ty (endD e) := ⟨name_ty h.1, trivial, trivial⟩
theorem step_ty {e : Step} (h : stepOk e) : ty (stepD e) := ⟨name_ty h.1, trivial, trivial, trivial⟩
theorem ov_ty {o : Option Step} (h : ∀ t, o = some t → stepOk t) : ty (ovD o) := by
  cases o with
  | none => exact trivial
  | some t => exact ⟨step_ty (h t rfl), trivial⟩
theorem plan_ty {p : Pln} (h : p.Ok) : tyP p.d := by
  refine ⟨⟨tys_map fun x hx => ⟨name_ty (h.st x hx).1, sl8 (kind_len (h.st x hx).2), trivial⟩, tys_map fun x hx => ⟨end_ty (h.jo x hx).1, end_ty (h.jo x hx).2, trivial⟩,
    tys_map fun x hx => ⟨name_ty (h.ga x hx).1, end_ty (h.ga x hx).2, trivial⟩, tys_map fun x hx => ⟨name_ty (h.si x hx).1, end_ty (h.si x hx).2.1, ov_ty (h.si x hx).2.2, trivial⟩, trivial⟩, ?_⟩
  intro a b c e he xs hx x hm u v hxu
  unfold Pln.d at he
  cases he; cases hx
  obtain ⟨s, _, rfl⟩ := List.mem_map.mp hm
  cases hxu; rfl
/-! ### the lines of a plan -/
def numT (i : Int) : Str := Str.ofString (toString i)
def endT (e : End) : Str := e.1 ++ " " ++ numT e.2
def stT (s : Str × Str) : Str := ("stretch " : Str) ++ s.1 ++ " " ++ s.2
def joT (j : End × End) : Str := ("join " : Str) ++ endT j.1 ++ " " ++ endT j.2
def gaT (g : Str × End) : Str := ("gate " : Str) ++ g.1 ++ " " ++ endT g.2
def ovT (t : Step) : Str := (" over " : Str) ++ t.1 ++ " " ++ numT t.2.1 ++ " " ++ numT t.2.2
def siT (s : Str × End × Option Step) : Str := match s.2.2 with
  | none => ("signal " : Str) ++ s.1 ++ " " ++ endT s.2.1
  | some t => (("signal " : Str) ++ s.1 ++ " " ++ endT s.2.1) ++ ovT t
def Pln.lines (p : Pln) : List Str := p.st.map stT ++ p.jo.map joT ++ p.ga.map gaT ++ p.si.map siT
theorem num_cases {i : Int} (h : numOk i) : i = 0 ∨ i = 1 ∨ i = 2 ∨ i = 3 := by unfold numOk at h; omega
theorem numT_len {i : Int} (h : numOk i) : (numT i).length = 1 := by rcases num_cases h with rfl | rfl | rfl | rfl <;> decide +kernel
theorem num_log {i : Int} (h : numOk i) : i.natAbs.log2 < 1920 := by rcases num_cases h with rfl | rfl | rfl | rfl <;> decide
theorem endT_len {e : End} (h : endOk e) : (endT e).length ≤ 10 := by
  have h1 := (nameS_len h.1).2
  unfold endT
  rw [len_app, len_app, numT_len h.2]
  have : (" " : Str).length = 1 := by decide +kernel
  omega
theorem slk {n : Nat} (h : n ≤ 1000) : n ≤ sizeLine := Nat.le_trans h (by decide)
end PL

namespace PL
open PySem PySem.Spec PyProof.Rows L2 GA GxR DL
/-! ### stores that grow -/
structure Ext (m m' : M) : Prop where
  gh : m'.gh = m.gh
  old : ∀ a o, m.mu a = some o → m'.mu a = some o
theorem Ext.refl (m : M) : Ext m m := ⟨rfl, fun _ _ h => h⟩
theorem Ext.trans {a b c : M} (h : Ext a b) (i : Ext b c) : Ext a c := ⟨i.gh.trans h.gh, fun x o z => i.old x o (h.old x o z)⟩
theorem Ext.set {m m' : M} {p : Addr} {o : DO} (h : Ext m m') (hp : m.mu p = none) : Ext m (m'.set p o) := ⟨h.gh, fun a x z => by
  have ne : a ≠ p := fun e => by subst e; rw [hp] at z; cases z
  rw [M.set_ne ne]; exact h.old a x z⟩
theorem Ext.new {m : M} {p : Addr} {o : DO} (hp : m.mu p = none) : Ext m (m.set p o) := (Ext.refl m).set hp
/-- a list comprehension by its turns: each gives a thing, or none -/
inductive Outs (Rel : D → Option D → Prop) : List D → List D → Prop
  | nil : Outs Rel [] []
  | keep {d y : D} {ds ys : List D} (h : Rel d (some y)) (t : Outs Rel ds ys) : Outs Rel (d :: ds) (y :: ys)
  | skip {d : D} {ds ys : List D} (h : Rel d none) (t : Outs Rel ds ys) : Outs Rel (d :: ds) ys
theorem Outs.len {Rel : D → Option D → Prop} {xs ys : List D} (h : Outs Rel xs ys) : ys.length ≤ xs.length := by
  induction h with
  | nil => exact Nat.le_refl _
  | keep _ _ ih => simp; exact ih
  | skip _ _ ih => simp; omega
theorem Outs.snoc {Rel : D → Option D → Prop} {xs ys : List D} {d : D} (h : Outs Rel xs ys) : (∀ y, Rel d (some y) → Outs Rel (xs ++ [d]) (ys ++ [y])) ∧ (Rel d none → Outs Rel (xs ++ [d]) ys) := by
  induction h with
  | nil => exact ⟨fun y r => .keep r .nil, fun r => .skip r .nil⟩
  | keep h t ih => exact ⟨fun y r => .keep h (ih.1 y r), fun r => .keep h (ih.2 r)⟩
  | skip h t ih => exact ⟨fun y r => .skip h (ih.1 y r), fun r => .skip h (ih.2 r)⟩
theorem Outs.map {xs ys : List D} {f : D → D} (h : Outs (fun d o => o = some (f d)) xs ys) : ys = xs.map f := by
  induction h with
  | nil => rfl
  | keep h t ih => cases h; rw [ih]; rfl
  | skip h t ih => cases h
theorem Outs.filter {xs ys : List D} {f : D → D} {p : D → Bool} (h : Outs (fun d o => o = if p d = true then some (f d) else none) xs ys) : ys = (xs.filter p).map f := by
  induction h with
  | nil => rfl
  | keep h t ih =>
    rename_i d y ds ys
    cases e : p d with
    | true => rw [e, if_pos rfl] at h; cases h; rw [List.filter_cons_of_pos e, ih]; rfl
    | false => rw [e, if_neg Bool.false_ne_true] at h; cases h
  | skip h t ih =>
    rename_i d ds ys
    cases e : p d with
    | true => rw [e, if_pos rfl] at h; cases h
    | false => rw [List.filter_cons_of_neg (by simp [e]), ih]
theorem Outs.all {Rel : D → Option D → Prop} {P : D → Prop} {xs ys : List D} (h : Outs Rel xs ys) (hp : ∀ d ∈ xs, ∀ y, Rel d (some y) → P y) : ∀ y ∈ ys, P y := by
  induction h with
  | nil => intro y hy; cases hy
  | keep h t ih =>
    intro y hy
    rcases List.mem_cons.mp hy with rfl | hy
    · exact hp _ List.mem_cons_self _ h
    · exact ih (fun d hd => hp d (List.mem_cons_of_mem _ hd)) y hy
  | skip h t ih => exact ih fun d hd => hp d (List.mem_cons_of_mem _ hd)
theorem take_snoc {α : Type} {xs : List α} {i : Nat} {d : α} (h : xs[i]? = some d) : xs.take (i + 1) = xs.take i ++ [d] := by rw [List.take_succ, h]; rfl
abbrev WkS (m : M) (xs : List D) (ws : DTI) (δ : Sl) : Prop := ∀ R : List D → (M → Prop) → M → Prop, (∀ (ok : M → Prop) m1, Ext m m1 → (∀ m', Ext m1 m' → ok m') → R xs ok m1) → ws δ m R
theorem dLC_gen {ws : DTI} {g : Tg} {tt : DTT} {te : DTr} {ow : List Nat} {δ : Sl} {m : M} {Q : DK} {xs : List D} {Rel : D → Option D → Prop} {I : M → Prop} (hI : I m) (hIe : ∀ a b, I a → Ext a b → I b)
    (hw : WkS m xs ws δ) (hz : xs.length ≤ sizeLine)
    (he : ∀ d ∈ xs, ∀ m', Ext m m' → I m' → ∀ (Ry : D → M → Prop) (Rn : M → Prop), (∀ y m4, Rel d (some y) → Ext m' m4 → Ry y m4) → (∀ m4, Rel d none → Ext m' m4 → Rn m4) → gD g d (wipeD δ ow) fun δ2 => tt δ2 m' fun b m3 => if b = true then te δ2 m3 Ry else Rn m3)
    (hq : ∀ p m' ys, m.mu p = none → Ext m m' → I m' → m'.mu p = some (.lst ys) → Outs Rel xs ys → Q (.ref p) m') : dLC ws g tt te ow δ m Q := by
  refine hw _ fun ok m1 hE hok p hp1 => ?_
  have hp : m.mu p = none := by
    cases e : m.mu p with
    | none => rfl
    | some o => rw [hE.old _ _ e] at hp1; cases hp1
  have hI1 := hIe _ _ hI hE
  refine ⟨fun i m' => Ext m1 m' ∧ I m' ∧ ∃ ys, m'.mu p = some (.lst ys) ∧ Outs Rel (xs.take i) ys, ⟨Ext.new hp1, hIe _ _ hI1 (Ext.new hp1), [], M.set_same, .nil⟩, fun i m' h => hok m' h.1, ?_, ?_⟩
  · rintro i d m' hd ⟨h1, hi, ys, h2, h3⟩
    have hl : ys.length < sizeLine := by
      have h4 := h3.len
      have h5 : i < xs.length := by
        by_cases h : i < xs.length
        · exact h
        · rw [List.getElem?_eq_none (by omega)] at hd; cases hd
      rw [List.length_take] at h4; omega
    refine he d (List.mem_of_getElem? hd) m' (hE.trans h1) hi _ _ (fun y m4 hr h4 => ⟨ys, h4.old _ _ h2, hl, (h1.trans h4).set hp1, ?_, ys ++ [y], M.set_same, ?_⟩) fun m4 hr h4 => ⟨h1.trans h4, hIe _ _ hi h4, ys, h4.old _ _ h2, ?_⟩
    · exact hIe m1 _ hI1 ((h1.trans h4).set hp1)
    · rw [take_snoc hd]; exact h3.snoc.1 y hr
    · rw [take_snoc hd]; exact h3.snoc.2 hr
  · rintro m' ⟨h1, hi, ys, h2, h3⟩
    rw [List.take_length] at h3
    exact hq p m' ys hp (hE.trans h1) hi h2 h3
theorem iT_w {te : DTr} {δ : Sl} {m : M} {xs : List D} (h : ∀ R : DK, (R (.tup xs) m) → te δ m R) : WkS m xs (iT te) δ := fun R hR => h _ ⟨xs, .inl rfl, hR _ m (Ext.refl m) fun _ _ => trivial⟩
theorem iL_w {te : DTr} {δ : Sl} {m : M} {xs : List D} {a : Addr} (h : ∀ R : DK, (R (.ref a) m) → te δ m R) (ha : m.mu a = some (.lst xs)) : WkS m xs (iL te) δ := fun R hR => h _ ⟨a, xs, rfl, ha, hR _ m (Ext.refl m) fun m' h => h.old _ _ ha⟩
/-- .. a list that is made for the walk -/
theorem iL_new {te : DTr} {δ : Sl} {m : M} {xs : List D} (h : ∀ R : DK, (∀ a m1, Ext m m1 → m1.mu a = some (.lst xs) → R (.ref a) m1) → te δ m R) : WkS m xs (iL te) δ := fun R hR => h _ fun a m1 hE ha => ⟨a, xs, rfl, ha, hR _ m1 hE fun m' h => h.old _ _ ha⟩
theorem iR_w {te : DTr} {δ : Sl} {m : M} {j : Int} (h : ∀ R : DK, (R (.int j) m) → te δ m R) (h1 : -(2 ^ 62) ≤ j) (h2 : j < 2 ^ 62) : WkS m (rangeD j.toNat) (iR1 te) δ := fun R hR => h _ ⟨j, rfl, h1, h2, hR _ m (Ext.refl m) fun _ _ => trivial⟩
theorem yesT {δ : Sl} {m : M} {A : M → Prop} {B : M → Prop} (h : A m) : dYes δ m (fun b m3 => if b = true then A m3 else B m3) := by show if true = true then A m else B m; rw [if_pos rfl]; exact h
theorem slen {s : Str} {n : Nat} (h : s.length ≤ n) (hn : n ≤ 1000 := by decide) : s.length ≤ sizeLine := slk (Nat.le_trans h hn)
/-! ### f-strings -/
theorem js_nil {acc : Str} {δ : Sl} {m : M} {Q : Str → M → Prop} (h : Q acc m) : dJs [] acc δ m Q := h
theorem js_c {ts : List DTr} {acc y : Str} {δ : Sl} {m : M} {Q : Str → M → Prop} (hl : (acc ++ y).length ≤ 1000) (h : dJs ts (acc ++ y) δ m Q) : dJs (dC (.str y) :: ts) acc δ m Q := ⟨y, rfl, slk hl, h⟩
theorem js_s {ts : List DTr} {acc y : Str} {te : DTr} {δ : Sl} {m : M} {Q : Str → M → Prop} (ht : ∀ R : DK, R (.str y) m → te δ m R) (hl : (acc ++ y).length ≤ 1000) (h : dJs ts (acc ++ y) δ m Q) : dJs (dFmt te :: ts) acc δ m Q :=
  ht _ ⟨slk (by rw [len_app] at hl; omega), y, rfl, slk hl, h⟩
theorem js_i {ts : List DTr} {acc : Str} {i : Int} {te : DTr} {δ : Sl} {m : M} {Q : Str → M → Prop} (ht : ∀ R : DK, R (.int i) m → te δ m R) (ho : i.natAbs.log2 < 1920) (hl : (acc ++ numT i).length ≤ 1000) (h : dJs ts (acc ++ numT i) δ m Q) : dJs (dFmt te :: ts) acc δ m Q :=
  ht _ ⟨ho, numT i, rfl, slk hl, h⟩
theorem l_emp : Str.empty.length = 0 := rfl
theorem l_sp : (" " : Str).length = 1 := by decide +kernel
theorem l_stretch : ("stretch " : Str).length = 8 := by decide +kernel
theorem l_join : ("join " : Str).length = 5 := by decide +kernel
theorem l_gate : ("gate " : Str).length = 5 := by decide +kernel
theorem l_signal : ("signal " : Str).length = 7 := by decide +kernel
theorem l_over : (" over " : Str).length = 6 := by decide +kernel
theorem Outs.mapOf {α : Type} {f h : α → D} {P : α → Prop} (inj : ∀ a b, f a = f b → h a = h b) : ∀ {l : List α} {ys : List D}, Outs (fun d o => ∃ a, d = f a ∧ P a ∧ o = some (h a)) (l.map f) ys → ys = l.map h
  | [], _, o => by cases o; rfl
  | a :: l, _, o => by
    cases o with
    | keep r t =>
      obtain ⟨b, e, _, e2⟩ := r
      cases e2
      rw [Outs.mapOf inj t, ← inj a b e]; rfl
    | skip r t => obtain ⟨b, _, _, e2⟩ := r; cases e2
theorem endD_inj {a b : End} (h : endD a = endD b) : a = b := by
  obtain ⟨a1, a2⟩ := a; obtain ⟨b1, b2⟩ := b
  unfold endD at h; cases h; rfl
theorem strD_inj {a b : Str × Str} (h : strD a = strD b) : a = b := by
  obtain ⟨a1, a2⟩ := a; obtain ⟨b1, b2⟩ := b
  unfold strD at h; cases h; rfl
theorem joD_inj {a b : End × End} (h : joD a = joD b) : a = b := by
  obtain ⟨a1, a2⟩ := a; obtain ⟨b1, b2⟩ := b
  have h1 : endD a1 = endD b1 := by unfold joD at h; injection h with h; injection h
  have h2 : endD a2 = endD b2 := by unfold joD at h; injection h with h; injection h with _ h; injection h
  rw [endD_inj h1, endD_inj h2]
theorem gaD_inj {a b : Str × End} (h : gaD a = gaD b) : a = b := by
  obtain ⟨a1, a2⟩ := a; obtain ⟨b1, b2⟩ := b
  have h1 : D.str a1 = D.str b1 := by unfold gaD at h; injection h with h; injection h
  have h2 : endD a2 = endD b2 := by unfold gaD at h; injection h with h; injection h with _ h; injection h
  cases h1; rw [endD_inj h2]
theorem ovD_inj {a b : Option Step} (h : ovD a = ovD b) : a = b := by
  cases a <;> cases b
  · rfl
  · unfold ovD at h; simp at h
  · unfold ovD at h; simp at h
  · rename_i a b
    obtain ⟨a1, a2, a3⟩ := a; obtain ⟨b1, b2, b3⟩ := b
    unfold ovD stepD at h; simp at h
    obtain ⟨rfl, rfl, rfl⟩ := h; rfl
theorem siD_inj {a b : Str × End × Option Step} (h : siD a = siD b) : a = b := by
  obtain ⟨a1, a2, a3⟩ := a; obtain ⟨b1, b2, b3⟩ := b
  have h1 : D.str a1 = D.str b1 := by unfold siD at h; injection h with h; injection h
  have h2 : endD a2 = endD b2 := by unfold siD at h; injection h with h; injection h with _ h; injection h
  have h3 : ovD a3 = ovD b3 := by unfold siD at h; injection h with h; injection h with _ h; injection h with _ h; injection h
  cases h1; rw [endD_inj h2, ovD_inj h3]
theorem stT_len {s : Str × Str} (h : strOk' s) : (stT s).length ≤ 100 := by
  have h1 := (nameS_len h.1).2; have h2 := kind_len h.2
  unfold stT; simp only [len_app, l_stretch, l_sp]; omega
theorem joT_len {s : End × End} (h : joOk s) : (joT s).length ≤ 100 := by
  have h1 := endT_len h.1; have h2 := endT_len h.2
  unfold joT; simp only [len_app, l_join, l_sp]; omega
theorem gaT_len {s : Str × End} (h : gaOk s) : (gaT s).length ≤ 100 := by
  have h1 := (nameS_len h.1).2; have h2 := endT_len h.2
  unfold gaT; simp only [len_app, l_gate, l_sp]; omega
theorem ovT_len {t : Step} (h : stepOk t) : (ovT t).length ≤ 30 := by
  have h1 := (nameS_len h.1).2; have h2 := numT_len h.2.1; have h3 := numT_len h.2.2
  unfold ovT; simp only [len_app, l_over, l_sp]; omega
theorem siT_len {s : Str × End × Option Step} (h : siOk s) : (siT s).length ≤ 100 := by
  obtain ⟨nm, en, ov⟩ := s
  have h1 := (nameS_len h.1).2; have h2 := endT_len h.2.1
  dsimp only at h1 h2
  cases ov with
  | none => show (("signal " : Str) ++ nm ++ " " ++ endT en).length ≤ 100; simp only [len_app, l_signal, l_sp]; omega
  | some t =>
    have h3 := ovT_len (h.2.2 t rfl)
    show ((("signal " : Str) ++ nm ++ " " ++ endT en) ++ ovT t).length ≤ 100; simp only [len_app, l_signal, l_sp]; omega
theorem sum_le {l : List Nat} {n : Nat} (h : ∀ x ∈ l, x ≤ n) : l.sum ≤ l.length * n := by
  induction l with
  | nil => simp
  | cons a l ih =>
    have h1 := h a List.mem_cons_self
    have h2 := ih fun x hx => h x (List.mem_cons_of_mem _ hx)
    rw [List.sum_cons, List.length_cons, Nat.succ_mul]; omega
theorem Pln.Ok.line {p : Pln} (h : p.Ok) : ∀ x ∈ p.lines, x.length ≤ 100 := by
  intro x hx
  unfold Pln.lines at hx
  simp only [List.mem_append, List.mem_map] at hx
  rcases hx with ((⟨a, ha, rfl⟩ | ⟨a, ha, rfl⟩) | ⟨a, ha, rfl⟩) | ⟨a, ha, rfl⟩
  · exact stT_len (h.st a ha)
  · exact joT_len (h.jo a ha)
  · exact gaT_len (h.ga a ha)
  · exact siT_len (h.si a ha)
theorem Pln.Ok.many {p : Pln} (h : p.Ok) : p.lines.length ≤ 42 := by
  unfold Pln.lines
  simp only [List.length_append, List.length_map]
  have := h.n1; have := h.n2; have := h.n3; have := h.n4
  omega
theorem Pln.Ok.size {p : Pln} (h : p.Ok) : (p.lines.map (·.length)).sum + p.lines.length * ("\n" : Str).length ≤ 16777216 := by
  have h1 : (p.lines.map (·.length)).sum ≤ (p.lines.map (·.length)).length * 100 := sum_le fun x hx => by
    obtain ⟨y, hy, rfl⟩ := List.mem_map.mp hx
    exact h.line y hy
  have h2 := h.many
  have h3 : ("\n" : Str).length = 1 := by decide +kernel
  rw [List.length_map] at h1
  rw [h3]; omega
end PL

namespace PL
open PySem PySem.Spec PyProof.Rows L2 GA GxR DL
/-! ### the deck -/
abbrev deckD (aC : Addr) (x k : Int) : List (Key × D) := [(.inr "cells", .ref aC), (.inr "mixed", .int x), (.inr "draws", .int k)]
theorem dk_cells {a b c : D} : valD ([(.inr "cells", a), (.inr "mixed", b), (.inr "draws", c)] : List (Key × D)) (.inr "cells") = some a := by with_unfolding_all rfl
theorem dk_mixed {a b c : D} : valD ([(.inr "cells", a), (.inr "mixed", b), (.inr "draws", c)] : List (Key × D)) (.inr "mixed") = some b := by with_unfolding_all rfl
theorem dk_draws {a b c : D} : valD ([(.inr "cells", a), (.inr "mixed", b), (.inr "draws", c)] : List (Key × D)) (.inr "draws") = some c := by with_unfolding_all rfl
theorem dk_put {a b c d : D} : putD ([(.inr "cells", a), (.inr "mixed", b), (.inr "draws", c)] : List (Key × D)) (.inr "draws") d = [(.inr "cells", a), (.inr "mixed", b), (.inr "draws", d)] := by with_unfolding_all rfl
structure DeckAt (m : M) (aD aC : Addr) : Prop where
  ex : ∃ (x k : Int) (ns : List Int), m.mu aD = some (.dic (deckD aC x k)) ∧ m.mu aC = some (.lst (ns.map D.int)) ∧ 0 ≤ x ∧ x < 2147483587 ∧ 0 ≤ k ∧ ns.length ≤ 63
structure DeckH (H : Hp) (aD aC : Addr) : Prop where
  ex : ∃ (x k : Int) (ns : List Int), H aD = some (.dK [(.inr "cells", .ref aC), (.inr "mixed", .int x), (.inr "draws", .int k)]) ∧ H aC = some (.lst (ns.map V.int)) ∧ 0 ≤ x ∧ x < 2147483587 ∧ 0 ≤ k ∧ ns.length ≤ 63
theorem ints_rep {K : PySem.W.Frag} {H : Hp} : ∀ {ns : List Int} {vs : List V}, Reps K H (ns.map D.int) vs → vs = ns.map V.int
  | [], _, r => by cases r; rfl
  | n :: ns, _, r => by
    cases r with
    | cons r1 r2 => cases r1; rw [ints_rep r2]; rfl
theorem rep_ints {K : PySem.W.Frag} {H : Hp} : ∀ (ns : List Int), Reps K H (ns.map D.int) (ns.map V.int)
  | [] => .nil
  | n :: ns => .cons (.int n) (rep_ints ns)
theorem DeckAt.h {K : PySem.W.Frag} {H : Hp} {m : M} {aD aC : Addr} (d : DeckAt m aD aC) (r : RelH K H m) : DeckH H aD aC := by
  obtain ⟨x, k, ns, h1, h2, h⟩ := d.ex
  obtain ⟨ys, e1, kv⟩ := r.obj _ _ h1
  obtain ⟨vs, e2, rr⟩ := r.obj _ _ h2
  have := ints_rep rr
  subst this
  refine ⟨x, k, ns, ?_, e2, h⟩
  rw [e1]
  cases kv with
  | cons p1 kv =>
    cases kv with
    | cons p2 kv =>
      cases kv with
      | cons p3 kv =>
        cases kv
        rename_i b1 b2 b3
        obtain ⟨k1, v1⟩ := b1; obtain ⟨k2, v2⟩ := b2; obtain ⟨k3, v3⟩ := b3
        obtain ⟨q1, r1⟩ := p1; obtain ⟨q2, r2⟩ := p2; obtain ⟨q3, r3⟩ := p3
        dsimp only at q1 r1 q2 r2 q3 r3
        subst q1 q2 q3
        cases r1; cases r2; cases r3; rfl
def deckGh (G : Gh) (aD aC : Addr) : Gh where
  inv := fun H => G.inv H ∧ DeckH H aD aC
  own := fun a => G.own a ∨ a = aD ∨ a = aC
  stable := fun H H' ⟨i, d⟩ e => ⟨G.stable H H' i fun a ha => e a (.inl ha), by
    obtain ⟨x, k, ns, h1, h2, h⟩ := d.ex
    exact ⟨x, k, ns, (e aD (.inr (.inl rfl))).trans h1, (e aC (.inr (.inr rfl))).trans h2, h⟩⟩
  there := fun H ⟨i, d⟩ a ha => by
    obtain ⟨x, k, ns, h1, h2, h⟩ := d.ex
    rcases ha with ha | rfl | rfl
    · exact G.there H i a ha
    · rw [h1]; exact fun z => by cases z
    · rw [h2]; exact fun z => by cases z
def hide (m : M) (aD aC : Addr) : M := ⟨fun a => if a = aD ∨ a = aC then none else m.mu a, deckGh m.gh aD aC⟩
theorem hide_mu {m : M} {aD aC a : Addr} (h1 : a ≠ aD) (h2 : a ≠ aC) : (hide m aD aC).mu a = m.mu a := by
  show (if a = aD ∨ a = aC then none else m.mu a) = _
  rw [if_neg fun z => z.elim h1 h2]
theorem RelH.hide {K : PySem.W.Frag} {H : Hp} {m : M} {aD aC : Addr} (r : RelH K H m) (d : DeckAt m aD aC) : RelH K H (PL.hide m aD aC) where
  inv := ⟨r.inv, d.h r⟩
  sep := fun a ha => by
    show (if a = aD ∨ a = aC then none else m.mu a) = none
    by_cases h : a = aD ∨ a = aC
    · rw [if_pos h]
    · rw [if_neg h]
      rcases ha with ha | ha | ha
      · exact r.sep a ha
      · exact (h (.inl ha)).elim
      · exact (h (.inr ha)).elim
  obj := fun a o e => by
    have e : (if a = aD ∨ a = aC then none else m.mu a) = some o := e
    by_cases h : a = aD ∨ a = aC
    · rw [if_pos h] at e; cases e
    · rw [if_neg h] at e; exact r.obj a o e
/-- the deck stands beside the store -/
structure Dk (m : M) (d : D) : Prop where
  ex : ∃ aD aC G, d = .ref aD ∧ m.gh = deckGh G aD aC ∧ ¬ G.own aD ∧ ¬ G.own aC ∧ aD ≠ aC
theorem Dk.ext {m m' : M} {d : D} (h : Dk m d) (e : m'.gh = m.gh) : Dk m' d := by
  obtain ⟨aD, aC, G, h1, h2, h3⟩ := h.ex
  exact ⟨aD, aC, G, h1, e.trans h2, h3⟩
structure Step' (m m' : M) (aD aC : Addr) : Prop where
  gh : m'.gh = m.gh
  old : ∀ a o, a ≠ aD → a ≠ aC → m.mu a = some o → m'.mu a = some o
  deck : DeckAt m' aD aC
/-- a draw, with the deck in the store -/
def spDraw : DSp := fun ds m Q => ∃ aD aC n, ds = [.ref aD, .int n] ∧ 0 < n ∧ n < 1073741824 ∧ aD ≠ aC ∧ DeckAt m aD aC ∧ ∀ r m', 0 ≤ r → r < n → Step' m m' aD aC → Q (.int r) m'
/-- .. beside it -/
def spDrawG : DSp := fun ds m Q => ∃ d n, ds = [d, .int n] ∧ 0 < n ∧ n < 1073741824 ∧ Dk m d ∧ ∀ r, 0 ≤ r → r < n → Q (.int r) m
theorem draw_up {K : PySem.W.Frag} {vs : List V} {H : Hp} {Q : VK} {E : XK} (h : spUp K spDrawG vs H Q E) : spUp K spDraw vs H Q E := by
  obtain ⟨ds, m, Q', r, rh, ⟨d, n, rfl, hn, hn2, hd, q⟩, f⟩ := h
  obtain ⟨aD, aC, G, rfl, hg, g1, g2, hne⟩ := hd.ex
  have hi := rh.inv
  rw [hg] at hi
  obtain ⟨iG, dH⟩ := hi
  obtain ⟨x, k, ns, h1, h2, hx⟩ := dH.ex
  have sD : m.mu aD = none := rh.sep aD (by rw [hg]; exact .inr (.inl rfl))
  have sC : m.mu aC = none := rh.sep aC (by rw [hg]; exact .inr (.inr rfl))
  let m0 : M := ⟨fun a => if a = aD then some (.dic (deckD aC x k)) else if a = aC then some (.lst (ns.map D.int)) else m.mu a, G⟩
  have e1 : m0.mu aD = some (.dic (deckD aC x k)) := if_pos rfl
  have e2 : m0.mu aC = some (.lst (ns.map D.int)) := by show (if aC = aD then _ else if aC = aC then _ else _) = _; rw [if_neg (fun z => hne z.symm), if_pos rfl]
  have e3 : ∀ a, a ≠ aD → a ≠ aC → m0.mu a = m.mu a := fun a z1 z2 => by show (if a = aD then _ else if a = aC then _ else _) = _; rw [if_neg z1, if_neg z2]
  have r0 : RelH K H m0 := by
    refine ⟨iG, fun a ha => ?_, fun a o e => ?_⟩
    · rw [e3 a (fun z => g1 (z ▸ ha)) (fun z => g2 (z ▸ ha))]
      exact rh.sep a (by rw [hg]; exact .inl ha)
    · by_cases z1 : a = aD
      · subst z1; rw [e1] at e; cases e
        exact ⟨_, h1, .cons ⟨rfl, .ref _⟩ (.cons ⟨rfl, .int _⟩ (.cons ⟨rfl, .int _⟩ .nil))⟩
      · by_cases z2 : a = aC
        · subst z2; rw [e2] at e; cases e
          exact ⟨_, h2, rep_ints ns⟩
        · rw [e3 a z1 z2] at e; exact rh.obj a o e
  refine ⟨_, m0, fun d m' => ∃ r, d = .int r ∧ 0 ≤ r ∧ r < n ∧ Step' m0 m' aD aC, r, r0, ⟨aD, aC, n, rfl, hn, hn2, hne, ⟨x, k, ns, e1, e2, hx⟩, fun r m' a b s => ⟨r, rfl, a, b, s⟩⟩, ?_⟩
  rintro d m' ⟨r, rfl, a, b, s⟩ v H' t rv r'
  refine f (.int r) m (q r a b) v H' t rv ⟨?_, rh.sep, fun c o e => ?_⟩
  · rw [hg]
    have := r'.inv
    rw [s.gh] at this
    exact ⟨this, s.deck.h r'⟩
  · have z1 : c ≠ aD := fun z => by subst z; rw [sD] at e; cases e
    have z2 : c ≠ aC := fun z => by subst z; rw [sC] at e; cases e
    exact r'.obj c o (s.old c o z1 z2 (by rw [e3 c z1 z2]; exact e))
theorem DCal.draw {P : Program} {w : World} {K : PySem.W.Frag} {mg : Str → Option Value} {base : Heap} {k : Nat} {x : Str} (c : DCal P w K mg base k x spDraw) : DCal P w K mg base k x spDrawG := by
  obtain ⟨f', fd, ps, F, hm', kp, b⟩ := c.ex
  exact ⟨f', fd, ps, F.imp fun vs H Q E h => draw_up h, hm', kp, b⟩
theorem cutL_map {α β : Type} (f : α → β) (xs : List α) (lo hi : Option Int) : cutL (xs.map f) lo hi = (cutL xs lo hi).map f := by
  unfold cutL; rw [List.length_map, List.map_take, List.map_drop]
theorem cutL_le {α : Type} (xs : List α) (lo hi : Option Int) : (cutL xs lo hi).length ≤ xs.length := by
  unfold cutL; rw [List.length_take, List.length_drop]; omega
theorem emod_lt' {x n : Int} (h : 0 < n) : 0 ≤ x % n ∧ x % n < n := ⟨Int.emod_nonneg _ (by omega), Int.emod_lt_of_pos _ h⟩
theorem rI {C : Int → Int → Prop} {g : Int → Int → Int} {i j : Int} {m : M} {Q : DK} (h : C i j) (q : Q (.int (g i j)) m) : rdI C g (.int i) (.int j) m Q := ⟨h, q⟩
theorem aI {i j : Int} {m : M} {Q : DK} (q : Q (.int (i + j)) m) : rdAdd (.int i) (.int j) m Q := q
theorem aS {a b : Str} {m : M} {Q : DK} (h : (a ++ b).length ≤ 1000) (q : Q (.str (a ++ b)) m) : rdAdd (.str a) (.str b) m Q := ⟨by rw [← len_app]; exact slk h, q⟩
theorem iI {i : Int} {m : M} {Q : DK} (q : Q (.int i) m) : rdInt [.int i] m Q := ⟨i, rfl, q⟩
theorem bI {p : Int → Int → Bool} {i j : Int} {m : M} {Q : DK} (q : Q (.bl (p i j)) m) : rdB p (.int i) (.int j) m Q := q
/-- the rest of a block, told apart -/
theorem seqR1 {a d : DTS} {E : DEnds} {δ : Sl} {m : M} (P : Sl → M → Prop) (h2 : ∀ δ m, P δ m → d E δ m) (h1 : ∀ R : DTS, (∀ δ m, P δ m → R E δ m) → dSeq a R E δ m) : dSeq a d E δ m := h1 d h2
theorem seqR2 {a b d : DTS} {E : DEnds} {δ : Sl} {m : M} (P : Sl → M → Prop) (h2 : ∀ δ m, P δ m → d E δ m) (h1 : ∀ R : DTS, (∀ δ m, P δ m → R E δ m) → dSeq a (dSeq b R) E δ m) : dSeq a (dSeq b d) E δ m := h1 d h2
theorem seqR3 {a b c d : DTS} {E : DEnds} {δ : Sl} {m : M} (P : Sl → M → Prop) (h2 : ∀ δ m, P δ m → d E δ m) (h1 : ∀ R : DTS, (∀ δ m, P δ m → R E δ m) → dSeq a (dSeq b (dSeq c R)) E δ m) : dSeq a (dSeq b (dSeq c d)) E δ m := h1 d h2
theorem iff_T {c : Bool} {A B : Prop} : (c = true → A) → (c = false → B) → if c = true then A else B := fun h1 h2 => by cases c; rw [if_neg Bool.false_ne_true]; exact h2 rfl; rw [if_pos rfl]; exact h1 rfl
end PL

namespace DL
open PySem PySem.Spec PyProof.Rows L2 GA GxR PL
/-- a part of a list that stands beside the store -/
def dSlG (K : PySem.W.Frag) (te : DTr) (tl th : DTO) : DTr := fun δ m Q => te δ m fun x m1 => tl δ m1 fun l m2 => th δ m2 fun h m3 => ∃ (a : Addr) (ns : List Int), x = .ref a ∧ (∀ H, m3.gh.inv H → SqL K H a (ns.map V.int)) ∧ ∀ p, m3.mu p = none → Q (.ref p) (m3.set p (.lst (cutL (ns.map D.int) l h)))
theorem de_sliceG {X : Cx} {e : Expr} {te : DTr} {pos : Pos} {lo hi : Option Expr} {tl th : DTO} {p2 : Pos} (he : DE X e te) (hl : DPo X lo tl) (hu : DPo X hi th) : DE X (.Subscript e (.Slice lo hi none p2) pos) (dSlG X.K te tl th) := by
  refine (pe_slice sl_list he hl hu).imp fun σ H Q ⟨δ, m, Q', rs, rh, q, f⟩ => ?_
  refine ⟨δ, m, _, rs, rh, q, fun x m1 q1 v H1 t1 r1 rh1 => ⟨δ, m1, _, rs.mono t1, rh1, q1, fun l m2 q2 H2 t2 rh2 => ⟨δ, m2, _, rs.mono (t1.trans t2), rh2, q2, fun h m3 q3 H3 t3 rh3 => ?_⟩⟩⟩
  have r3 := Rep.mono (t2.trans t3) _ _ r1
  have f3 := f.mono ((t1.trans t2).trans t3)
  obtain ⟨a, ns, rfl, hS, q⟩ := q3
  cases r3
  exact ⟨_, ns.map V.int, rfl, hS H3 rh3.inv, fun p hp => f3 _ _ (q p (rh3.fresh hp)) _ _ (Ts.new hp) (.ref p) (rh3.newO hp ⟨_, upd_same, cut_rep l h (rep_ints ns)⟩)⟩
/-- from here on the deck stands beside the store -/
def dHide (t : DTS) : DTS := fun E δ m => ∃ aD aC, DeckAt m aD aC ∧ (¬ m.gh.own aD → ¬ m.gh.own aC → aD ≠ aC → t E δ (PL.hide m aD aC))
theorem dss_hide {X : Cx} {st : List Stmt} {t : DTS} (h : DSs X st t) : DSs X st (dHide t) := PSs.imp h fun E σ H ⟨δ, m, E', rs, rh, ⟨aD, aC, hd, q⟩, f⟩ => by
  refine ⟨δ, PL.hide m aD aC, E', rs, PL.RelH.hide rh hd, q (fun z => ?_) (fun z => ?_) (fun z => ?_), f⟩
  · obtain ⟨x, k, ns, e1, e2, r⟩ := hd.ex
    rw [rh.sep _ z] at e1; cases e1
  · obtain ⟨x, k, ns, e1, e2, r⟩ := hd.ex
    rw [rh.sep _ z] at e2; cases e2
  · obtain ⟨x, k, ns, e1, e2, r⟩ := hd.ex
    subst z; rw [e1] at e2; cases e2
theorem Tab.gh {m m' : M} {P : Addr} (h : Tab m P) (e : m'.gh = m.gh) : Tab m' P := by
  obtain ⟨mu, g⟩ := m
  obtain ⟨mu', g'⟩ := m'
  cases e
  exact ⟨h.own, h.is, h.grow⟩
theorem Tab.hide {m : M} {P aD aC : Addr} (h : Tab m P) (h1 : ¬ m.gh.own aD) (h2 : ¬ m.gh.own aC) : Tab (PL.hide m aD aC) P where
  own := .inl h.own
  is := fun H i => h.is H i.1
  grow := fun H H2 i t => ⟨h.grow H H2 i.1 t, by
    obtain ⟨x, k, ns, e1, e2, r⟩ := i.2.ex
    have n1 : aD ≠ P := fun z => h1 (z ▸ h.own)
    have n2 : aC ≠ P := fun z => h2 (z ▸ h.own)
    exact ⟨x, k, ns, (t.2 _ n1).trans e1, (t.2 _ n2).trans e2, r⟩⟩
theorem Dk.hide {m : M} {aD aC : Addr} (h1 : ¬ m.gh.own aD) (h2 : ¬ m.gh.own aC) (ne : aD ≠ aC) : Dk (PL.hide m aD aC) (.ref aD) := ⟨aD, aC, m.gh, rfl, rfl, h1, h2, ne⟩
end DL

namespace PR
open PySem PySem.Spec PyProof.Rows L2 GA GxR DL PL
def top (i : Nat) : Stmt := PySem.Challenge.pw_clearline_k02_texts_of_plans.main.body.getD i (.Pass ⟨0, 0, 0, 0⟩)
structure Txt (K : PySem.W.Frag) (mg : Str → Option Value) (tl td t8 t3 : Tok) (aK : Addr) : Prop where
  len : mg "len" = none
  isinstance : mg "isinstance" = none
  all : mg "all" = none
  range : mg "range" = none
  str : mg "str" = none
  list : mg "list" = none
  tuple : mg "tuple" = none
  int : mg "int" = none
  bool : mg "bool" = none
  m_LETTERS : mg "LETTERS" = some (.str lettersS tl)
  m_LETTERS_AND_DIGITS : mg "LETTERS_AND_DIGITS" = some (.str lettersDS td)
  m_LONGEST_NAME : mg "LONGEST_NAME" = some (.int 8 t8)
  m_GREATEST_END : mg "GREATEST_END" = some (.int 3 t3)
  m_KINDS : mg "KINDS" = some (.ref aK)
  r_KINDS : ∀ H, Rep K H (.ktup [.str "plain", .str "points", .str "crossing"]) (.ref aK)
abbrev s_is_integer : Stmt := top 7
theorem sc_is_integer : FnScope ["thing"] ["thing"] (defScope s_is_integer) := ⟨rfl, rfl, rfl, by decide +kernel, rfl, by decide +kernel, by decide +kernel⟩
abbrev s_is_tuple_of : Stmt := top 8
theorem sc_is_tuple_of : FnScope ["thing", "length"] ["thing", "length"] (defScope s_is_tuple_of) := ⟨rfl, rfl, rfl, by decide +kernel, rfl, by decide +kernel, by decide +kernel⟩
abbrev s_is_name : Stmt := top 10
theorem sc_is_name : FnScope ["thing", "sign"] ["thing"] (defScope s_is_name) := ⟨rfl, rfl, rfl, by decide +kernel, rfl, by decide +kernel, by decide +kernel⟩
abbrev s_are_items : Stmt := top 9
theorem sc_are_items : FnScope ["thing", "has_form", "item"] ["thing", "has_form"] (defScope s_are_items) := ⟨rfl, rfl, rfl, by decide +kernel, rfl, by decide +kernel, by decide +kernel⟩
abbrev s_is_end_number : Stmt := top 14
theorem sc_is_end_number : FnScope ["thing"] ["thing"] (defScope s_is_end_number) := ⟨rfl, rfl, rfl, by decide +kernel, rfl, by decide +kernel, by decide +kernel⟩
abbrev s_is_end : Stmt := top 15
theorem sc_is_end : FnScope ["thing"] ["thing"] (defScope s_is_end) := ⟨rfl, rfl, rfl, by decide +kernel, rfl, by decide +kernel, by decide +kernel⟩
abbrev s_is_step : Stmt := top 16
theorem sc_is_step : FnScope ["thing"] ["thing"] (defScope s_is_step) := ⟨rfl, rfl, rfl, by decide +kernel, rfl, by decide +kernel, by decide +kernel⟩
abbrev s_is_stretch : Stmt := top 17
theorem sc_is_stretch : FnScope ["thing"] ["thing"] (defScope s_is_stretch) := ⟨rfl, rfl, rfl, by decide +kernel, rfl, by decide +kernel, by decide +kernel⟩
abbrev s_is_joint : Stmt := top 18
theorem sc_is_joint : FnScope ["thing"] ["thing"] (defScope s_is_joint) := ⟨rfl, rfl, rfl, by decide +kernel, rfl, by decide +kernel, by decide +kernel⟩
abbrev s_is_gate : Stmt := top 19
theorem sc_is_gate : FnScope ["thing"] ["thing"] (defScope s_is_gate) := ⟨rfl, rfl, rfl, by decide +kernel, rfl, by decide +kernel, by decide +kernel⟩
abbrev s_is_overlap : Stmt := top 20
theorem sc_is_overlap : FnScope ["thing"] ["thing"] (defScope s_is_overlap) := ⟨rfl, rfl, rfl, by decide +kernel, rfl, by decide +kernel, by decide +kernel⟩
abbrev s_is_signal : Stmt := top 21
theorem sc_is_signal : FnScope ["thing"] ["thing"] (defScope s_is_signal) := ⟨rfl, rfl, rfl, by decide +kernel, rfl, by decide +kernel, by decide +kernel⟩
abbrev s_is_plan : Stmt := top 22
theorem sc_is_plan : FnScope ["thing", "stretches", "joints", "gates", "signals"] ["thing"] (defScope s_is_plan) := ⟨rfl, rfl, rfl, by decide +kernel, rfl, by decide +kernel, by decide +kernel⟩
section
variable {P : Program} {w : World} {K : PySem.W.Frag} {mg : Str → Option Value} {base : Heap} {tl td t8 t3 : Tok} {aK P1 P2 : Addr} (T : Txt K mg tl td t8 t3 aK) (Ok : M → Prop)
include T

theorem c_is_integer {f : Addr} {fd : FuncData} (F : Fun K "is_integer" "is_integer" s_is_integer f fd) (hm : mg "is_integer" = some (.ref f))  : DCal P w K mg base 1 "is_integer" (sp1 Ok ty mInt) := by
  refine dcal F hm (F.binds (ps := ["thing"]) fun _ _ _ _ _ _ us hl => match us, hl with | [_], _ => rfl) sc_is_integer (fun ds m Q h => ?_) (fun cdv A outer s H E hr => ⟨_, (dss_one (ds_ret (de_and (de_isi (T := "int") (by rfl) T.isinstance (by decide +kernel) (de_var 0) (pe_bltn (by rfl) T.int (by decide +kernel) rfl)) (de_one (de_not (de_isi (T := "bool") (by rfl) T.isinstance (by decide +kernel) (de_var 0) (pe_bltn (by rfl) T.bool (by decide +kernel) rfl))))))), fun ds m Q h => ?_⟩)
  · obtain ⟨d, rfl, _⟩ := h; rfl
  · obtain ⟨d, rfl, hd, hO, q⟩ := h
    dsimp only [dRet, dSeq, dNext, dIfS, dSet, dExpr, dAndV, dOrV, dOp, dUn, dArgs, dCons, dNil, dTup, dC, dB, dNot, dAnd, dOr, dIf, dCall, dAsg, dPar, dChain, dMeth, dM1, dSl, dPart, dNoPart, dFmt, gD]
    refine dIsi_int (fun R hR => dVar_at rfl hR) hd ⟨_, rfl, ?_⟩
    cases d with
    | int i => exact iteT (dIsi_bool (fun R hR => dVar_at rfl hR) ⟨false, rfl, q⟩)
    | bl b => exact iteT (dIsi_boolb (fun R hR => dVar_at rfl hR) ⟨true, rfl, q⟩)
    | ref a => exact hd.elim
    | ktup a => exact hd.elim
    | _ => exact iteF q

theorem c_is_tuple_of {f : Addr} {fd : FuncData} (F : Fun K "is_tuple_of" "is_tuple_of" s_is_tuple_of f fd) (hm : mg "is_tuple_of" = some (.ref f))  : DCal P w K mg base 1 "is_tuple_of" (fun ds m Q => ∃ d n, ds = [d, .int n] ∧ ty d ∧ Q (.bl (mTupN d n)) m) := by
  refine dcal F hm (F.binds (ps := ["thing", "length"]) fun _ _ _ _ _ _ us hl => match us, hl with | [_, _], _ => rfl) sc_is_tuple_of (fun ds m Q h => ?_) (fun cdv A outer s H E hr => ⟨_, (dss_one (ds_ret (de_and (de_isi (T := "tuple") (by rfl) T.isinstance (by decide +kernel) (de_var 0) (pe_bltn (by rfl) T.tuple (by decide +kernel) rfl)) (de_one (de_cmp (dc_eq hr) (de_len (by rfl) T.len (da_cons (de_var 0) da_nil)) (de_var 1)))))), fun ds m Q h => ?_⟩)
  · obtain ⟨d, n, rfl, _⟩ := h; rfl
  · obtain ⟨d, n, rfl, hd, q⟩ := h
    dsimp only [dRet, dSeq, dNext, dIfS, dSet, dExpr, dAndV, dOrV, dOp, dUn, dArgs, dCons, dNil, dTup, dC, dB, dNot, dAnd, dOr, dIf, dCall, dAsg, dPar, dChain, dMeth, dM1, dSl, dPart, dNoPart, dFmt, gD]
    refine dIsi_tup (fun R hR => dVar_at rfl hR) hd ⟨_, rfl, ?_⟩
    cases d with
    | tup xs => exact iteT (dVar_at rfl ⟨_, _, rfl, rfl, dVar_at rfl (eqI q)⟩)
    | ref a => exact hd.elim
    | ktup a => exact hd.elim
    | _ => exact iteF q

theorem c_is_name {f c : Addr} {fd : FuncData} (F : FunC K "is_name" s_is_name f fd c) (hm : mg "is_name" = some (.ref f)) (TB : TabB base mg c P1) (hTab : ∀ m, Ok m → Tab m P1) : DCal P w K mg base 3 "is_name" (sp1 Ok ty mName) := by
  refine dcalC F hm (F.fun.binds (ps := ["thing"]) fun _ _ _ _ _ _ us hl => match us, hl with | [_], _ => rfl) sc_is_name (fun ds m Q h => ?_) (fun A outer s H E hr => ⟨_, (dss_cons (ds_if (dt_w (dw_or (dt_not (dt_val (de_isi (T := "str") (by rfl) T.isinstance (by decide +kernel) (de_var 0) (pe_bltn (by rfl) T.str (by decide +kernel) rfl)))) (dw_or1 (dt_not (dt_chain dc_le dc_le de_int (de_len (by rfl) T.len (da_cons (de_var 0) da_nil)) (de_globI (by rfl) T.m_LONGEST_NAME)))))) (dss_one (ds_ret de_bl)) dss_nil)
      (dss_one (ds_ret (de_and (de_cmp dc_inS (de_ix (de_var 0) de_int) (de_globS (by rfl) T.m_LETTERS)) (de_one (de_all (own := [("sign", 1)]) hr (by rfl) T.all (by decide +kernel) TB rfl (genOk (N := ["thing", "sign"]) (scX := defScope s_is_name) rfl rfl (by decide +kernel) (by decide +kernel) (by decide +kernel)) sc_is_name.nd (dpi_str (de_var 0)) (fun A ce s H fp hsc => by cases ce; cases hsc; exact dg_name (i := 1) sc_is_name.nd rfl (Or.inl rfl) (Or.inr rfl)) (fun A ce s H fp hsc hr => by cases ce; cases hsc; exact de_cmp dc_inS (de_var 1) (de_globS (by rfl) T.m_LETTERS_AND_DIGITS)) (fun _ => rfl))))))), fun ds m Q h => ?_⟩)
  · obtain ⟨d, rfl, _⟩ := h; rfl
  · obtain ⟨d, rfl, hd, hO, q⟩ := h
    dsimp only [dRet, dSeq, dNext, dIfS, dSet, dExpr, dAndV, dOrV, dOp, dUn, dArgs, dCons, dNil, dTup, dC, dB, dNot, dAnd, dOr, dIf, dCall, dAsg, dPar, dChain, dMeth, dM1, dSl, dPart, dNoPart, dFmt, gD]
    refine dIsi_str (fun R hR => dVar_at rfl hR) hd ⟨_, rfl, ?_⟩
    cases d with
    | str s =>
      have hz : s.length ≤ sizeLine := (by simpa [ty] using hd)
      refine iteF (dVar_at rfl ⟨_, _, rfl, ⟨hz, rfl⟩, _, rfl, ?_⟩)
      by_cases h1 : 1 ≤ s.length
      · refine ifT (decide_eq_true (by omega)) ⟨_, rfl, ?_⟩
        by_cases h8 : s.length ≤ 8
        · have e8 : decide ((s.length : Int) ≤ 8) = true := decide_eq_true (by omega)
          obtain ⟨c, r, hc⟩ : ∃ c r, s.cps.toList = c :: r := by
            cases e : s.cps.toList with
            | nil => have : s.cps.toList.length = 0 := by rw [e]; rfl
                     have h2 : s.length = s.cps.size := rfl
                     simp at this; rw [h2, this] at h1; simp at h1
            | cons c r => exact ⟨c, r, rfl⟩
          refine ifF (by show (!decide ((s.length : Int) ≤ 8)) = false; rw [e8]; rfl) (dVar_at rfl ⟨c, hz, len1 hc, c, lettersS, rfl, rfl, _, rfl, ?_⟩)
          have en : mName (.str s) = (decide (c ∈ lettersS.cps.toList) && s.cps.toList.all fun c => decide (c ∈ lettersDS.cps.toList)) := by
            show nameS s = _
            unfold nameS
            rw [decide_eq_true h1, decide_eq_true h8, hc]; rfl
          rw [en] at q
          cases hl : decide (c ∈ lettersS.cps.toList) with
          | true =>
            rw [hl, Bool.true_and] at q
            refine ifT rfl (dAll_pure (xs := s.cps.toList.map fun c => D.str ⟨#[c]⟩) (p := mSign) (hTab m hO) (fun R hR => dVar_at rfl ⟨s, rfl, hR⟩) (fun d hd R hR => ?_) (by rw [all_signs']; exact q))
            obtain ⟨c', _, rfl⟩ := List.mem_map.mp hd
            refine dVar_at rfl ⟨c', lettersDS, rfl, rfl, ?_⟩
            have es : mSign (.str ⟨#[c']⟩) = decide (c' ∈ lettersDS.cps.toList) := by simp [mSign]
            rw [es] at hR; exact hR
          | false => rw [hl, Bool.false_and] at q; exact ifF rfl q
        · have e8 : decide ((s.length : Int) ≤ 8) = false := decide_eq_false (by omega)
          have en : mName (.str s) = false := by show nameS s = false; unfold nameS; rw [decide_eq_false h8, Bool.and_false]; rfl
          rw [en] at q; exact ifT (by show (!decide ((s.length : Int) ≤ 8)) = true; rw [e8]; rfl) q
      · have en : mName (.str s) = false := by show nameS s = false; unfold nameS; rw [decide_eq_false h1]; rfl
        rw [en] at q
        exact ifF (decide_eq_false (by omega)) ⟨false, rfl, iteT q⟩
    | ref a => exact hd.elim
    | ktup a => exact hd.elim
    | _ => exact iteT q

theorem c_are_items {f c : Addr} {fd : FuncData} (F : FunC K "are_items" s_are_items f fd c) (hm : mg "are_items" = some (.ref f)) {g0 : Addr} {g : D → Bool} {dom : D → Prop} {k : Nat} (cf : DCalAt P w K mg base k g0 (sp1 Ok dom g)) (TB : TabB base mg c P2) (hTab : ∀ m, Ok m → Tab m P2) : DCal P w K mg base (k + 2) "are_items" (fun ds m Q => ∃ d, ds = [d, .ref g0] ∧ ty d ∧ (∀ xs, d = .tup xs → ∀ x ∈ xs, dom x) ∧ Ok m ∧ Q (.bl (mAll g d)) m) := by
  refine dcalC F hm (F.fun.binds (ps := ["thing", "has_form"]) fun _ _ _ _ _ _ us hl => match us, hl with | [_, _], _ => rfl) sc_are_items (fun ds m Q h => ?_) (fun A outer s H E hr => ⟨_, (dss_one (ds_ret (de_and (de_isi (T := "tuple") (by rfl) T.isinstance (by decide +kernel) (de_var 0) (pe_bltn (by rfl) T.tuple (by decide +kernel) rfl)) (de_one (de_all (own := [("item", 2)]) hr (by rfl) T.all (by decide +kernel) TB rfl (genOk (N := ["thing", "has_form", "item"]) (scX := defScope s_are_items) rfl rfl (by decide +kernel) (by decide +kernel) (by decide +kernel)) sc_are_items.nd (dpi_tup (de_var 0)) (fun A ce s H fp hsc => by cases ce; cases hsc; exact dg_name (i := 2) sc_are_items.nd rfl (Or.inl rfl) (Or.inr rfl)) (fun A ce s H fp hsc hr => by cases ce; cases hsc; exact de_callL (i := 1) cf hr (Nat.le_refl _) rfl (by first | exact Or.inl rfl | exact Or.inr (Or.inl rfl) | exact Or.inr (Or.inr rfl)) (da_cons (de_var 2) da_nil)) (fun _ => rfl)))))), fun ds m Q h => ?_⟩)
  · obtain ⟨d, rfl, _⟩ := h; rfl
  · obtain ⟨d, rfl, hd, hx, hO, q⟩ := h
    dsimp only [dRet, dSeq, dNext, dIfS, dSet, dExpr, dAndV, dOrV, dOp, dUn, dArgs, dCons, dNil, dTup, dC, dB, dNot, dAnd, dOr, dIf, dCall, dAsg, dPar, dChain, dMeth, dM1, dSl, dPart, dNoPart, dFmt, gD]
    refine dIsi_tup (fun R hR => dVar_at rfl hR) hd ⟨_, rfl, ?_⟩
    cases d with
    | tup xs =>
      exact iteT (dAll_pure (xs := xs) (p := g) (hTab m hO) (fun R hR => dVar_at rfl ⟨xs, .inl rfl, hR⟩) (fun d hd R hR => ⟨rfl, dVar_at rfl ⟨d, rfl, hx xs rfl d hd, hO, hR⟩⟩) q)
    | ref a => exact hd.elim
    | ktup a => exact hd.elim
    | _ => exact iteF q

theorem c_is_end_number {f : Addr} {fd : FuncData} (F : Fun K "is_end_number" "is_end_number" s_is_end_number f fd) (hm : mg "is_end_number" = some (.ref f)) (c_is_integer : DCal P w K mg base 1 "is_integer" (sp1 Ok ty mInt)) : DCal P w K mg base 2 "is_end_number" (sp1 Ok ty mNum) := by
  refine dcal F hm (F.binds (ps := ["thing"]) fun _ _ _ _ _ _ us hl => match us, hl with | [_], _ => rfl) sc_is_end_number (fun ds m Q h => ?_) (fun cdv A outer s H E hr => ⟨_, (dss_one (ds_ret (de_and (de_call c_is_integer hr (by decide) (by rfl) (da_cons (de_var 0) da_nil)) (de_one (de_chain dc_le dc_le de_int (de_var 0) (de_globI (by rfl) T.m_GREATEST_END)))))), fun ds m Q h => ?_⟩)
  · obtain ⟨d, rfl, _⟩ := h; rfl
  · obtain ⟨d, rfl, hd, hO, q⟩ := h
    dsimp only [dRet, dSeq, dNext, dIfS, dSet, dExpr, dAndV, dOrV, dOp, dUn, dArgs, dCons, dNil, dTup, dC, dB, dNot, dAnd, dOr, dIf, dCall, dAsg, dPar, dChain, dMeth, dM1, dSl, dPart, dNoPart, dFmt, gD]
    refine dVar_at rfl ⟨d, rfl, hd, hO, _, rfl, ?_⟩
    cases d with
    | int i =>
      refine iteT (dVar_at rfl ⟨_, rfl, ?_⟩)
      by_cases h0 : 0 ≤ i
      · have en : mNum (.int i) = decide (i ≤ 3) := by show (decide (0 ≤ i) && decide (i ≤ 3)) = _; rw [decide_eq_true h0]; rfl
        rw [en] at q; exact ifT (decide_eq_true h0) q
      · have en : mNum (.int i) = false := by show (decide (0 ≤ i) && decide (i ≤ 3)) = _; rw [decide_eq_false h0]; rfl
        rw [en] at q; exact ifF (decide_eq_false h0) q
    | _ => exact iteF q

theorem c_is_end {f : Addr} {fd : FuncData} (F : Fun K "is_end" "is_end" s_is_end f fd) (hm : mg "is_end" = some (.ref f)) (c_is_tuple_of : DCal P w K mg base 1 "is_tuple_of" (fun ds m Q => ∃ d n, ds = [d, .int n] ∧ ty d ∧ Q (.bl (mTupN d n)) m))(c_is_name : DCal P w K mg base 3 "is_name" (sp1 Ok ty mName))(c_is_end_number : DCal P w K mg base 2 "is_end_number" (sp1 Ok ty mNum)) : DCal P w K mg base 4 "is_end" (sp1 Ok ty mEnd) := by
  refine dcal F hm (F.binds (ps := ["thing"]) fun _ _ _ _ _ _ us hl => match us, hl with | [_], _ => rfl) sc_is_end (fun ds m Q h => ?_) (fun cdv A outer s H E hr => ⟨_, (dss_one (ds_ret (de_and (de_call c_is_tuple_of hr (by decide) (by rfl) (da_cons (de_var 0) (da_cons de_int da_nil))) (de_and (de_call c_is_name hr (by decide) (by rfl) (da_cons (de_ix (de_var 0) de_int) da_nil)) (de_one (de_call c_is_end_number hr (by decide) (by rfl) (da_cons (de_ix (de_var 0) de_int) da_nil))))))), fun ds m Q h => ?_⟩)
  · obtain ⟨d, rfl, _⟩ := h; rfl
  · obtain ⟨d, rfl, hd, hO, q⟩ := h
    dsimp only [dRet, dSeq, dNext, dIfS, dSet, dExpr, dAndV, dOrV, dOp, dUn, dArgs, dCons, dNil, dTup, dC, dB, dNot, dAnd, dOr, dIf, dCall, dAsg, dPar, dChain, dMeth, dM1, dSl, dPart, dNoPart, dFmt, gD]
    refine dVar_at rfl ⟨d, 2, rfl, hd, _, rfl, ?_⟩
    rcases tup2 d with ⟨a, b, rfl⟩ | ⟨hn, ne⟩
    · obtain ⟨ha, hb, _⟩ := hd
      refine iteT (dVar_at rfl ⟨a, rfl, a, rfl, ha, hO, _, rfl, ?_⟩)
      have en : mEnd (.tup [a, b]) = (mName a && mNum b) := rfl
      rw [en] at q
      cases e1 : mName a with
      | true => rw [e1, Bool.true_and] at q; exact ifT rfl (dVar_at rfl ⟨b, rfl, b, rfl, hb, hO, q⟩)
      | false => rw [e1, Bool.false_and] at q; exact ifF rfl q
    · rw [mEnd_no ne] at q; exact ifF hn q

theorem c_is_step {f : Addr} {fd : FuncData} (F : Fun K "is_step" "is_step" s_is_step f fd) (hm : mg "is_step" = some (.ref f)) (c_is_tuple_of : DCal P w K mg base 1 "is_tuple_of" (fun ds m Q => ∃ d n, ds = [d, .int n] ∧ ty d ∧ Q (.bl (mTupN d n)) m))(c_is_end : DCal P w K mg base 4 "is_end" (sp1 Ok ty mEnd))(c_is_end_number : DCal P w K mg base 2 "is_end_number" (sp1 Ok ty mNum)) : DCal P w K mg base 5 "is_step" (sp1 Ok ty mStep) := by
  refine dcal F hm (F.binds (ps := ["thing"]) fun _ _ _ _ _ _ us hl => match us, hl with | [_], _ => rfl) sc_is_step (fun ds m Q h => ?_) (fun cdv A outer s H E hr => ⟨_, (dss_one (ds_ret (de_and (de_call c_is_tuple_of hr (by decide) (by rfl) (da_cons (de_var 0) (da_cons de_int da_nil))) (de_and (de_call c_is_end hr (by decide) (by rfl) (da_cons (de_slice (de_var 0) dpo_none (dpo_some de_int)) da_nil)) (de_one (de_call c_is_end_number hr (by decide) (by rfl) (da_cons (de_ix (de_var 0) de_int) da_nil))))))), fun ds m Q h => ?_⟩)
  · obtain ⟨d, rfl, _⟩ := h; rfl
  · obtain ⟨d, rfl, hd, hO, q⟩ := h
    dsimp only [dRet, dSeq, dNext, dIfS, dSet, dExpr, dAndV, dOrV, dOp, dUn, dArgs, dCons, dNil, dTup, dC, dB, dNot, dAnd, dOr, dIf, dCall, dAsg, dPar, dChain, dMeth, dM1, dSl, dPart, dNoPart, dFmt, gD]
    refine dVar_at rfl ⟨d, 3, rfl, hd, _, rfl, ?_⟩
    rcases tup3 d with ⟨a, b, c, rfl⟩ | ⟨hn, ne⟩
    · obtain ⟨ha, hb, hc, _⟩ := hd
      refine iteT (dVar_at rfl ⟨_, rfl, ⟨(fun z => absurd z.2 (by show ¬ (2 : Nat) = 3; decide)), .tup [a, b], rfl, ⟨ha, hb, trivial⟩, hO, _, rfl, ?_⟩⟩)
      have en : mStep (.tup [a, b, c]) = (mEnd (.tup [a, b]) && mNum c) := rfl
      rw [en] at q
      cases e1 : mEnd (.tup [a, b]) with
      | true => rw [e1, Bool.true_and] at q; exact ifT rfl (dVar_at rfl ⟨c, rfl, c, rfl, hc, hO, q⟩)
      | false => rw [e1, Bool.false_and] at q; exact ifF rfl q
    · rw [mStep_no ne] at q; exact ifF hn q

theorem c_is_stretch {f : Addr} {fd : FuncData} (F : Fun K "is_stretch" "is_stretch" s_is_stretch f fd) (hm : mg "is_stretch" = some (.ref f)) (c_is_tuple_of : DCal P w K mg base 1 "is_tuple_of" (fun ds m Q => ∃ d n, ds = [d, .int n] ∧ ty d ∧ Q (.bl (mTupN d n)) m))(c_is_name : DCal P w K mg base 3 "is_name" (sp1 Ok ty mName)) : DCal P w K mg base 4 "is_stretch" (sp1 Ok tyS mStretch) := by
  refine dcal F hm (F.binds (ps := ["thing"]) fun _ _ _ _ _ _ us hl => match us, hl with | [_], _ => rfl) sc_is_stretch (fun ds m Q h => ?_) (fun cdv A outer s H E hr => ⟨_, (dss_one (ds_ret (de_and (de_call c_is_tuple_of hr (by decide) (by rfl) (da_cons (de_var 0) (da_cons de_int da_nil))) (de_and (de_call c_is_name hr (by decide) (by rfl) (da_cons (de_ix (de_var 0) de_int) da_nil)) (de_one (de_cmp dc_in (de_ix (de_var 0) de_int) (de_globR (by rfl) T.m_KINDS T.r_KINDS))))))), fun ds m Q h => ?_⟩)
  · obtain ⟨d, rfl, _⟩ := h; rfl
  · obtain ⟨d, rfl, ⟨hd, hf⟩, hO, q⟩ := h
    dsimp only [dRet, dSeq, dNext, dIfS, dSet, dExpr, dAndV, dOrV, dOp, dUn, dArgs, dCons, dNil, dTup, dC, dB, dNot, dAnd, dOr, dIf, dCall, dAsg, dPar, dChain, dMeth, dM1, dSl, dPart, dNoPart, dFmt, gD]
    refine dVar_at rfl ⟨d, 2, rfl, hd, _, rfl, ?_⟩
    rcases tup2 d with ⟨a, b, rfl⟩ | ⟨hn, ne⟩
    · obtain ⟨ha, hb, _⟩ := hd
      refine iteT (dVar_at rfl ⟨a, rfl, a, rfl, ha, hO, _, rfl, ?_⟩)
      have en : mStretch (.tup [a, b]) = (mName a && mKind b) := rfl
      rw [en] at q
      cases e1 : mName a with
      | true =>
        rw [e1, Bool.true_and] at q
        refine ifT rfl (dVar_at rfl ⟨b, rfl, _, .inr (.inl rfl), hf a b rfl, rfl, ?_⟩)
        show Q (.bl ([D.str "plain", D.str "points", D.str "crossing"].any fun x => eqFl x b)) m
        rw [kinds_any (hf a b rfl)]; exact q
      | false => rw [e1, Bool.false_and] at q; exact ifF rfl q
    · rw [mStretch_no ne] at q; exact ifF hn q

theorem c_is_joint {f : Addr} {fd : FuncData} (F : Fun K "is_joint" "is_joint" s_is_joint f fd) (hm : mg "is_joint" = some (.ref f)) (c_is_tuple_of : DCal P w K mg base 1 "is_tuple_of" (fun ds m Q => ∃ d n, ds = [d, .int n] ∧ ty d ∧ Q (.bl (mTupN d n)) m))(c_is_end : DCal P w K mg base 4 "is_end" (sp1 Ok ty mEnd)) : DCal P w K mg base 5 "is_joint" (sp1 Ok ty mJoint) := by
  refine dcal F hm (F.binds (ps := ["thing"]) fun _ _ _ _ _ _ us hl => match us, hl with | [_], _ => rfl) sc_is_joint (fun ds m Q h => ?_) (fun cdv A outer s H E hr => ⟨_, (dss_one (ds_ret (de_and (de_call c_is_tuple_of hr (by decide) (by rfl) (da_cons (de_var 0) (da_cons de_int da_nil))) (de_and (de_call c_is_end hr (by decide) (by rfl) (da_cons (de_ix (de_var 0) de_int) da_nil)) (de_one (de_call c_is_end hr (by decide) (by rfl) (da_cons (de_ix (de_var 0) de_int) da_nil))))))), fun ds m Q h => ?_⟩)
  · obtain ⟨d, rfl, _⟩ := h; rfl
  · obtain ⟨d, rfl, hd, hO, q⟩ := h
    dsimp only [dRet, dSeq, dNext, dIfS, dSet, dExpr, dAndV, dOrV, dOp, dUn, dArgs, dCons, dNil, dTup, dC, dB, dNot, dAnd, dOr, dIf, dCall, dAsg, dPar, dChain, dMeth, dM1, dSl, dPart, dNoPart, dFmt, gD]
    refine dVar_at rfl ⟨d, 2, rfl, hd, _, rfl, ?_⟩
    rcases tup2 d with ⟨a, b, rfl⟩ | ⟨hn, ne⟩
    · obtain ⟨ha, hb, _⟩ := hd
      refine iteT (dVar_at rfl ⟨a, rfl, a, rfl, ha, hO, _, rfl, ?_⟩)
      have en : mJoint (.tup [a, b]) = (mEnd a && mEnd b) := rfl
      rw [en] at q
      cases e1 : mEnd a with
      | true => rw [e1, Bool.true_and] at q; exact ifT rfl (dVar_at rfl ⟨b, rfl, b, rfl, hb, hO, q⟩)
      | false => rw [e1, Bool.false_and] at q; exact ifF rfl q
    · rw [mJoint_no ne] at q; exact ifF hn q

theorem c_is_gate {f : Addr} {fd : FuncData} (F : Fun K "is_gate" "is_gate" s_is_gate f fd) (hm : mg "is_gate" = some (.ref f)) (c_is_tuple_of : DCal P w K mg base 1 "is_tuple_of" (fun ds m Q => ∃ d n, ds = [d, .int n] ∧ ty d ∧ Q (.bl (mTupN d n)) m))(c_is_name : DCal P w K mg base 3 "is_name" (sp1 Ok ty mName))(c_is_end : DCal P w K mg base 4 "is_end" (sp1 Ok ty mEnd)) : DCal P w K mg base 5 "is_gate" (sp1 Ok ty mGate) := by
  refine dcal F hm (F.binds (ps := ["thing"]) fun _ _ _ _ _ _ us hl => match us, hl with | [_], _ => rfl) sc_is_gate (fun ds m Q h => ?_) (fun cdv A outer s H E hr => ⟨_, (dss_one (ds_ret (de_and (de_call c_is_tuple_of hr (by decide) (by rfl) (da_cons (de_var 0) (da_cons de_int da_nil))) (de_and (de_call c_is_name hr (by decide) (by rfl) (da_cons (de_ix (de_var 0) de_int) da_nil)) (de_one (de_call c_is_end hr (by decide) (by rfl) (da_cons (de_ix (de_var 0) de_int) da_nil))))))), fun ds m Q h => ?_⟩)
  · obtain ⟨d, rfl, _⟩ := h; rfl
  · obtain ⟨d, rfl, hd, hO, q⟩ := h
    dsimp only [dRet, dSeq, dNext, dIfS, dSet, dExpr, dAndV, dOrV, dOp, dUn, dArgs, dCons, dNil, dTup, dC, dB, dNot, dAnd, dOr, dIf, dCall, dAsg, dPar, dChain, dMeth, dM1, dSl, dPart, dNoPart, dFmt, gD]
    refine dVar_at rfl ⟨d, 2, rfl, hd, _, rfl, ?_⟩
    rcases tup2 d with ⟨a, b, rfl⟩ | ⟨hn, ne⟩
    · obtain ⟨ha, hb, _⟩ := hd
      refine iteT (dVar_at rfl ⟨a, rfl, a, rfl, ha, hO, _, rfl, ?_⟩)
      have en : mGate (.tup [a, b]) = (mName a && mEnd b) := rfl
      rw [en] at q
      cases e1 : mName a with
      | true => rw [e1, Bool.true_and] at q; exact ifT rfl (dVar_at rfl ⟨b, rfl, b, rfl, hb, hO, q⟩)
      | false => rw [e1, Bool.false_and] at q; exact ifF rfl q
    · rw [mGate_no ne] at q; exact ifF hn q

theorem c_is_overlap {f : Addr} {fd : FuncData} (F : Fun K "is_overlap" "is_overlap" s_is_overlap f fd) (hm : mg "is_overlap" = some (.ref f))  {a_step : Addr} (hm_step : mg "is_step" = some (.ref a_step)) (c_are_items_step : DCal P w K mg base 7 "are_items" (fun ds m Q => ∃ d, ds = [d, .ref a_step] ∧ ty d ∧ (∀ xs, d = .tup xs → ∀ x ∈ xs, ty x) ∧ Ok m ∧ Q (.bl (mAll mStep d)) m)) : DCal P w K mg base 8 "is_overlap" (sp1 Ok ty mOverlap) := by
  refine dcal F hm (F.binds (ps := ["thing"]) fun _ _ _ _ _ _ us hl => match us, hl with | [_], _ => rfl) sc_is_overlap (fun ds m Q h => ?_) (fun cdv A outer s H E hr => ⟨_, (dss_one (ds_ret (de_and (de_call c_are_items_step hr (by decide) (by rfl) (da_cons (de_var 0) (da_cons (de_globR (by rfl) hm_step (fun _ => .ref _)) da_nil))) (de_one (de_cmp dc_le (de_len (by rfl) T.len (da_cons (de_var 0) da_nil)) de_int))))), fun ds m Q h => ?_⟩)
  · obtain ⟨d, rfl, _⟩ := h; rfl
  · obtain ⟨d, rfl, hd, hO, q⟩ := h
    dsimp only [dRet, dSeq, dNext, dIfS, dSet, dExpr, dAndV, dOrV, dOp, dUn, dArgs, dCons, dNil, dTup, dC, dB, dNot, dAnd, dOr, dIf, dCall, dAsg, dPar, dChain, dMeth, dM1, dSl, dPart, dNoPart, dFmt, gD]
    refine dVar_at rfl ⟨d, rfl, hd, (fun xs e x hx => by subst e; exact tys_mem hd hx), hO, _, rfl, ?_⟩
    cases d with
    | tup xs =>
      have en : mOverlap (.tup xs) = (xs.all mStep && decide (xs.length ≤ 1)) := rfl
      rw [en] at q
      have ea : mAll mStep (.tup xs) = xs.all mStep := rfl
      rw [ea]
      cases e1 : xs.all mStep with
      | true =>
        rw [e1, Bool.true_and] at q
        refine ifT rfl (dVar_at rfl ⟨_, _, rfl, rfl, ?_⟩)
        have e2 : decide ((xs.length : Int) ≤ 1) = decide (xs.length ≤ 1) := by
          by_cases h : xs.length ≤ 1
          · rw [decide_eq_true h, decide_eq_true (by omega)]
          · rw [decide_eq_false h, decide_eq_false (by omega)]
        show Q (.bl (decide ((xs.length : Int) ≤ 1))) m
        rw [e2]; exact q
      | false => rw [e1, Bool.false_and] at q; exact ifF rfl q
    | _ => exact iteF q

theorem c_is_signal {f : Addr} {fd : FuncData} (F : Fun K "is_signal" "is_signal" s_is_signal f fd) (hm : mg "is_signal" = some (.ref f)) (c_is_tuple_of : DCal P w K mg base 1 "is_tuple_of" (fun ds m Q => ∃ d n, ds = [d, .int n] ∧ ty d ∧ Q (.bl (mTupN d n)) m))(c_is_gate : DCal P w K mg base 5 "is_gate" (sp1 Ok ty mGate))(c_is_overlap : DCal P w K mg base 8 "is_overlap" (sp1 Ok ty mOverlap)) : DCal P w K mg base 9 "is_signal" (sp1 Ok ty mSignal) := by
  refine dcal F hm (F.binds (ps := ["thing"]) fun _ _ _ _ _ _ us hl => match us, hl with | [_], _ => rfl) sc_is_signal (fun ds m Q h => ?_) (fun cdv A outer s H E hr => ⟨_, (dss_one (ds_ret (de_and (de_call c_is_tuple_of hr (by decide) (by rfl) (da_cons (de_var 0) (da_cons de_int da_nil))) (de_and (de_call c_is_gate hr (by decide) (by rfl) (da_cons (de_slice (de_var 0) dpo_none (dpo_some de_int)) da_nil)) (de_one (de_call c_is_overlap hr (by decide) (by rfl) (da_cons (de_ix (de_var 0) de_int) da_nil))))))), fun ds m Q h => ?_⟩)
  · obtain ⟨d, rfl, _⟩ := h; rfl
  · obtain ⟨d, rfl, hd, hO, q⟩ := h
    dsimp only [dRet, dSeq, dNext, dIfS, dSet, dExpr, dAndV, dOrV, dOp, dUn, dArgs, dCons, dNil, dTup, dC, dB, dNot, dAnd, dOr, dIf, dCall, dAsg, dPar, dChain, dMeth, dM1, dSl, dPart, dNoPart, dFmt, gD]
    refine dVar_at rfl ⟨d, 3, rfl, hd, _, rfl, ?_⟩
    rcases tup3 d with ⟨a, b, c, rfl⟩ | ⟨hn, ne⟩
    · obtain ⟨ha, hb, hc, _⟩ := hd
      refine iteT (dVar_at rfl ⟨_, rfl, ⟨(fun z => absurd z.2 (by show ¬ (2 : Nat) = 3; decide)), .tup [a, b], rfl, ⟨ha, hb, trivial⟩, hO, _, rfl, ?_⟩⟩)
      have en : mSignal (.tup [a, b, c]) = (mGate (.tup [a, b]) && mOverlap c) := rfl
      rw [en] at q
      cases e1 : mGate (.tup [a, b]) with
      | true => rw [e1, Bool.true_and] at q; exact ifT rfl (dVar_at rfl ⟨c, rfl, c, rfl, hc, hO, q⟩)
      | false => rw [e1, Bool.false_and] at q; exact ifF rfl q
    · rw [mSignal_no ne] at q; exact ifF hn q

theorem c_is_plan {f : Addr} {fd : FuncData} (F : Fun K "is_plan" "is_plan" s_is_plan f fd) (hm : mg "is_plan" = some (.ref f)) (c_is_tuple_of : DCal P w K mg base 1 "is_tuple_of" (fun ds m Q => ∃ d n, ds = [d, .int n] ∧ ty d ∧ Q (.bl (mTupN d n)) m)) {a_stretch : Addr} (hm_stretch : mg "is_stretch" = some (.ref a_stretch)) (c_are_items_stretch : DCal P w K mg base 6 "are_items" (fun ds m Q => ∃ d, ds = [d, .ref a_stretch] ∧ ty d ∧ (∀ xs, d = .tup xs → ∀ x ∈ xs, tyS x) ∧ Ok m ∧ Q (.bl (mAll mStretch d)) m)) {a_joint : Addr} (hm_joint : mg "is_joint" = some (.ref a_joint)) (c_are_items_joint : DCal P w K mg base 7 "are_items" (fun ds m Q => ∃ d, ds = [d, .ref a_joint] ∧ ty d ∧ (∀ xs, d = .tup xs → ∀ x ∈ xs, ty x) ∧ Ok m ∧ Q (.bl (mAll mJoint d)) m)) {a_gate : Addr} (hm_gate : mg "is_gate" = some (.ref a_gate)) (c_are_items_gate : DCal P w K mg base 7 "are_items" (fun ds m Q => ∃ d, ds = [d, .ref a_gate] ∧ ty d ∧ (∀ xs, d = .tup xs → ∀ x ∈ xs, ty x) ∧ Ok m ∧ Q (.bl (mAll mGate d)) m)) {a_signal : Addr} (hm_signal : mg "is_signal" = some (.ref a_signal)) (c_are_items_signal : DCal P w K mg base 11 "are_items" (fun ds m Q => ∃ d, ds = [d, .ref a_signal] ∧ ty d ∧ (∀ xs, d = .tup xs → ∀ x ∈ xs, ty x) ∧ Ok m ∧ Q (.bl (mAll mSignal d)) m)) : DCal P w K mg base 12 "is_plan" (sp1 Ok tyP mPlan) := by
  refine dcal F hm (F.binds (ps := ["thing"]) fun _ _ _ _ _ _ us hl => match us, hl with | [_], _ => rfl) sc_is_plan (fun ds m Q h => ?_) (fun cdv A outer s H E hr => ⟨_, (dss_cons (ds_if (dt_not (dt_val (de_call c_is_tuple_of hr (by decide) (by rfl) (da_cons (de_var 0) (da_cons de_int da_nil))))) (dss_one (ds_ret de_bl)) dss_nil)
      (dss_cons (ds_asg (de_var 0) (dg_tup rfl (dgs_cons (pg_name (i := 1) sc_is_plan.nd rfl (by first | exact Or.inl rfl | exact Or.inr rfl)) (dgs_cons (pg_name (i := 2) sc_is_plan.nd rfl (by first | exact Or.inl rfl | exact Or.inr rfl)) (dgs_cons (pg_name (i := 3) sc_is_plan.nd rfl (by first | exact Or.inl rfl | exact Or.inr rfl)) (dgs_cons (pg_name (i := 4) sc_is_plan.nd rfl (by first | exact Or.inl rfl | exact Or.inr rfl)) dgs_nil))))))
      (dss_cons (ds_if (dt_w (dw_or (dt_not (dt_val (de_call c_are_items_stretch hr (by decide) (by rfl) (da_cons (de_var 1) (da_cons (de_globR (by rfl) hm_stretch (fun _ => .ref _)) da_nil))))) (dw_or1 (dt_not (dt_val (de_call c_are_items_joint hr (by decide) (by rfl) (da_cons (de_var 2) (da_cons (de_globR (by rfl) hm_joint (fun _ => .ref _)) da_nil)))))))) (dss_one (ds_ret de_bl)) dss_nil)
      (dss_one (ds_ret (de_and (de_call c_are_items_gate hr (by decide) (by rfl) (da_cons (de_var 3) (da_cons (de_globR (by rfl) hm_gate (fun _ => .ref _)) da_nil))) (de_one (de_call c_are_items_signal hr (by decide) (by rfl) (da_cons (de_var 4) (da_cons (de_globR (by rfl) hm_signal (fun _ => .ref _)) da_nil)))))))))), fun ds m Q h => ?_⟩)
  · obtain ⟨d, rfl, _⟩ := h; rfl
  · obtain ⟨d, rfl, ⟨hd, hs⟩, hO, q⟩ := h
    dsimp only [dRet, dSeq, dNext, dIfS, dSet, dExpr, dAndV, dOrV, dOp, dUn, dArgs, dCons, dNil, dTup, dC, dB, dNot, dAnd, dOr, dIf, dCall, dAsg, dPar, dChain, dMeth, dM1, dSl, dPart, dNoPart, dFmt, gD]
    refine dVar_at rfl ⟨d, 4, rfl, hd, _, rfl, ?_⟩
    rcases tup4 d with ⟨a, b, c, e, rfl⟩ | ⟨hn, ne⟩
    · obtain ⟨ha, hb, hc, he, _⟩ := hd
      have hm : ∀ {x : D}, ty x → ∀ xs, x = .tup xs → ∀ y ∈ xs, ty y := fun h xs e y hy => by subst e; exact tys_mem h hy
      refine iteF (dVar_at rfl ⟨_, .inl rfl, rfl, ?_⟩)
      refine dVar_at rfl ⟨a, rfl, ha, (fun xs z y hy => ⟨hm ha xs z y hy, hs a b c e rfl xs z y hy⟩), hO, _, rfl, ?_⟩
      have en : mPlan (.tup [a, b, c, e]) = (mAll mStretch a && mAll mJoint b && (mAll mGate c && mAll mSignal e)) := rfl
      rw [en] at q
      cases e1 : mAll mStretch a with
      | false => rw [e1] at q; exact ifT rfl q
      | true =>
        rw [e1, Bool.true_and] at q
        refine ifF rfl (dVar_at rfl ⟨b, rfl, hb, hm hb, hO, _, rfl, ?_⟩)
        cases e2 : mAll mJoint b with
        | false => rw [e2] at q; exact ifT rfl q
        | true =>
          rw [e2, Bool.true_and] at q
          refine ifF rfl (dVar_at rfl ⟨c, rfl, hc, hm hc, hO, _, rfl, ?_⟩)
          cases e3 : mAll mGate c with
          | false => rw [e3] at q; exact ifF rfl q
          | true => rw [e3, Bool.true_and] at q; exact ifT rfl (dVar_at rfl ⟨e, rfl, he, hm he, hO, q⟩)
    · rw [mPlan_no ne] at q; exact ifT (by rw [hn]; rfl) q

end
end PR

namespace PR
open PySem PySem.Spec PyProof.Rows L2 GA GxR DL PL
abbrev s_end_text : Stmt := top 23
theorem sc_end_text : FnScope ["end", "name", "number"] ["end"] (defScope s_end_text) := ⟨rfl, rfl, rfl, by decide +kernel, rfl, by decide +kernel, by decide +kernel⟩
abbrev s_signal_text : Stmt := top 24
theorem sc_signal_text : FnScope ["signal", "line", "name", "end", "overlap", "stretch", "start", "goal"] ["signal"] (defScope s_signal_text) := ⟨rfl, rfl, rfl, by decide +kernel, rfl, by decide +kernel, by decide +kernel⟩
abbrev s_plan_text : Stmt := top 25
theorem sc_plan_text : FnScope ["plan", "lines", "stretches", "joints", "gates", "signals", "name", "kind", "signal", "one", "other", "end"] ["plan"] (defScope s_plan_text) := ⟨rfl, rfl, rfl, by decide +kernel, rfl, by decide +kernel, by decide +kernel⟩
section
variable {P : Program} {w : World} {K : PySem.W.Frag} {mg : Str → Option Value} {base : Heap} {tl td t8 t3 : Tok} {aK P1 P2 : Addr} (T : Txt K mg tl td t8 t3 aK) (Ok : M → Prop)
include T

theorem c_end_text {f : Addr} {fd : FuncData} (F : Fun K "end_text" "end_text" s_end_text f fd) (hm : mg "end_text" = some (.ref f))  : DCal P w K mg base 1 "end_text" (fun ds m Q => ∃ e, ds = [endD e] ∧ endOk e ∧ Q (.str (endT e)) m) := by
  refine dcal F hm (F.binds (ps := ["end"]) fun _ _ _ _ _ _ us hl => match us, hl with | [_], _ => rfl) sc_end_text (fun ds m Q h => ?_) (fun cdv A outer s H E hr => ⟨_, (dss_cons (ds_asg (de_var 0) (dg_tup rfl (dgs_cons (pg_name (i := 1) sc_end_text.nd rfl (by first | exact Or.inl rfl | exact Or.inr rfl)) (dgs_cons (pg_name (i := 2) sc_end_text.nd rfl (by first | exact Or.inl rfl | exact Or.inr rfl)) dgs_nil))))
      (dss_one (ds_ret (de_joined (.cons (de_fmt (de_var 1)) (.cons de_str (.cons (de_fmt (de_var 2)) .nil))))))), fun ds m Q h => ?_⟩)
  · obtain ⟨e, rfl, _⟩ := h; rfl
  · obtain ⟨e, rfl, ho, q⟩ := h
    dsimp only [dRet, dSeq, dNext, dIfS, dSet, dExpr, dAsg, gD]
    refine dVar_at rfl ⟨[.str e.1, .int e.2], .inl rfl, rfl, ?_⟩
    have h1 := (nameS_len ho.1).2
    have h2 := numT_len ho.2
    refine js_s (y := e.1) (fun R hR => dVar_at rfl hR) (by simp only [len_app, l_emp]; omega) (js_c (by simp only [len_app, l_emp, l_sp]; omega) (js_i (i := e.2) (fun R hR => dVar_at rfl hR) (num_log ho.2) (by simp only [len_app, l_emp, l_sp, h2]; omega) ?_))
    refine js_nil ?_
    rw [emp_app]; exact q

theorem c_signal_text {f : Addr} {fd : FuncData} (F : Fun K "signal_text" "signal_text" s_signal_text f fd) (hm : mg "signal_text" = some (.ref f)) (c_end_text : DCal P w K mg base 1 "end_text" (fun ds m Q => ∃ e, ds = [endD e] ∧ endOk e ∧ Q (.str (endT e)) m)) : DCal P w K mg base 2 "signal_text" (fun ds m Q => ∃ s, ds = [siD s] ∧ siOk s ∧ Q (.str (siT s)) m) := by
  refine dcal F hm (F.binds (ps := ["signal"]) fun _ _ _ _ _ _ us hl => match us, hl with | [_], _ => rfl) sc_signal_text (fun ds m Q h => ?_) (fun cdv A outer s H E hr => ⟨_, (dss_cons (ds_asg (de_var 0) (dg_tup rfl (dgs_cons (pg_name (i := 2) sc_signal_text.nd rfl (by first | exact Or.inl rfl | exact Or.inr rfl)) (dgs_cons (pg_name (i := 3) sc_signal_text.nd rfl (by first | exact Or.inl rfl | exact Or.inr rfl)) (dgs_cons (pg_name (i := 4) sc_signal_text.nd rfl (by first | exact Or.inl rfl | exact Or.inr rfl)) dgs_nil)))))
      (dss_cons (ds_set (i := 1) sc_signal_text.nd rfl (by first | exact Or.inl rfl | exact Or.inr rfl) (de_joined (.cons de_str (.cons (de_fmt (de_var 2)) (.cons de_str (.cons (de_fmt (de_call c_end_text hr (by decide) (by rfl) (da_cons (de_var 3) da_nil))) .nil))))))
      (dss_cons (ds_for PassesOwn.never rfl (dpi_tup (de_var 4)) (dg_tup rfl (dgs_cons (pg_name (i := 5) sc_signal_text.nd rfl (by first | exact Or.inl rfl | exact Or.inr rfl)) (dgs_cons (pg_name (i := 6) sc_signal_text.nd rfl (by first | exact Or.inl rfl | exact Or.inr rfl)) (dgs_cons (pg_name (i := 7) sc_signal_text.nd rfl (by first | exact Or.inl rfl | exact Or.inr rfl)) dgs_nil)))) (dss_one (ds_set (i := 1) sc_signal_text.nd rfl (by first | exact Or.inl rfl | exact Or.inr rfl) (de_joined (.cons (de_fmt (de_var 1)) (.cons de_str (.cons (de_fmt (de_var 5)) (.cons de_str (.cons (de_fmt (de_var 6)) (.cons de_str (.cons (de_fmt (de_var 7)) .nil)))))))))))
      (dss_one (ds_ret (de_var 1)))))), fun ds m Q h => ?_⟩)
  · obtain ⟨e, rfl, _⟩ := h; rfl
  · obtain ⟨⟨nm, en, ov⟩, rfl, ⟨ho1, ho2, ho3⟩, q⟩ := h
    dsimp only at ho1 ho2 ho3
    dsimp only [dRet, dSeq, dNext, dIfS, dSet, dExpr, dAsg, gD]
    refine dVar_at rfl ⟨[.str nm, endD en, ovD ov], .inl rfl, rfl, ?_⟩
    have h1 := (nameS_len ho1).2
    have h2 := endT_len ho2
    refine js_c (by simp only [len_app, l_emp, l_signal]; omega) (js_s (y := nm) (fun R hR => dVar_at rfl hR) (by simp only [len_app, l_emp, l_signal]; omega) (js_c (by simp only [len_app, l_emp, l_signal, l_sp]; omega)
      (js_s (y := endT en) (by intro R hR; dsimp only [dCall, dCons, dNil]; exact dVar_at rfl ⟨en, rfl, ho2, hR⟩) (by simp only [len_app, l_emp, l_signal, l_sp]; omega) (js_nil ?_))))
    have el : Str.empty ++ "signal " ++ nm ++ " " ++ endT en = ("signal " : Str) ++ nm ++ " " ++ endT en := by rw [emp_app]
    rw [el]
    generalize hL : ("signal " : Str) ++ nm ++ " " ++ endT en = L at *
    have hl : L.length ≤ 30 := by rw [← hL]; simp only [len_app, l_signal, l_sp]; omega
    dsimp only [dFor, iT]
    refine dVar_at rfl ?_
    cases ov with
    | none =>
      refine ⟨[], .inl rfl, fun i δ' m' => δ' = _ ∧ m' = m, ⟨rfl, rfl⟩, fun _ _ _ _ => trivial, fun i d δ' m' hd _ => (by simp at hd), ?_⟩
      rintro δ' m' ⟨rfl, rfl⟩
      refine dVar_at rfl ?_
      have e : siT (nm, en, none) = L := hL
      rw [e] at q; exact q
    | some t =>
      have ht := ho3 t rfl
      have k1 := (nameS_len ht.1).2
      have k2 := numT_len ht.2.1
      have k3 := numT_len ht.2.2
      refine ⟨[stepD t], .inl rfl, fun i δ' m' => m' = m ∧ (i = 0 → δ' = _) ∧ (i = 1 → δ'[1]? = some (some (.str (siT (nm, en, some t))))), ⟨rfl, fun _ => rfl, fun e => by cases e⟩, fun _ _ _ _ => trivial, ?_, ?_⟩
      · rintro i d δ' m' hd ⟨rfl, hδ, _⟩
        match i, hd with
        | 0, hd =>
          cases hd
          cases hδ rfl
          refine ⟨[.str t.1, .int t.2.1, .int t.2.2], .inl rfl, rfl, ?_⟩
          refine js_s (y := L) (fun R hR => dVar_at rfl hR) (by simp only [len_app, l_emp]; omega) (js_c (by simp only [len_app, l_emp, l_over]; omega) (js_s (y := t.1) (fun R hR => dVar_at rfl hR) (by simp only [len_app, l_emp, l_over]; omega) (js_c (by simp only [len_app, l_emp, l_over, l_sp]; omega)
            (js_i (i := t.2.1) (fun R hR => dVar_at rfl hR) (num_log ht.2.1) (by simp only [len_app, l_emp, l_over, l_sp]; omega) (js_c (by simp only [len_app, l_emp, l_over, l_sp]; omega) (js_i (i := t.2.2) (fun R hR => dVar_at rfl hR) (num_log ht.2.2) (by simp only [len_app, l_emp, l_over, l_sp]; omega) (js_nil ?_)))))))
          refine ⟨rfl, (fun e => by cases e), fun _ => ?_⟩
          have e : Str.empty ++ L ++ " over " ++ t.1 ++ " " ++ numT t.2.1 ++ " " ++ numT t.2.2 = siT (nm, en, some t) := by
            show _ = (("signal " : Str) ++ nm ++ " " ++ endT en) ++ ovT t
            rw [hL, emp_app]
            unfold ovT
            simp only [app_assoc]
          rw [e]; rfl
        | i + 1, hd => simp at hd
      · rintro δ' m' ⟨rfl, _, hδ⟩
        exact dVar_at (hδ rfl) q

theorem c_plan_text {f : Addr} {fd : FuncData} (F : Fun K "plan_text" "plan_text" s_plan_text f fd) (hm : mg "plan_text" = some (.ref f)) (c_end_text : DCal P w K mg base 1 "end_text" (fun ds m Q => ∃ e, ds = [endD e] ∧ endOk e ∧ Q (.str (endT e)) m))(c_is_plan : DCal P w K mg base 12 "is_plan" (sp1 Ok tyP mPlan)) (c_signal_text : DCal P w K mg base 2 "signal_text" (fun ds m Q => ∃ s, ds = [siD s] ∧ siOk s ∧ Q (.str (siT s)) m)) : DCal P w K mg base 13 "plan_text" (fun ds m Q => ∃ p : Pln, ds = [p.d] ∧ p.Ok ∧ Ok m ∧ ∀ m', Ext m m' → Q (.str (Txt.join "\n" p.lines)) m') ∧ DCalK P w K mg base 13 "plan_text" ["plan"] (fun ds m Q => ∃ p : Pln, ds = [p.d] ∧ p.Ok ∧ Ok m ∧ ∀ m', Ext m m' → Q (.str (Txt.join "\n" p.lines)) m') := by
  refine dcalB F hm (F.binds (ps := ["plan"]) fun _ _ _ _ _ _ us hl => match us, hl with | [_], _ => rfl) (fun _ _ _ _ _ _ ws hl => match ws, hl with | [_], _ => rfl) sc_plan_text (fun ds m Q h => ?_) (fun cdv A outer s H E hr => ⟨_, (dss_cons (ds_if (dt_not (dt_val (de_call c_is_plan hr (by decide) (by rfl) (da_cons (de_var 0) da_nil)))) (dss_one ds_never) dss_nil)
      (dss_cons (ds_asg (de_var 0) (dg_tup rfl (dgs_cons (pg_name (i := 2) sc_plan_text.nd rfl (by first | exact Or.inl rfl | exact Or.inr rfl)) (dgs_cons (pg_name (i := 3) sc_plan_text.nd rfl (by first | exact Or.inl rfl | exact Or.inr rfl)) (dgs_cons (pg_name (i := 4) sc_plan_text.nd rfl (by first | exact Or.inl rfl | exact Or.inr rfl)) (dgs_cons (pg_name (i := 5) sc_plan_text.nd rfl (by first | exact Or.inl rfl | exact Or.inr rfl)) dgs_nil))))))
      (dss_cons (ds_setLc (i := 1) (own := [("name", 6), ("kind", 7)]) rfl sc_plan_text.nd rfl rfl (sw_true rfl rfl rfl (by decide +kernel)) (dpi_tup (de_var 2)) (blkOk_by (N := ["plan", "lines", "stretches", "joints", "gates", "signals", "name", "kind", "signal", "one", "other", "end"]) (sc := defScope s_plan_text) (by decide +kernel)) (fun _ _ _ _ _ => (dg_tup rfl (dgs_cons (pg_name (i := 6) sc_plan_text.nd rfl (by first | exact Or.inl rfl | exact Or.inr rfl)) (dgs_cons (pg_name (i := 7) sc_plan_text.nd rfl (by first | exact Or.inl rfl | exact Or.inr rfl)) dgs_nil)))) (fun _ _ _ _ _ => dpts_nil) (fun _ _ _ _ _ => (de_joined (.cons de_str (.cons (de_fmt (de_var 6)) (.cons de_str (.cons (de_fmt (de_var 7)) .nil)))))))
      (dss_cons (ds_expr (de_extend (de_var 1) (de_lc (own := [("one", 9), ("other", 10)]) rfl sc_plan_text.nd (dpi_tup (de_var 3)) (blkOk_by (N := ["plan", "lines", "stretches", "joints", "gates", "signals", "name", "kind", "signal", "one", "other", "end"]) (sc := defScope s_plan_text) (by decide +kernel)) (fun _ _ _ _ _ => (dg_tup rfl (dgs_cons (pg_name (i := 9) sc_plan_text.nd rfl (by first | exact Or.inl rfl | exact Or.inr rfl)) (dgs_cons (pg_name (i := 10) sc_plan_text.nd rfl (by first | exact Or.inl rfl | exact Or.inr rfl)) dgs_nil)))) (fun _ _ _ _ _ => dpts_nil) (fun _ _ _ _ _ => (de_joined (.cons de_str (.cons (de_fmt (de_call c_end_text hr (by decide) (by rfl) (da_cons (de_var 9) da_nil))) (.cons de_str (.cons (de_fmt (de_call c_end_text hr (by decide) (by rfl) (da_cons (de_var 10) da_nil))) .nil)))))))))
      (dss_cons (ds_expr (de_extend (de_var 1) (de_lc (own := [("name", 6), ("end", 11)]) rfl sc_plan_text.nd (dpi_tup (de_var 4)) (blkOk_by (N := ["plan", "lines", "stretches", "joints", "gates", "signals", "name", "kind", "signal", "one", "other", "end"]) (sc := defScope s_plan_text) (by decide +kernel)) (fun _ _ _ _ _ => (dg_tup rfl (dgs_cons (pg_name (i := 6) sc_plan_text.nd rfl (by first | exact Or.inl rfl | exact Or.inr rfl)) (dgs_cons (pg_name (i := 11) sc_plan_text.nd rfl (by first | exact Or.inl rfl | exact Or.inr rfl)) dgs_nil)))) (fun _ _ _ _ _ => dpts_nil) (fun _ _ _ _ _ => (de_joined (.cons de_str (.cons (de_fmt (de_var 6)) (.cons de_str (.cons (de_fmt (de_call c_end_text hr (by decide) (by rfl) (da_cons (de_var 11) da_nil))) .nil)))))))))
      (dss_cons (ds_expr (de_extend (de_var 1) (de_lc (own := [("signal", 8)]) rfl sc_plan_text.nd (dpi_tup (de_var 5)) (blkOk_by (N := ["plan", "lines", "stretches", "joints", "gates", "signals", "name", "kind", "signal", "one", "other", "end"]) (sc := defScope s_plan_text) (by decide +kernel)) (fun _ _ _ _ _ => (dg_name (i := 8) sc_plan_text.nd rfl (by first | exact Or.inl rfl | exact Or.inr rfl))) (fun _ _ _ _ _ => dpts_nil) (fun _ _ _ _ _ => (de_call c_signal_text hr (by decide) (by rfl) (da_cons (de_var 8) da_nil))))))
      (dss_one (ds_ret (de_join de_str (de_var 1)))))))))), fun ds m Q h => ?_⟩)
  · obtain ⟨e, rfl, _⟩ := h; rfl
  · obtain ⟨p, rfl, hp, hO, q⟩ := h
    dsimp only [dRet, dSeq, dNext, dIfS, dSet, dExpr, dAsg, gD, dNot, dB, dCall, dCons, dNil, dMeth, dM1]
    refine dVar_at rfl ⟨p.d, rfl, plan_ty hp, hO, _, rfl, ?_⟩
    refine ifF (by rw [mPlan_ok hp]; rfl) ?_
    refine dVar_at rfl ⟨[_, _, _, _], .inl rfl, rfl, ?_⟩
    refine dLC_gen (I := fun _ => True) (Rel := fun d o => ∃ a, d = strD a ∧ strOk' a ∧ o = some (.str (stT a))) trivial (fun _ _ _ _ => trivial) (iT_w (xs := p.st.map strD) fun R hR => dVar_at rfl hR) (slk (by rw [List.length_map]; have := hp.n1; omega)) (fun d hd m' _ _ Ry Rn hy hn => ?_) (fun pl m1 ys hpl hE1 _ hm1 ho1 => ?_)
    · obtain ⟨s, hs, rfl⟩ := List.mem_map.mp hd
      have ho := hp.st s hs
      have h1 := (nameS_len ho.1).2
      have h2 := kind_len ho.2
      refine ⟨[.str s.1, .str s.2], .inl rfl, rfl, yesT ?_⟩
      refine js_c (by simp only [len_app, l_emp, l_stretch]; omega) (js_s (y := s.1) (fun R hR => dVar_at rfl hR) (by simp only [len_app, l_emp, l_stretch]; omega) (js_c (by simp only [len_app, l_emp, l_stretch, l_sp]; omega) (js_s (y := s.2) (fun R hR => dVar_at rfl hR) (by simp only [len_app, l_emp, l_stretch, l_sp]; omega) (js_nil ?_))))
      exact hy _ _ ⟨s, rfl, ho, by rw [emp_app]; rfl⟩ (Ext.refl _)
    have e1 := ho1.mapOf (h := fun a => D.str (stT a)) fun a b e => by rw [strD_inj e]
    subst e1
    refine dVar_at rfl ⟨⟨pl, _, rfl, hm1⟩, ?_⟩
    refine dLC_gen (I := fun _ => True) (Rel := fun d o => ∃ a, d = joD a ∧ joOk a ∧ o = some (.str (joT a))) trivial (fun _ _ _ _ => trivial) (iT_w (xs := p.jo.map joD) fun R hR => dVar_at rfl hR) (slk (by rw [List.length_map]; have := hp.n2; omega)) (fun d hd m' _ _ Ry Rn hy hn => ?_) (fun p2 m2 ys hp2 hE2 _ hm2 ho2 => ?_)
    · obtain ⟨s, hs, rfl⟩ := List.mem_map.mp hd
      have ho := hp.jo s hs
      have h1 := endT_len ho.1
      have h2 := endT_len ho.2
      refine ⟨[endD s.1, endD s.2], .inl rfl, rfl, yesT ?_⟩
      refine js_c (by simp only [len_app, l_emp, l_join]; omega) (js_s (y := endT s.1) (fun R hR => dVar_at rfl ⟨s.1, rfl, ho.1, hR⟩) (by simp only [len_app, l_emp, l_join]; omega) (js_c (by simp only [len_app, l_emp, l_join, l_sp]; omega) (js_s (y := endT s.2) (fun R hR => dVar_at rfl ⟨s.2, rfl, ho.2, hR⟩) (by simp only [len_app, l_emp, l_join, l_sp]; omega) (js_nil ?_))))
      exact hy _ _ ⟨s, rfl, ho, by rw [emp_app]; rfl⟩ (Ext.refl _)
    have e2 := ho2.mapOf (h := fun a => D.str (joT a)) fun a b e => by rw [joD_inj e]
    subst e2
    refine ⟨pl, p2, _, _, rfl, rfl, hE2.old _ _ hm1, hm2, slk (by simp only [List.length_map]; have := hp.n1; have := hp.n2; omega), ?_⟩
    have hE3 : Ext m (m2.set pl (.lst (p.st.map (fun a => D.str (stT a)) ++ p.jo.map fun a => D.str (joT a)))) := (hE1.trans hE2).set hpl
    generalize hM3 : m2.set pl (.lst (p.st.map (fun a => D.str (stT a)) ++ p.jo.map fun a => D.str (joT a))) = m3 at hE3 ⊢
    have hm3 : m3.mu pl = some (.lst (p.st.map (fun a => D.str (stT a)) ++ p.jo.map fun a => D.str (joT a))) := by rw [← hM3]; exact M.set_same
    refine dVar_at rfl ⟨⟨pl, _, rfl, hm3⟩, ?_⟩
    refine dLC_gen (I := fun _ => True) (Rel := fun d o => ∃ a, d = gaD a ∧ gaOk a ∧ o = some (.str (gaT a))) trivial (fun _ _ _ _ => trivial) (iT_w (xs := p.ga.map gaD) fun R hR => dVar_at rfl hR) (slk (by rw [List.length_map]; have := hp.n3; omega)) (fun d hd m' _ _ Ry Rn hy hn => ?_) (fun p4 m4 ys hp4 hE4 _ hm4 ho4 => ?_)
    · obtain ⟨s, hs, rfl⟩ := List.mem_map.mp hd
      have ho := hp.ga s hs
      have h1 := (nameS_len ho.1).2
      have h2 := endT_len ho.2
      refine ⟨[.str s.1, endD s.2], .inl rfl, rfl, yesT ?_⟩
      refine js_c (by simp only [len_app, l_emp, l_gate]; omega) (js_s (y := s.1) (fun R hR => dVar_at rfl hR) (by simp only [len_app, l_emp, l_gate]; omega) (js_c (by simp only [len_app, l_emp, l_gate, l_sp]; omega) (js_s (y := endT s.2) (fun R hR => dVar_at rfl ⟨s.2, rfl, ho.2, hR⟩) (by simp only [len_app, l_emp, l_gate, l_sp]; omega) (js_nil ?_))))
      exact hy _ _ ⟨s, rfl, ho, by rw [emp_app]; rfl⟩ (Ext.refl _)
    have e4 := ho4.mapOf (h := fun a => D.str (gaT a)) fun a b e => by rw [gaD_inj e]
    subst e4
    refine ⟨pl, p4, _, _, rfl, rfl, hE4.old _ _ hm3, hm4, slk (by simp only [List.length_map, List.length_append]; have := hp.n1; have := hp.n2; have := hp.n3; omega), ?_⟩
    have hE5 := (hE3.trans hE4).set (o := .lst (p.st.map (fun a => D.str (stT a)) ++ p.jo.map (fun a => D.str (joT a)) ++ p.ga.map fun a => D.str (gaT a))) hpl
    generalize hM5 : m4.set pl (.lst (p.st.map (fun a => D.str (stT a)) ++ p.jo.map (fun a => D.str (joT a)) ++ p.ga.map fun a => D.str (gaT a))) = m5 at hE5 ⊢
    have hm5 : m5.mu pl = some (.lst (p.st.map (fun a => D.str (stT a)) ++ p.jo.map (fun a => D.str (joT a)) ++ p.ga.map fun a => D.str (gaT a))) := by rw [← hM5]; exact M.set_same
    refine dVar_at rfl ⟨⟨pl, _, rfl, hm5⟩, ?_⟩
    refine dLC_gen (I := fun _ => True) (Rel := fun d o => ∃ a, d = siD a ∧ siOk a ∧ o = some (.str (siT a))) trivial (fun _ _ _ _ => trivial) (iT_w (xs := p.si.map siD) fun R hR => dVar_at rfl hR) (slk (by rw [List.length_map]; have := hp.n4; omega)) (fun d hd m' _ _ Ry Rn hy hn => ?_) (fun p6 m6 ys hp6 hE6 _ hm6 ho6 => ?_)
    · obtain ⟨s, hs, rfl⟩ := List.mem_map.mp hd
      have ho := hp.si s hs
      dsimp only [gD, dCall, dCons, dNil]
      refine yesT ?_
      exact dVar_at rfl ⟨s, rfl, ho, hy _ _ ⟨s, rfl, ho, rfl⟩ (Ext.refl _)⟩
    have e6 := ho6.mapOf (h := fun a => D.str (siT a)) fun a b e => by rw [siD_inj e]
    subst e6
    refine ⟨pl, p6, _, _, rfl, rfl, hE6.old _ _ hm5, hm6, slk (by simp only [List.length_map, List.length_append]; have := hp.n1; have := hp.n2; have := hp.n3; have := hp.n4; omega), ?_⟩
    have hE7 := (hE5.trans hE6).set (o := .lst (p.st.map (fun a => D.str (stT a)) ++ p.jo.map (fun a => D.str (joT a)) ++ p.ga.map (fun a => D.str (gaT a)) ++ p.si.map fun a => D.str (siT a))) hpl
    refine ⟨⟨_, rfl⟩, dVar_at rfl ⟨"\n", .ref pl, p.lines, rfl, rfl, .inr (.inr ⟨pl, rfl, ?_⟩), hp.size, q _ hE7⟩⟩
    rw [M.set_same]
    unfold Pln.lines
    simp only [List.map_append, List.map_map]
    rfl


end
end PR

namespace PR
open PySem PySem.Spec PyProof.Rows L2 GA GxR DL PL
abbrev s_law_deck : Stmt := top 27
theorem sc_law_deck : FnScope ["script", "mixed", "cell"] ["script"] (defScope s_law_deck) := ⟨rfl, rfl, rfl, by decide +kernel, rfl, by decide +kernel, by decide +kernel⟩
abbrev s_law_draw : Stmt := top 28
theorem sc_law_draw : FnScope ["deck", "many", "number", "cell"] ["deck", "many"] (defScope s_law_draw) := ⟨rfl, rfl, rfl, by decide +kernel, rfl, by decide +kernel, by decide +kernel⟩
structure TxtL (mg : Str → Option Value) : Prop where
  len : mg "len" = none
  isinstance : mg "isinstance" = none
  range : mg "range" = none
  str : mg "str" = none
  list : mg "list" = none
  tuple : mg "tuple" = none
  int : mg "int" = none
  max : mg "max" = none
  enumerate : mg "enumerate" = none
section
variable {P : Program} {w : World} {K : PySem.W.Frag} {mg : Str → Option Value} {base : Heap} (T : TxtL mg)
include T

theorem c_law_deck {f : Addr} {fd : FuncData} (F : Fun K "_law_deck" "_law_deck" s_law_deck f fd) (hm : mg "_law_deck" = some (.ref f))  : DCal P w K mg base 1 "_law_deck" (fun ds m Q => ∃ (aS : Addr) (ns : List Int), ds = [.ref aS] ∧ (∀ H, m.gh.inv H → SqL K H aS (ns.map V.int)) ∧ ns.length ≤ 63 ∧ ∀ aD aC m', Ext m m' → m.mu aD = none → m.mu aC = none → aD ≠ aC → DeckAt m' aD aC → Q (.ref aD) m') := by
  refine dcal F hm (F.binds (ps := ["script"]) fun _ _ _ _ _ _ us hl => match us, hl with | [_], _ => rfl) sc_law_deck (fun ds m Q h => ?_) (fun cdv A outer s H E hr => ⟨_, (dss_cons (ds_set (i := 1) sc_law_deck.nd rfl (by first | exact Or.inl rfl | exact Or.inr rfl) de_int)
      (dss_cons (ds_for PassesOwn.never rfl (dpi_list (de_sliceG (de_var 0) dpo_none (dpo_some de_int))) (dg_name (i := 2) sc_law_deck.nd rfl (by first | exact Or.inl rfl | exact Or.inr rfl)) (dss_one (ds_set (i := 1) sc_law_deck.nd rfl (by first | exact Or.inl rfl | exact Or.inr rfl) (de_mod (de_bty call_int1 argl_int (by rfl) T.int (by decide +kernel) (da_cons (de_add (de_add (de_mul (de_var 1) de_int) (de_mod (de_bty call_int1 argl_int (by rfl) T.int (by decide +kernel) (da_cons (de_var 2) da_nil)) de_int)) de_int) da_nil)) de_int))))
      (dss_one (ds_ret (de_disp (.cons (de_revL (de_bty call_list_of argl_list (by rfl) T.list (by decide +kernel) (da_cons (de_sliceG (de_var 0) dpo_none (dpo_some de_int)) da_nil))) (.cons (de_var 1) (.cons de_int .nil)))))))), fun ds m Q h => ?_⟩)
  · obtain ⟨aS, ns, rfl, _⟩ := h; rfl
  · obtain ⟨aS, ns, rfl, hm, hl, q⟩ := h
    dsimp only [dRet, dSeq, dNext, dIfS, dSet, dExpr, dAsg, dPar, gD, dOp, dUn, dArgs, dCons, dNil, dC, dB, dNot, dCall, dMeth, dMeth0, dIf, dLst, dTup]
    dsimp only [dFor, iL, dSlG, dNoPart, dPart, dC]
    refine dVar_at rfl ⟨63, rfl, aS, ns, rfl, hm, fun p hp => ⟨p, _, rfl, M.set_same, ?_⟩⟩
    rw [cutL_map]
    have hl1 := cutL_le ns none (some 63)
    generalize cutL ns none (some 63) = ns1 at hl1 ⊢
    refine ⟨fun i δ m' => m' = m.set p (.lst (ns1.map D.int)) ∧ δ[0]? = some (some (.ref aS)) ∧ ∃ x : Int, 0 ≤ x ∧ x < 2147483587 ∧ δ[1]? = some (some (.int x)) ∧ δ.length = 3, ⟨rfl, rfl, 13747202, by decide, by decide, rfl, rfl⟩, fun i δ m' h => ?_, ?_, ?_⟩
    · rw [h.1]; exact M.set_same
    · rintro i d δ m' hd ⟨rfl, hδ, x, h1, h2, hx, hlen⟩
      rw [List.getElem?_map] at hd
      obtain ⟨c, hc, rfl⟩ : ∃ c, ns1[i]? = some c ∧ d = D.int c := by
        cases e : ns1[i]? with
        | none => rw [e] at hd; cases hd
        | some c => rw [e] at hd; cases hd; exact ⟨c, rfl, rfl⟩
      match δ, hlen with
      | [d0, d1, d2], _ =>
        dsimp only [dSet, dOp, dArgs, dCons, dNil, dC, gD]
        exact dVar_at hx (rI (Or.inr ⟨by decide, by decide⟩) (dVar_at rfl (iI (rI (by decide) (aI (aI (iI (rI (by decide) ⟨rfl, hδ, _, (emod_lt' (by decide)).1, (emod_lt' (by decide)).2, rfl, rfl⟩))))))))
    · rintro δ m' ⟨rfl, hδ, x, h1, h2, hx, hlen⟩
      dsimp only [dDisp, dPairs, dRevL, dArgs, dCons, dNil, dSlG, dNoPart, dPart, dC]
      intro pD hD
      have e1 : m.mu pD = none := by
        by_cases z : pD = p
        · subst z; rw [M.set_same] at hD; cases hD
        · rw [M.set_ne z] at hD; exact hD
      have E0 : Ext m ((m.set p (.lst (ns1.map D.int))).set pD (.dic [])) := (Ext.new hp).set e1
      generalize hM0 : (m.set p (.lst (ns1.map D.int))).set pD (.dic []) = m0 at E0 ⊢
      have e0 : m0.mu pD = some (.dic []) := by rw [← hM0]; exact M.set_same
      refine dVar_at hδ ⟨63, rfl, aS, ns, rfl, (fun H i => hm H (by rw [E0.gh] at i; exact i)), fun p2 hp2 => ⟨_, _, rfl, .inr (.inr ⟨p2, rfl, M.set_same⟩), fun p3 hp3 => ⟨p3, _, rfl, M.set_same, fun p4 hp4 => dVar_at hx ?_⟩⟩⟩
      rw [cutL_map] at hp3 hp4 ⊢
      rw [← List.map_reverse]
      have hl2 := cutL_le ns none (some 63)
      generalize cutL ns none (some 63) = ns2 at hl2 hp4 hp3 ⊢
      have E1 : Ext m0 (((m0.set p2 (.lst (ns2.map D.int))).set p3 (.lst (ns2.map D.int))).set p4 (.lst (ns2.reverse.map D.int))) := (((Ext.new hp2).trans (Ext.new hp3)).trans (Ext.new hp4))
      have e4 : (((m0.set p2 (.lst (ns2.map D.int))).set p3 (.lst (ns2.map D.int))).set p4 (.lst (ns2.reverse.map D.int))).mu p4 = some (.lst (ns2.reverse.map D.int)) := M.set_same
      have f4 : m0.mu p4 = none := by
        cases e : m0.mu p4 with
        | none => rfl
        | some o => rw [((Ext.new hp2).trans (Ext.new hp3)).old _ _ e] at hp4; cases hp4
      generalize (((m0.set p2 (.lst (ns2.map D.int))).set p3 (.lst (ns2.map D.int))).set p4 (.lst (ns2.reverse.map D.int))) = m4 at E1 e4 ⊢
      have ne : pD ≠ p4 := fun z => by subst z; rw [e0] at f4; cases f4
      have f4m : m.mu p4 = none := by
        cases e : m.mu p4 with
        | none => rfl
        | some o => rw [E0.old _ _ e] at f4; cases f4
      refine ⟨E1.old _ _ e0, q pD p4 _ ((E0.trans E1).set e1) e1 f4m ne ⟨x, 0, ns2.reverse, ?_, ?_, h1, h2, by decide, by rw [List.length_reverse]; omega⟩⟩
      · rw [M.set_same]; with_unfolding_all rfl
      · rw [M.set_ne ne.symm]; exact e4


theorem c_law_draw {f : Addr} {fd : FuncData} (F : Fun K "_law_draw" "_law_draw" s_law_draw f fd) (hm : mg "_law_draw" = some (.ref f))  : DCal P w K mg base 1 "_law_draw" spDraw := by
  refine dcal F hm (F.binds (ps := ["deck", "many"]) fun _ _ _ _ _ _ us hl => match us, hl with | [_, _], _ => rfl) sc_law_draw (fun ds m Q h => ?_) (fun cdv A outer s H E hr => ⟨_, (dss_cons (ds_dput hr (de_var 0) de_str (de_add (de_dget hr (de_var 0) de_str) de_int))
      (dss_cons (ds_set (i := 2) sc_law_draw.nd rfl (by first | exact Or.inl rfl | exact Or.inr rfl) (de_add (de_dget hr (de_var 0) de_str) (de_mul de_int (de_dget hr (de_var 0) de_str))))
      (dss_cons (ds_if (dt_cmp (dc_ne hr) (de_dget hr (de_var 0) de_str) (de_lst da_nil)) (dss_cons (ds_set (i := 3) sc_law_draw.nd rfl (by first | exact Or.inl rfl | exact Or.inr rfl) (de_pop (de_dget hr (de_var 0) de_str)))
      (dss_cons (ds_if (dt_cmp dc_ge (de_var 3) (de_pow de_int de_int)) (dss_cons (ds_expr (de_append (de_dget hr (de_var 0) de_str) (de_fdiv (de_var 3) (de_blt (call_max2 rfl) argl_max (by rfl) T.max (by decide +kernel) (da_cons de_int (da_cons (de_var 1) da_nil))))))
      (dss_one (ds_ret (de_mod (de_bty call_int1 argl_int (by rfl) T.int (by decide +kernel) (da_cons (de_var 3) da_nil)) (de_var 1))))) dss_nil)
      (dss_one (ds_set (i := 2) sc_law_draw.nd rfl (by first | exact Or.inl rfl | exact Or.inr rfl) (de_add (de_var 2) (de_mod (de_bty call_int1 argl_int (by rfl) T.int (by decide +kernel) (da_cons (de_var 3) da_nil)) de_int)))))) dss_nil)
      (dss_cons (ds_set (i := 2) sc_law_draw.nd rfl (by first | exact Or.inl rfl | exact Or.inr rfl) (de_mod (de_bty call_int1 argl_int (by rfl) T.int (by decide +kernel) (da_cons (de_add (de_mul (de_var 2) de_int) de_int) da_nil)) de_int))
      (dss_cons (ds_set (i := 2) sc_law_draw.nd rfl (by first | exact Or.inl rfl | exact Or.inr rfl) (de_mod (de_bty call_int1 argl_int (by rfl) T.int (by decide +kernel) (da_cons (de_add (de_add (de_mul (de_var 2) (de_var 2)) (de_mul de_int (de_dget hr (de_var 0) de_str))) de_int) da_nil)) de_int))
      (dss_cons (ds_set (i := 2) sc_law_draw.nd rfl (by first | exact Or.inl rfl | exact Or.inr rfl) (de_mod (de_bty call_int1 argl_int (by rfl) T.int (by decide +kernel) (da_cons (de_mul (de_var 2) de_int) da_nil)) de_int))
      (dss_one (ds_ret (de_mod (de_bty call_int1 argl_int (by rfl) T.int (by decide +kernel) (da_cons (de_fdiv (de_var 2) de_int) da_nil)) (de_var 1)))))))))), fun ds m Q h => ?_⟩)
  · obtain ⟨aD, aC, n, rfl, _⟩ := h; rfl
  · obtain ⟨aD, aC, n, rfl, hn, hn2, hne, hd, q⟩ := h
    obtain ⟨x, k, ns, e1, e2, x1, x2, k1, nl⟩ := hd.ex
    have big : (52713 : Int) < 2 ^ 64 ∧ (61473 : Int) < 2 ^ 64 ∧ (39373 : Int) < 2 ^ 64 ∧ (40692 : Int) < 2 ^ 64 := by decide
    have g1 : ∀ {m' : M} {c : Int}, m'.mu aD = some (.dic (deckD aC x c)) → GetD m' aD (.str "draws") (some (.int c)) := fun h => .inl ⟨_, .inr "draws", h, rfl, dk_draws.symm⟩
    have g2 : ∀ {m' : M} {c : Int}, m'.mu aD = some (.dic (deckD aC x c)) → GetD m' aD (.str "mixed") (some (.int x)) := fun h => .inl ⟨_, .inr "mixed", h, rfl, dk_mixed.symm⟩
    have g3 : ∀ {m' : M} {c : Int}, m'.mu aD = some (.dic (deckD aC x c)) → GetD m' aD (.str "cells") (some (.ref aC)) := fun h => .inl ⟨_, .inr "cells", h, rfl, dk_cells.symm⟩
    have hk : 0 ≤ k + 1 := by omega
    refine seqR3 (fun δ m2 => (∃ (nb : Int) (d : Option D), δ = [some (.ref aD), some (.int n), some (.int nb), d]) ∧ Step' m m2 aD aC ∧ ∃ k2, m2.mu aD = some (.dic (deckD aC x k2))) ?_ fun R hR => ?_
    · rintro δ m2 ⟨⟨nb, d, rfl⟩, hs, k2, hk2⟩
      dsimp only [dRet, dSeq, dNext, dIfS, dSet, dExpr, dAsg, dPar, gD, dOp, dUn, dArgs, dCons, dNil, dC, dB, dNot, dCall, dMeth, dMeth0, dIf, dLst, dTup]
      dsimp only [dDPut, dDGet, dIfS, dOp, dB, dC, dLst, dNil, dCons, dArgs]
      refine dVar_at rfl (rI (Or.inr ⟨by decide, big.2.2.1⟩) (aI (iI (rI (by decide) ?_))))
      obtain ⟨l1, l2⟩ := emod_lt' (x := nb * 39373 + 67) (n := 2147483647) (by decide)
      generalize (nb * 39373 + 67) % 2147483647 = y1 at l1 l2 ⊢
      refine dVar_at rfl (dVar_at rfl (rI (Or.inl ⟨by omega, by omega⟩) (dVar_at rfl ⟨aD, _, rfl, g1 hk2, rI (Or.inl ⟨by decide, big.1⟩) (aI (aI (iI (rI (by decide) ?_))))⟩)))
      generalize (y1 * y1 + 52713 * k2 + 29) % 2147483587 = y2
      refine dVar_at rfl (rI (Or.inr ⟨by decide, big.2.2.2⟩) (iI (rI (by decide) ?_)))
      generalize y2 * 40692 % 2147483563 = y3
      exact dVar_at rfl (rI ⟨by decide, by decide⟩ (iI (dVar_at rfl (rI hn (q _ _ (emod_lt' hn).1 (emod_lt' hn).2 hs)))))
    dsimp only [dRet, dSeq, dNext, dIfS, dSet, dExpr, dAsg, dPar, gD, dOp, dUn, dArgs, dCons, dNil, dC, dB, dNot, dCall, dMeth, dMeth0, dIf, dLst, dTup]
    dsimp only [dDPut, dDGet, dIfS, dOp, dB, dC, dLst, dNil, dCons, dArgs]
    refine dVar_at rfl ⟨aD, _, rfl, g1 e1, aI (dVar_at rfl ⟨aD, rfl, .inl ⟨_, .inr "draws", e1, rfl, (by show 3 < sizeLine; decide), ?_⟩⟩)⟩
    rw [dk_put]
    have e3 : (m.set aD (.dic (deckD aC x (k + 1)))).mu aC = some (.lst (ns.map D.int)) := by rw [M.set_ne hne.symm]; exact e2
    have e4 : (m.set aD (.dic (deckD aC x (k + 1)))).mu aD = some (.dic (deckD aC x (k + 1))) := M.set_same
    have e5 : ∀ a o, a ≠ aD → a ≠ aC → m.mu a = some o → (m.set aD (.dic (deckD aC x (k + 1)))).mu a = some o := fun a o z1 z2 h => by rw [M.set_ne z1]; exact h
    have e6 : (m.set aD (.dic (deckD aC x (k + 1)))).gh = m.gh := rfl
    have e4' : (m.set aD (.dic [(.inr "cells", .ref aC), (.inr "mixed", .int x), (.inr "draws", .int (k + 1))])) = m.set aD (.dic (deckD aC x (k + 1))) := rfl
    rw [e4']
    generalize m.set aD (.dic (deckD aC x (k + 1))) = m1 at e3 e4 e5 e6 ⊢
    generalize k + 1 = k2 at e3 e4 e5 e6 hk ⊢
    refine dVar_at rfl ⟨aD, _, rfl, g2 e4, dVar_at rfl ⟨aD, _, rfl, g1 e4, rI (Or.inl ⟨by decide, big.2.1⟩) (aI ?_)⟩⟩
    generalize x + 61473 * k2 = nb
    refine dVar_at rfl ⟨aD, _, rfl, g3 e4, (by decide), fun p hp => ?_⟩
    have E1 : Ext m1 (m1.set p (.lst [])) := Ext.new hp
    refine ne_nil (E1.old _ _ e3) M.set_same (fun d hd => ?_) ⟨_, rfl, ?_⟩
    · obtain ⟨c, _, rfl⟩ := List.mem_map.mp hd; exact Fine.int c
    have e3 := E1.old _ _ e3
    have e4 := E1.old _ _ e4
    have e5 : ∀ a o, a ≠ aD → a ≠ aC → m.mu a = some o → (m1.set p (.lst [])).mu a = some o := fun a o z1 z2 h => E1.old _ _ (e5 a o z1 z2 h)
    have e6 : (m1.set p (.lst [])).gh = m.gh := e6
    generalize m1.set p (.lst []) = m2 at e3 e4 e5 e6 ⊢
    refine iff_T (fun hc => ?_) fun hc => ?_
    · obtain ⟨ns', c, rfl⟩ : ∃ ns' c, ns = ns' ++ [c] := by
        rcases List.eq_nil_or_concat ns with rfl | ⟨l, c, rfl⟩
        · cases hc
        · exact ⟨l, c, by simp⟩
      rw [List.map_append] at e3
      refine dVar_at rfl ⟨aD, _, rfl, g3 e4, ⟨aC, _, rfl, e3⟩, aC, _, .int c, rfl, rfl, e3, (by simp), ?_⟩
      have e7 : (ns'.map D.int ++ [c].map D.int).dropLast = ns'.map D.int := by simp
      rw [e7]
      have f3 : (m2.set aC (.lst (ns'.map D.int))).mu aC = some (.lst (ns'.map D.int)) := M.set_same
      have f4 : (m2.set aC (.lst (ns'.map D.int))).mu aD = some (.dic (deckD aC x k2)) := by rw [M.set_ne hne]; exact e4
      have f5 : ∀ a o, a ≠ aD → a ≠ aC → m.mu a = some o → (m2.set aC (.lst (ns'.map D.int))).mu a = some o := fun a o z1 z2 h => by rw [M.set_ne z2]; exact e5 a o z1 z2 h
      have f6 : (m2.set aC (.lst (ns'.map D.int))).gh = m.gh := e6
      generalize m2.set aC (.lst (ns'.map D.int)) = m3 at f3 f4 f5 f6 ⊢
      have nl' : ns'.length ≤ 62 := by simp at nl; omega
      refine dVar_at rfl (rI ⟨by decide, by decide, by decide⟩ (bI ⟨_, rfl, iff_T (fun hb => ?_) fun hb => ?_⟩))
      · have hj : 2 ≤ (if n > 2 then n else 2) ∧ (if n > 2 then n else 2) < 1073741824 := by split <;> omega
        refine dVar_at rfl ⟨aD, _, rfl, g3 f4, ⟨aC, _, rfl, f3⟩, dVar_at rfl (dVar_at rfl ⟨2, n, rfl, rI ⟨by omega, hj.2⟩ ⟨aC, _, _, rfl, rfl, f3, slk (by rw [List.length_map]; omega), ?_⟩⟩)⟩
        have e8 : ns'.map D.int ++ [D.int (c / if n > 2 then n else 2)] = (ns' ++ [c / if n > 2 then n else 2]).map D.int := by simp
        rw [e8]
        refine dVar_at rfl (iI (dVar_at rfl (rI hn (q _ _ (emod_lt' hn).1 (emod_lt' hn).2 ⟨f6, fun a o z1 z2 h => ?_, x, k2, _, ?_, M.set_same, x1, x2, hk, ?_⟩))))
        · rw [M.set_ne z2]; exact f5 a o z1 z2 h
        · rw [M.set_ne hne]; exact f4
        · rw [List.length_append]; show ns'.length + 1 ≤ 63; omega
      · exact dVar_at rfl (dVar_at rfl (iI (rI (by decide) (aI (hR _ _ ⟨⟨_, _, rfl⟩, ⟨f6, f5, x, k2, ns', f4, f3, x1, x2, hk, by omega⟩, k2, f4⟩)))))
    · exact hR _ _ ⟨⟨nb, _, rfl⟩, ⟨e6, e5, x, k2, ns, e4, e3, x1, x2, hk, nl⟩, k2, e4⟩


end
end PR

namespace PL
open PySem PySem.Spec PyProof.Rows L2 GA GxR DL
/-! ### names -/
def lowC (c : Nat) : Bool := decide (c ∈ lettersS.cps.toList)
def sgnC (c : Nat) : Bool := decide (c ∈ lettersDS.cps.toList)
theorem nameS_of {s : Str} {c : Nat} {l : List Nat} (h : s.cps.toList = c :: l) (h1 : lowC c = true) (h2 : sgnC c = true) (h3 : ∀ x ∈ l, sgnC x = true) (h4 : l.length ≤ 7) : nameS s = true := by
  have hl : s.length = l.length + 1 := by rw [len_list, h]; rfl
  unfold nameS
  rw [hl, decide_eq_true (show 1 ≤ l.length + 1 by omega), decide_eq_true (show l.length + 1 ≤ 8 by omega), h]
  show (true && true && lowC c && (sgnC c && l.all fun x => sgnC x)) = true
  rw [h1, h2, List.all_eq_true.mpr h3]; rfl
theorem let26 : ∀ n : Fin 26, ((atI lettersDS.cps.toList ((n.val : Nat) : Int)).any fun c => lowC c && sgnC c) = true := by decide +kernel
theorem let36 : ∀ n : Fin 36, ((atI lettersDS.cps.toList ((n.val : Nat) : Int)).any fun c => sgnC c) = true := by decide +kernel
theorem ix26 {r : Int} (h0 : 0 ≤ r) (h1 : r < 26) : ∃ c, atI lettersDS.cps.toList r = some c ∧ lowC c = true ∧ sgnC c = true := by
  have h := let26 ⟨r.toNat, by omega⟩
  have e : ((r.toNat : Nat) : Int) = r := by omega
  dsimp only at h
  rw [e] at h
  cases hc : atI lettersDS.cps.toList r with
  | none => rw [hc] at h; cases h
  | some c =>
    rw [hc] at h
    have h : (lowC c && sgnC c) = true := h
    rw [Bool.and_eq_true] at h
    exact ⟨c, rfl, h⟩
theorem ix36 {r : Int} (h0 : 0 ≤ r) (h1 : r < 36) : ∃ c, atI lettersDS.cps.toList r = some c ∧ sgnC c = true := by
  have h := let36 ⟨r.toNat, by omega⟩
  have e : ((r.toNat : Nat) : Int) = r := by omega
  dsimp only at h
  rw [e] at h
  cases hc : atI lettersDS.cps.toList r with
  | none => rw [hc] at h; cases h
  | some c => rw [hc] at h; exact ⟨c, rfl, h⟩
theorem nameS_1 {c : Nat} (h1 : lowC c = true) (h2 : sgnC c = true) : nameS ⟨#[c]⟩ = true := nameS_of (l := []) rfl h1 h2 (by simp) (by simp)
/-- the words -/
def wordsL : List Str := ["plain", "points", "crossing", "over", "stretch", "join", "gate", "signal", "left", "right"]
theorem words_ok : ∀ s ∈ wordsL, nameS s = true := by
  have h : wordsL.all nameS = true := by decide +kernel
  exact List.all_eq_true.mp h
theorem l_letters : lettersDS.length = 36 := by decide +kernel
abbrev mainS : Str := "mainline"
theorem l_main : mainS.length = 8 := by decide +kernel
/-- mainline with one sign put otherwise -/
theorem main_cut {at' : Int} {c : Nat} (h0 : 0 < at') (h8 : at' < 8) (hc : sgnC c = true) : nameS ((cutS mainS none (some at') ++ ⟨#[c]⟩) ++ cutS mainS (some (at' + 1)) none) = true := by
  have e : at' = 1 ∨ at' = 2 ∨ at' = 3 ∨ at' = 4 ∨ at' = 5 ∨ at' = 6 ∨ at' = 7 := by omega
  have k1 : sgnC 109 = true := by decide +kernel
  have k2 : sgnC 97 = true := by decide +kernel
  have k3 : sgnC 105 = true := by decide +kernel
  have k4 : sgnC 110 = true := by decide +kernel
  have k5 : sgnC 108 = true := by decide +kernel
  have k6 : sgnC 101 = true := by decide +kernel
  have k0 : lowC 109 = true := by decide +kernel
  rcases e with rfl | rfl | rfl | rfl | rfl | rfl | rfl
  · refine nameS_of (c := 109) (l := [c, 105, 110, 108, 105, 110, 101]) (by rw [app_list, app_list]; with_unfolding_all rfl) k0 k1 (by simp [hc, k2, k3, k4, k5, k6]) (Nat.le_refl 7)
  · refine nameS_of (c := 109) (l := [97, c, 110, 108, 105, 110, 101]) (by rw [app_list, app_list]; with_unfolding_all rfl) k0 k1 (by simp [hc, k2, k3, k4, k5, k6]) (Nat.le_refl 7)
  · refine nameS_of (c := 109) (l := [97, 105, c, 108, 105, 110, 101]) (by rw [app_list, app_list]; with_unfolding_all rfl) k0 k1 (by simp [hc, k2, k3, k4, k5, k6]) (Nat.le_refl 7)
  · refine nameS_of (c := 109) (l := [97, 105, 110, c, 105, 110, 101]) (by rw [app_list, app_list]; with_unfolding_all rfl) k0 k1 (by simp [hc, k2, k3, k4, k5, k6]) (Nat.le_refl 7)
  · refine nameS_of (c := 109) (l := [97, 105, 110, 108, c, 110, 101]) (by rw [app_list, app_list]; with_unfolding_all rfl) k0 k1 (by simp [hc, k2, k3, k4, k5, k6]) (Nat.le_refl 7)
  · refine nameS_of (c := 109) (l := [97, 105, 110, 108, 105, c, 101]) (by rw [app_list, app_list]; with_unfolding_all rfl) k0 k1 (by simp [hc, k2, k3, k4, k5, k6]) (Nat.le_refl 7)
  · refine nameS_of (c := 109) (l := [97, 105, 110, 108, 105, 110, c]) (by rw [app_list, app_list]; with_unfolding_all rfl) k0 k1 (by simp [hc, k2, k3, k4, k5, k6]) (Nat.le_refl 7)
theorem main_cut0 {c : Nat} (h1 : lowC c = true) (h2 : sgnC c = true) : nameS (⟨#[c]⟩ ++ cutS mainS (some (0 + 1)) none) = true := by
  have k2 : sgnC 97 = true := by decide +kernel
  have k3 : sgnC 105 = true := by decide +kernel
  have k4 : sgnC 110 = true := by decide +kernel
  have k5 : sgnC 108 = true := by decide +kernel
  have k6 : sgnC 101 = true := by decide +kernel
  exact nameS_of (c := c) (l := [97, 105, 110, 108, 105, 110, 101]) (by rw [app_list]; with_unfolding_all rfl) h1 h2 (by simp [k2, k3, k4, k5, k6]) (Nat.le_refl 7)
/-- a join of nothing between -/
theorem join_list : ∀ ss : List Str, (Txt.join Str.empty ss).cps.toList = (ss.map fun s => s.cps.toList).flatten := by
  intro ss
  have key : ∀ (l : List Str) (acc : Array Nat), (l.foldl (fun acc p => acc ++ Str.empty.cps ++ p.cps) acc).toList = acc.toList ++ (l.map fun s => s.cps.toList).flatten := by
    intro l
    induction l with
    | nil => intro acc; simp
    | cons a l ih =>
      intro acc
      rw [List.foldl_cons, ih]
      have e : Str.empty.cps = #[] := rfl
      rw [e]; simp
  show (((ss.drop 1).foldl (fun acc p => acc ++ Str.empty.cps ++ p.cps) (ss.headD Str.empty).cps)).toList = _
  rw [key]
  cases ss with
  | nil => rfl
  | cons a l => simp
/-- the spare names -/
def spareS (i : Nat) : Str := ("x" : Str) ++ numT (i : Int)
theorem spare_ok : ∀ i : Fin 60, nameS (spareS i.val) = true := by decide +kernel
theorem spare_inj : ∀ i j : Fin 60, spareS i.val = spareS j.val → i = j := by decide +kernel
end PL
namespace PL
open PySem PySem.Spec PyProof.Rows L2 GA GxR DL
structure Chg (u : Addr) (m m' : M) : Prop where
  gh : m'.gh = m.gh
  old : ∀ a o, a ≠ u → m.mu a = some o → m'.mu a = some o
theorem Ext.chg {m m' : M} (h : Ext m m') (u : Addr) : Chg u m m' := ⟨h.gh, fun a o _ e => h.old a o e⟩
theorem Chg.ext {m m' m'' : M} {u : Addr} (h : Chg u m m') (e : Ext m' m'') : Chg u m m'' := ⟨e.gh.trans h.gh, fun a o n z => e.old a o (h.old a o n z)⟩
theorem Ext.trans_chg {m m' m'' : M} {u : Addr} (e : Ext m m') (h : Chg u m' m'') : Chg u m m'' := ⟨h.gh.trans e.gh, fun a o n z => h.old a o n (e.old a o z)⟩
theorem Chg.set {m m' : M} {u : Addr} {o : DO} (h : Chg u m m') : Chg u m (m'.set u o) := ⟨h.gh, fun a x n z => by rw [M.set_ne n]; exact h.old a x n z⟩
def spPick : DSp := fun ds m Q => ∃ d s ds', ds = [d, s] ∧ Dk m d ∧ SeqD m s ds' ∧ ds' ≠ [] ∧ ds'.length < 1073741824 ∧ ∀ y ∈ ds', Q y m
def spName : DSp := fun ds m Q => ∃ d u us, ds = [d, .ref u] ∧ Dk m d ∧ m.mu u = some (.lst (us.map D.str)) ∧ us.length < 60 ∧ ∀ s m', nameS s = true → s ∉ us → Chg u m m' → m'.mu u = some (.lst ((us ++ [s]).map D.str)) → Q (.str s) m'
theorem _root_.DL.SeqD.len {m : M} {s : D} {ds : List D} (h : SeqD m s ds) : lenD m s ds.length := by
  rcases h with rfl | rfl | ⟨a, rfl, h⟩
  · rfl
  · rfl
  · exact ⟨ds, h, rfl⟩
theorem _root_.DL.SeqD.ix {m : M} {s : D} {ds : List D} {i : Int} {d : D} {Q : DK} (h : SeqD m s ds) (hi : atI ds i = some d) (q : Q d m) : rdIx s (.int i) m Q := by
  rcases h with rfl | rfl | ⟨a, rfl, h⟩
  · exact ⟨d, hi, q⟩
  · exact ⟨d, hi, q⟩
  · exact ⟨ds, d, h, hi, q⟩
theorem atI_mem {α : Type} {xs : List α} {i : Int} (h0 : 0 ≤ i) (h1 : i < xs.length) : ∃ d, atI xs i = some d ∧ d ∈ xs := by
  have h2 : i.toNat < xs.length := by omega
  refine ⟨xs[i.toNat], ?_, List.getElem_mem h2⟩
  unfold atI ixN
  rw [if_pos h0, if_pos h1]
  simp [h2]
theorem strIx {z : Str} {i : Int} {c : Nat} {m : M} {Q : DK} (hz : z.length ≤ 1000) (h : atI z.cps.toList i = some c) (q : Q (.str ⟨#[c]⟩) m) : rdIx (.str z) (.int i) m Q := ⟨c, slk hz, h, q⟩
theorem any_str {s : Str} : ∀ {us : List Str}, ((us.map D.str).any fun d => eqFl d (.str s)) = decide (s ∈ us)
  | [] => by simp
  | u :: us => by
    rw [List.map_cons, List.any_cons, any_str, eqFl_str]
    by_cases h : u = s
    · subst h; simp
    · have : (u == s) = false := by simpa using h
      rw [this, Bool.false_or]
      by_cases h2 : s ∈ us
      · simp [h2]
      · have : s ≠ u := fun z => h z.symm
        simp [h2, this]
theorem flat_strs : ∀ us : List Str, (us.map D.str).all flatD = true
  | [] => rfl
  | u :: us => by rw [List.map_cons, List.all_cons, flat_strs us]; rfl
theorem inL {neg : Bool} {s : Str} {y : D} {us : List Str} {m : M} {Q : DK} (hs : SeqD m y (us.map D.str)) (q : Q (.bl (if neg then !decide (s ∈ us) else decide (s ∈ us))) m) : rdIn neg (.str s) y m Q := ⟨_, hs, rfl, flat_strs us, by rw [any_str]; exact q⟩
theorem nodup_le {α : Type} [DecidableEq α] : ∀ {l us : List α}, l.Nodup → (∀ x ∈ l, x ∈ us) → l.length ≤ us.length
  | [], _, _, _ => Nat.zero_le _
  | x :: l, us, nd, h => by
    have h1 := h x List.mem_cons_self
    rw [List.nodup_cons] at nd
    have h2 := nodup_le (us := us.erase x) nd.2 fun y hy => (List.mem_erase_of_ne (show y ≠ x from fun z => nd.1 (by rw [← z]; exact hy))).mpr (h y (List.mem_cons_of_mem _ hy))
    rw [List.length_erase_of_mem h1] at h2
    have h3 : 0 < us.length := List.length_pos_of_mem h1
    rw [List.length_cons]; omega
theorem spares_nd : ((List.range 60).map spareS).Nodup := by decide +kernel
/-- some spare name is not in use -/
theorem spare_free {us : List Str} (h : us.length < 60) : ∃ i : Nat, i < 60 ∧ spareS i ∉ us := by
  by_cases hn : ∃ i : Nat, i < 60 ∧ spareS i ∉ us
  · exact hn
  · have := nodup_le spares_nd (us := us) fun x hx => by
      obtain ⟨i, hi, rfl⟩ := List.mem_map.mp hx
      by_cases z : spareS i ∈ us
      · exact z
      · exact (hn ⟨i, List.mem_range.mp hi, z⟩).elim
    rw [List.length_map, List.length_range] at this
    omega
theorem Outs.ne {Rel : D → Option D → Prop} {xs ys : List D} {d : D} (h : Outs Rel xs ys) (hd : d ∈ xs) (hk : ¬ Rel d none) : ys ≠ [] := by
  induction h with
  | nil => cases hd
  | keep h t ih => exact fun z => by cases z
  | skip h t ih =>
    rcases List.mem_cons.mp hd with rfl | hd
    · exact (hk h).elim
    · exact ih hd
theorem num60 (i : Nat) (h : i < 60) : ((i : Int)).natAbs.log2 < 1920 := by
  rw [Int.natAbs_natCast]
  by_cases h0 : i = 0
  · subst h0; decide
  · have := (Nat.log2_lt h0 (k := 6)).mpr (by omega)
    omega
theorem spare_len (i : Nat) (h : i < 60) : (spareS i).length ≤ 8 := (nameS_len (spare_ok ⟨i, h⟩)).2
theorem strI {i : Int} {m : M} {Q : DK} (h : i.natAbs.log2 < 1920) (q : Q (.str (numT i)) m) : rdStr [.int i] m Q := ⟨i, rfl, h, q⟩
theorem spare_fun : ∀ a b : Nat, (fun i : Nat => D.int (i : Int)) a = (fun i : Nat => D.int (i : Int)) b → (fun i : Nat => D.str (spareS i)) a = (fun i : Nat => D.str (spareS i)) b := by
  intro a b e
  dsimp only at e ⊢
  injection e with e
  have : a = b := by omega
  rw [this]
theorem slS {z : Str} {lo hi : Option Int} {m : M} {Q : DK} (hz : z.length ≤ 1000) (q : Q (.str (cutS z lo hi)) m) : rdSl (.str z) lo hi m Q := ⟨slk hz, q⟩
/-- a walk over known things -/
def cw (xs : List D) (m : M) : DTI := fun _ m0 R => R xs (fun m' => Ext m m') m0
theorem cw_w {xs : List D} {m : M} {δ : Sl} : WkS m xs (cw xs m) δ := fun R hR => hR _ m (Ext.refl m) fun _ h => h
theorem dLC_draw {te te2 : DTr} {g : Tg} {tt : DTT} {ow : List Nat} {δ : Sl} {m : M} {Q : DK} {n : Int} (hn : n < 2 ^ 62) (hT : ∀ R : DK, (∀ r : Int, 0 ≤ r → r < n → R (.int r) m) → te δ m R)
    (h : ∀ r : Nat, (r : Int) < n → dLC (cw (rangeD r) m) g tt te2 ow δ m Q) : dLC (iR1 te) g tt te2 ow δ m Q := by
  refine hT _ fun r h0 h1 => ⟨r, rfl, by omega, by omega, fun p hp => ?_⟩
  have e : ((r.toNat : Nat) : Int) = r := by omega
  obtain ⟨P, p0, p1, p2, p3⟩ := h r.toNat (by omega) p hp
  exact ⟨P, p0, fun _ _ _ => trivial, p2, p3⟩
theorem Outs.exL {α : Type} {h : α → D} {P : α → Prop} : ∀ {xs ys : List D}, Outs (fun _ o => ∃ a, P a ∧ o = some (h a)) xs ys → ∃ l : List α, ys = l.map h ∧ (∀ a ∈ l, P a) ∧ l.length = xs.length := by
  intro xs ys o
  induction o with
  | nil => exact ⟨[], rfl, by simp, rfl⟩
  | keep r t ih =>
    obtain ⟨a, pa, e⟩ := r
    obtain ⟨l, e1, e2, e3⟩ := ih
    cases e
    exact ⟨a :: l, by rw [e1]; rfl, fun b hb => by
      rcases List.mem_cons.mp hb with rfl | hb
      · exact pa
      · exact e2 b hb, by rw [List.length_cons, e3]; rfl⟩
  | skip r t ih => obtain ⟨a, _, e⟩ := r; cases e
theorem join_signs {c : Nat} {cs : List Nat} : (⟨#[c]⟩ ++ Txt.join "" (cs.map fun c => ⟨#[c]⟩) : Str).cps.toList = c :: cs := by
  have e : Txt.join "" (cs.map fun c => (⟨#[c]⟩ : Str)) = Txt.join Str.empty (cs.map fun c => (⟨#[c]⟩ : Str)) := rfl
  rw [e, app_list, join_list]
  have e2 : ∀ cs : List Nat, ((cs.map fun c => (⟨#[c]⟩ : Str)).map fun s => s.cps.toList).flatten = cs := by
    intro cs
    induction cs with
    | nil => rfl
    | cons c cs ih => rw [List.map_cons, List.map_cons, List.flatten_cons, ih]; rfl
  rw [e2]; rfl
end PL

namespace PR
open PySem PySem.Spec PyProof.Rows L2 GA GxR DL PL
abbrev s_law_pick : Stmt := top 29
theorem sc_law_pick : FnScope ["deck", "some"] ["deck", "some"] (defScope s_law_pick) := ⟨rfl, rfl, rfl, by decide +kernel, rfl, by decide +kernel, by decide +kernel⟩
abbrev s_law_name : Stmt := top 30
theorem sc_law_name : FnScope ["deck", "used", "letters", "way", "name", "some", "at", "spare"] ["deck", "used"] (defScope s_law_name) := ⟨rfl, rfl, rfl, by decide +kernel, rfl, by decide +kernel, by decide +kernel⟩
section
variable {P : Program} {w : World} {K : PySem.W.Frag} {mg : Str → Option Value} {base : Heap} (T : TxtL mg)
include T

theorem c_law_pick {f : Addr} {fd : FuncData} (F : Fun K "_law_pick" "_law_pick" s_law_pick f fd) (hm : mg "_law_pick" = some (.ref f)) (c_law_draw : DCal P w K mg base 1 "_law_draw" spDrawG) : DCal P w K mg base 2 "_law_pick" spPick := by
  refine dcal F hm (F.binds (ps := ["deck", "some"]) fun _ _ _ _ _ _ us hl => match us, hl with | [_, _], _ => rfl) sc_law_pick (fun ds m Q h => ?_) (fun cdv A outer s H E hr => ⟨_, (dss_one (ds_ret (de_ix (de_var 1) (de_call c_law_draw hr (by decide) (by rfl) (da_cons (de_var 0) (da_cons (de_len (by rfl) T.len (da_cons (de_var 1) da_nil)) da_nil)))))), fun ds m Q h => ?_⟩)
  · obtain ⟨d, s, ds', rfl, _⟩ := h; rfl
  · obtain ⟨d, s, ds', rfl, hd, hs, hne, hl, q⟩ := h
    dsimp only [dRet, dSeq, dNext, dIfS, dSet, dExpr, dAsg, dPar, gD, dOp, dUn, dArgs, dCons, dNil, dC, dB, dNot, dCall, dMeth, dMeth0, dIf, dLst, dTup, dSl, dNoPart, dPart, dM1]
    have hn : 0 < ds'.length := List.length_pos_iff.mpr hne
    refine dVar_at rfl (dVar_at rfl (dVar_at rfl ⟨s, ds'.length, rfl, SeqD.len hs, d, ds'.length, rfl, by omega, by omega, hd, fun r h0 h1 => ?_⟩))
    obtain ⟨y, hy, hm⟩ := atI_mem h0 h1
    exact SeqD.ix hs hy (q y hm)


theorem c_law_name {f : Addr} {fd : FuncData} (F : Fun K "_law_name" "_law_name" s_law_name f fd) (hm : mg "_law_name" = some (.ref f)) (c_law_draw : DCal P w K mg base 1 "_law_draw" spDrawG)(c_law_pick : DCal P w K mg base 2 "_law_pick" spPick) : DCal P w K mg base 3 "_law_name" spName := by
  refine dcal F hm (F.binds (ps := ["deck", "used"]) fun _ _ _ _ _ _ us hl => match us, hl with | [_, _], _ => rfl) sc_law_name (fun ds m Q h => ?_) (fun cdv A outer s H E hr => ⟨_, (dss_cons (ds_set (i := 2) sc_law_name.nd rfl (by first | exact Or.inl rfl | exact Or.inr rfl) de_str)
      (dss_cons (ds_par rfl sc_law_name.nd (i := 3) (j := 4) rfl rfl (by decide) rfl rfl (da_cons (de_call c_law_draw hr (by decide) (by rfl) (da_cons (de_var 0) (da_cons de_int da_nil))) (da_cons (de_ix (de_var 2) (de_call c_law_draw hr (by decide) (by rfl) (da_cons (de_var 0) (da_cons de_int da_nil)))) da_nil)) (by rfl))
      (dss_cons (ds_if (dt_cmp (dc_eq hr) (de_var 3) de_int) (dss_cons (ds_set (i := 5) sc_law_name.nd rfl (by first | exact Or.inl rfl | exact Or.inr rfl) (de_lst (da_cons de_str (da_cons de_str (da_cons de_str (da_cons de_str (da_cons de_str (da_cons de_str (da_cons de_str (da_cons de_str (da_cons de_str (da_cons de_str da_nil))))))))))))
      (dss_one (ds_set (i := 4) sc_law_name.nd rfl (by first | exact Or.inl rfl | exact Or.inr rfl) (de_call c_law_pick hr (by decide) (by rfl) (da_cons (de_var 0) (da_cons (de_var 5) da_nil)))))) (dss_one (ds_if (dt_cmp (dc_eq hr) (de_var 3) de_int) (dss_cons (ds_set (i := 6) sc_law_name.nd rfl (by first | exact Or.inl rfl | exact Or.inr rfl) (de_call c_law_draw hr (by decide) (by rfl) (da_cons (de_var 0) (da_cons de_int da_nil))))
      (dss_one (ds_set (i := 4) sc_law_name.nd rfl (by first | exact Or.inl rfl | exact Or.inr rfl) (de_add (de_ifE (dt_cmp dc_gt (de_var 6) de_int) (de_add (de_slice de_str dpo_none (dpo_some (de_var 6))) (de_ix (de_var 2) (de_call c_law_draw hr (by decide) (by rfl) (da_cons (de_var 0) (da_cons de_int da_nil))))) (de_var 4)) (de_slice de_str (dpo_some (de_add (de_var 6) de_int)) dpo_none))))) (dss_one (ds_set (i := 4) sc_law_name.nd rfl (by first | exact Or.inl rfl | exact Or.inr rfl) (de_add (de_var 4) (de_join de_str (de_lc (own := [("at", 6)]) rfl sc_law_name.nd (dpi_range (by rfl) T.range (de_call c_law_draw hr (by decide) (by rfl) (da_cons (de_var 0) (da_cons de_int da_nil)))) (blkOk_by (N := ["deck", "used", "letters", "way", "name", "some", "at", "spare"]) (sc := defScope s_law_name) (by decide +kernel)) (fun _ _ _ _ _ => (dg_name (i := 6) sc_law_name.nd rfl (by first | exact Or.inl rfl | exact Or.inr rfl))) (fun _ _ _ _ _ => dpts_nil) (fun _ _ _ _ _ => (de_ix (de_var 2) (de_call c_law_draw hr (by decide) (by rfl) (da_cons (de_var 0) (da_cons de_int da_nil)))))))))))))
      (dss_cons (ds_if (dt_cmp dc_in (de_var 4) (de_var 1)) (dss_one (ds_set (i := 4) sc_law_name.nd rfl (by first | exact Or.inl rfl | exact Or.inr rfl) (de_ix (de_lc (own := [("spare", 7)]) rfl sc_law_name.nd (dpi_list (de_lc (own := [("at", 6)]) rfl sc_law_name.nd (dpi_range (by rfl) T.range de_int) (blkOk_by (N := ["deck", "used", "letters", "way", "name", "some", "at", "spare"]) (sc := defScope s_law_name) (by decide +kernel)) (fun _ _ _ _ _ => (dg_name (i := 6) sc_law_name.nd rfl (by first | exact Or.inl rfl | exact Or.inr rfl))) (fun _ _ _ _ _ => dpts_nil) (fun _ _ _ _ _ => (de_add de_str (de_bty call_str_int argl_str (by rfl) T.str (by decide +kernel) (da_cons (de_var 6) da_nil)))))) (blkOk_by (N := ["deck", "used", "letters", "way", "name", "some", "at", "spare"]) (sc := defScope s_law_name) (by decide +kernel)) (fun _ _ _ _ _ => (dg_name (i := 7) sc_law_name.nd rfl (by first | exact Or.inl rfl | exact Or.inr rfl))) (fun _ _ _ _ _ => (dpts_one (dt_cmp dc_notIn (de_var 7) (de_var 1)))) (fun _ _ _ _ _ => (de_var 7))) de_int))) dss_nil)
      (dss_cons (ds_expr (de_append (de_var 1) (de_var 4)))
      (dss_one (ds_ret (de_var 4)))))))), fun ds m Q h => ?_⟩)
  · obtain ⟨d, u, us, rfl, _⟩ := h; rfl
  · obtain ⟨d, u, us, rfl, hd, hu, hl, q⟩ := h
    refine seqR3 (fun δ m2 => ∃ s, nameS s = true ∧ Ext m m2 ∧ ∃ d2 d3 d5 d6 d7, δ = [some d, some (.ref u), d2, d3, some (.str s), d5, d6, d7]) ?_ fun R hR => ?_
    · rintro δ m2 ⟨s, hs, hE, d2, d3, d5, d6, d7, rfl⟩
      refine seqR1 (fun δ m2 => ∃ s, nameS s = true ∧ s ∉ us ∧ Ext m m2 ∧ ∃ d2 d3 d5 d6 d7, δ = [some d, some (.ref u), d2, d3, some (.str s), d5, d6, d7]) ?_ fun R hR => ?_
      · rintro δ m2 ⟨s, hs, hn, hE, d2, d3, d5, d6, d7, rfl⟩
        dsimp only [dRet, dSeq, dNext, dIfS, dSet, dExpr, dAsg, dPar, gD, dOp, dUn, dArgs, dCons, dNil, dC, dB, dNot, dCall, dMeth, dMeth0, dIf, dLst, dTup, dSl, dNoPart, dPart, dM1]
        have hu2 := hE.old _ _ hu
        refine dVar_at rfl ⟨⟨u, _, rfl, hu2⟩, dVar_at rfl ⟨u, _, _, rfl, rfl, hu2, slk (by rw [List.length_map]; omega), dVar_at rfl ?_⟩⟩
        exact q s _ hs hn ((hE.chg u).set) (by rw [M.set_same, List.map_append]; rfl)
      · dsimp only [dRet, dSeq, dNext, dIfS, dSet, dExpr, dAsg, dPar, gD, dOp, dUn, dArgs, dCons, dNil, dC, dB, dNot, dCall, dMeth, dMeth0, dIf, dLst, dTup, dSl, dNoPart, dPart, dM1]
        have hu2 := hE.old _ _ hu
        refine dVar_at rfl (dVar_at rfl (inL (.inr (.inr ⟨u, rfl, hu2⟩)) ⟨_, rfl, iff_T (fun hc => ?_) fun hc => hR _ _ ⟨s, hs, (by simpa using hc), hE, _, _, _, _, _, rfl⟩⟩))
        refine dLC_gen (I := fun _ => True) (xs := (List.range 60).map fun i => D.str (spareS i)) (Rel := fun d o => ∃ t, d = D.str t ∧ o = if t ∈ us then none else some (.str t)) trivial (fun _ _ _ _ => trivial) (iL_new fun R hR => ?_) (slk (by simp)) (fun x hx m' hE' _ Ry Rn hy hn => ?_) (fun p m3 ys hp hE3 _ hm3 ho => ?_)
        · refine dLC_gen (I := fun _ => True) (Rel := fun d o => ∃ i : Nat, d = D.int (i : Int) ∧ i < 60 ∧ o = some (D.str (spareS i))) trivial (fun _ _ _ _ => trivial) (iR_w (j := 60) (fun R hR => hR) (by decide) (by decide)) (slk (by rw [rangeD_len]; decide)) (fun x hx m' hE' _ Ry Rn hy hn => ?_) (fun p m3 ys hp hE3 _ hm3 ho => ?_)
          · unfold rangeD at hx
            obtain ⟨i, hi, rfl⟩ := List.mem_map.mp hx
            have hi : i < 60 := List.mem_range.mp hi
            dsimp only [dRet, dSeq, dNext, dIfS, dSet, dExpr, dAsg, dPar, gD, dOp, dUn, dArgs, dCons, dNil, dC, dB, dNot, dCall, dMeth, dMeth0, dIf, dLst, dTup, dSl, dNoPart, dPart, dM1]
            refine yesT (dVar_at rfl (strI (num60 i hi) (aS (Nat.le_trans (spare_len i hi) (by decide)) ?_)))
            exact hy _ _ ⟨i, rfl, hi, rfl⟩ (Ext.refl _)
          · have e := Outs.mapOf (f := fun i : Nat => D.int (i : Int)) (h := fun i => D.str (spareS i)) (P := fun i => i < 60) (l := List.range 60) spare_fun ho
            exact hR p m3 hE3 (by rw [hm3, e])
        · obtain ⟨i, hi, rfl⟩ := List.mem_map.mp hx
          dsimp only [dRet, dSeq, dNext, dIfS, dSet, dExpr, dAsg, dPar, gD, dOp, dUn, dArgs, dCons, dNil, dC, dB, dNot, dCall, dMeth, dMeth0, dIf, dLst, dTup, dSl, dNoPart, dPart, dM1]
          refine dVar_at rfl (dVar_at rfl (inL (.inr (.inr ⟨u, rfl, hE'.old _ _ hu2⟩)) ⟨_, rfl, iff_T (fun hc => dVar_at rfl (hy _ _ ⟨_, rfl, ?_⟩ (Ext.refl _))) fun hc => hn _ ⟨_, rfl, ?_⟩ (Ext.refl _)⟩))
          · rw [if_neg (by simpa using hc)]
          · rw [if_pos (by simpa using hc)]
        · obtain ⟨i, hi, hfree⟩ := spare_free hl
          have hne := ho.ne (d := D.str (spareS i)) (List.mem_map.mpr ⟨i, List.mem_range.mpr hi, rfl⟩) (by rintro ⟨t, e, e2⟩; cases e; rw [if_neg hfree] at e2; cases e2)
          obtain ⟨y, hy, hmem⟩ := atI_mem (xs := ys) (i := 0) (by decide) (by have := List.length_pos_iff.mpr hne; omega)
          have hall := ho.all (P := fun y => ∃ t, y = D.str t ∧ nameS t = true ∧ t ∉ us) (fun x hx y hxy => by
            obtain ⟨j, hj, rfl⟩ := List.mem_map.mp hx
            obtain ⟨t, e, e2⟩ := hxy
            cases e
            by_cases z : spareS j ∈ us
            · rw [if_pos z] at e2; cases e2
            · rw [if_neg z] at e2; cases e2; exact ⟨_, rfl, spare_ok ⟨j, List.mem_range.mp hj⟩, z⟩)
          obtain ⟨t, rfl, h1, h2⟩ := hall y hmem
          exact SeqD.ix (.inr (.inr ⟨p, rfl, hm3⟩)) hy (hR _ _ ⟨t, h1, h2, hE.trans hE3, _, _, _, _, _, rfl⟩)
    · dsimp only [dRet, dSeq, dNext, dIfS, dSet, dExpr, dAsg, dPar, gD, dOp, dUn, dArgs, dCons, dNil, dC, dB, dNot, dCall, dMeth, dMeth0, dIf, dLst, dTup, dSl, dNoPart, dPart, dM1]
      refine dVar_at rfl ⟨d, 5, rfl, by decide, by decide, hd, fun way w0 w5 => ?_⟩
      dsimp only
      refine dVar_at rfl (dVar_at rfl ⟨d, 26, rfl, by decide, by decide, hd, fun r r0 r1 => ?_⟩)
      obtain ⟨c, hc, c1, c2⟩ := ix26 r0 r1
      refine strIx (by rw [l_letters]; decide) hc ⟨_, _, rfl, dVar_at rfl (eqI ⟨_, rfl, iff_T (fun _ => ?_) fun _ => dVar_at rfl (eqI ⟨_, rfl, iff_T (fun _ => ?_) fun _ => ?_⟩)⟩)⟩
      · refine ⟨slk (by decide), fun p hp => dVar_at rfl (dVar_at rfl ⟨d, .ref p, wordsL.map D.str, rfl, hd.ext rfl, .inr (.inr ⟨p, rfl, M.set_same⟩), (fun z => by cases z), by decide, fun y hy => ?_⟩)⟩
        obtain ⟨s, hs, rfl⟩ := List.mem_map.mp hy
        exact hR _ _ ⟨s, words_ok s hs, Ext.new hp, _, _, _, _, _, rfl⟩
      · refine dVar_at rfl ⟨d, 8, rfl, by decide, by decide, hd, fun at' a0 a8 => ?_⟩
        dsimp only
        refine dVar_at rfl (bI ⟨_, rfl, iff_T (fun hz => ?_) fun hz => ?_⟩)
        · have hz : 0 < at' := by simpa using hz
          refine dVar_at rfl ⟨at', rfl, slS (by rw [l_main]; decide) (dVar_at rfl (dVar_at rfl ⟨d, 36, rfl, by decide, by decide, hd, fun r2 r20 r21 => ?_⟩))⟩
          obtain ⟨c', hc', c'2⟩ := ix36 r20 r21
          have hok := main_cut hz a8 c'2
          have hlen := (nameS_len hok).2
          have hl1 : (cutS mainS none (some at') ++ (⟨#[c']⟩ : Str)).length ≤ 1000 := by rw [len_app] at hlen; omega
          refine strIx (by rw [l_letters]; decide) hc' (aS hl1 (dVar_at rfl (aI ⟨_, rfl, slS (by rw [l_main]; decide) (aS (Nat.le_trans hlen (by decide)) (hR _ _ ⟨_, hok, Ext.refl m, _, _, _, _, _, rfl⟩))⟩)))
        · have hz : at' = 0 := by simp at hz; omega
          subst hz
          have hok := main_cut0 c1 c2
          have hlen := (nameS_len hok).2
          refine dVar_at rfl (dVar_at rfl (aI ⟨_, rfl, slS (by rw [l_main]; decide) (aS (Nat.le_trans hlen (by decide)) (hR _ _ ⟨_, hok, Ext.refl m, _, _, _, _, _, rfl⟩))⟩))
      · refine dVar_at rfl ⟨⟨_, rfl⟩, dLC_draw (n := 8) (by decide) (fun R hR => dVar_at rfl ⟨d, 8, rfl, by decide, by decide, hd, hR⟩) fun k hk => ?_⟩
        refine dLC_gen (I := fun _ => True) (Rel := fun d o => ∃ c, sgnC c = true ∧ o = some (.str ⟨#[c]⟩)) trivial (fun _ _ _ _ => trivial) cw_w (slk (by rw [rangeD_len]; omega)) (fun x hx m' hE' _ Ry Rn hy hn => ?_) (fun p m3 ys hp hE3 _ hm3 ho => ?_)
        · dsimp only [dRet, dSeq, dNext, dIfS, dSet, dExpr, dAsg, dPar, gD, dOp, dUn, dArgs, dCons, dNil, dC, dB, dNot, dCall, dMeth, dMeth0, dIf, dLst, dTup, dSl, dNoPart, dPart, dM1]
          refine yesT (dVar_at rfl (dVar_at rfl ⟨d, 36, rfl, by decide, by decide, hd.ext hE'.gh, fun r2 r20 r21 => ?_⟩))
          obtain ⟨c', hc', c'2⟩ := ix36 r20 r21
          exact strIx (by rw [l_letters]; decide) hc' (hy _ _ ⟨c', c'2, rfl⟩ (Ext.refl _))
        · obtain ⟨cs, rfl, h2, h3⟩ := ho.exL
          rw [rangeD_len] at h3
          have hok : nameS (⟨#[c]⟩ ++ Txt.join "" (cs.map fun c => ⟨#[c]⟩)) = true := nameS_of join_signs c1 c2 h2 (by omega)
          have hlen := (nameS_len hok).2
          refine ⟨"", .ref p, cs.map fun c => ⟨#[c]⟩, rfl, rfl, .inr (.inr ⟨p, rfl, by rw [hm3, List.map_map]; rfl⟩), ?_, aS (by omega) (hR _ _ ⟨_, hok, hE3, _, _, _, _, _, rfl⟩)⟩
          have e1 : ("" : Str).length = 0 := rfl
          have e2 : ((cs.map fun c => (⟨#[c]⟩ : Str)).map (·.length)).sum ≤ ((cs.map fun c => (⟨#[c]⟩ : Str)).map (·.length)).length * 1 := sum_le fun x hx => by
            simp only [List.map_map, List.mem_map] at hx
            obtain ⟨_, _, rfl⟩ := hx
            exact Nat.le_refl 1
          simp only [List.length_map] at e2
          rw [e1]; omega


end
end PR

namespace PL
open PySem PySem.Spec PyProof.Rows L2 GA GxR DL
def spLines : DSp := fun ds m Q => ∃ p : Pln, ds = [p.d] ∧ p.Ok ∧ ∀ a m', Ext m m' → m'.mu a = some (.lst (p.lines.map D.str)) → Q (.ref a) m'
def spShuf : DSp := fun ds m Q => ∃ d xs, ds = [d, .tup xs] ∧ Dk m d ∧ xs.length ≤ 1000 ∧ ∀ ys m', (∀ y ∈ ys, y ∈ xs) → ys.length = xs.length → Ext m m' → Q (.tup ys) m'
def spText (Ok : M → Prop) : DSp := fun ds m Q => ∃ p : Pln, ds = [p.d] ∧ p.Ok ∧ Ok m ∧ ∀ m', Ext m m' → Q (.str (Txt.join "\n" p.lines)) m'
def spWrit (Ok : M → Prop) : DSp := fun ds m Q => ∃ p : Pln, ds = [p.d] ∧ p.Ok ∧ Ok m ∧ ∀ m', Ext m m' → Q (.bl true) m'
def spFree : DSp := fun ds m Q => ∃ d, ds = [d] ∧ Dk m d ∧ ∀ (p : Pln) m', p.Ok → Ext m m' → Q p.d m'
theorem endD_ix0 {e : End} {m : M} {Q : DK} (q : Q (.str e.1) m) : rdIx (endD e) (.int 0) m Q := ⟨_, rfl, q⟩
theorem endD_ix1 {e : End} {m : M} {Q : DK} (q : Q (.int e.2) m) : rdIx (endD e) (.int 1) m Q := ⟨_, rfl, q⟩
theorem addL {l k : Addr} {xs ys : List D} {m : M} {Q : DK} (h1 : m.mu l = some (.lst xs)) (h2 : m.mu k = some (.lst ys)) (hz : xs.length + ys.length ≤ 1000) (q : ∀ p, m.mu p = none → Q (.ref p) (m.set p (.lst (xs ++ ys)))) : rdAdd (.ref l) (.ref k) m Q := ⟨xs, ys, h1, h2, slk hz, q⟩
theorem name_sok {s : Str} (h : nameS s = true) : PyData.strOk s = true := by
  unfold nameS at h
  simp only [Bool.and_eq_true] at h
  have h4 := h.2
  unfold PyData.strOk
  rw [Array.all_eq_true']
  intro c hc
  have h5 := List.all_eq_true.mp h4 c (by simpa using hc)
  have h6 : c ∈ lettersDS.cps.toList := by simpa using h5
  have h7 : lettersDS.cps.toList.all (fun c => decide (c < 0x110000)) = true := by decide +kernel
  exact List.all_eq_true.mp h7 c h6
theorem Fine.tup {ds : List D} (h : ∀ d ∈ ds, Fine d) (h2 : ∀ d ∈ ds, d.dep ≤ 50) : Fine (.tup ds) := ⟨pures_of fun d hd => (h d hd).pure, by show D.deps ds + 1 ≤ 60; have := deps_le h2; omega, lay_pys fun d hd => (h d hd).lay⟩
theorem end_fine {e : End} (h : endOk e) : Fine (endD e) := Fine.tup (fun d hd => by
  simp only [List.mem_cons, List.not_mem_nil, or_false] at hd
  rcases hd with rfl | rfl
  · exact Fine.str (name_sok h.1)
  · exact Fine.int _) (fun d hd => by
  simp only [List.mem_cons, List.not_mem_nil, or_false] at hd
  rcases hd with rfl | rfl <;> exact Nat.zero_le _)
theorem step_fine {e : Step} (h : stepOk e) : Fine (stepD e) := Fine.tup (fun d hd => by
  simp only [List.mem_cons, List.not_mem_nil, or_false] at hd
  rcases hd with rfl | rfl | rfl
  · exact Fine.str (name_sok h.1)
  · exact Fine.int _
  · exact Fine.int _) (fun d hd => by
  simp only [List.mem_cons, List.not_mem_nil, or_false] at hd
  rcases hd with rfl | rfl | rfl <;> exact Nat.zero_le _)
/-- overlap == () -/
theorem ov_eq {o : Option Step} {m : M} {Q : DK} (h : ∀ t, o = some t → stepOk t) (q : Q (.bl o.isNone) m) : rdEq false (ovD o) (.tup []) m Q := by
  have f0 : Fine (.tup []) := Fine.tup (fun d hd => by cases hd) (fun d hd => by cases hd)
  cases o with
  | none => exact ⟨_, _, .d f0.pure, .d f0.pure, shaped_d f0, shaped_d f0, q⟩
  | some t =>
    have f1 : Fine (.tup [stepD t]) := Fine.tup (fun d hd => by
      simp only [List.mem_cons, List.not_mem_nil, or_false] at hd; subst hd; exact step_fine (h t rfl)) (fun d hd => by
      simp only [List.mem_cons, List.not_mem_nil, or_false] at hd; subst hd; exact Nat.le_trans (Nat.le_refl 1) (by decide))
    exact ⟨_, _, .d f1.pure, .d f0.pure, shaped_d f1, shaped_d f0, q⟩
theorem isiS {te : DTr} {δ : Sl} {m : M} {Q : DK} {s : Str} (h : ∀ R : DK, R (.str s) m → te δ m R) (q : Q (.bl true) m) : dIsi "str" te δ m Q := h _ ⟨_, _, rfl, kit_ss, q⟩
theorem popL {l : Addr} {ls : List D} {r : Int} {m : M} {Q : DK} (h : m.mu l = some (.lst ls)) (h0 : 0 ≤ r) (h1 : r < ls.length) (hz : ls.length ≤ 1000) (q : ∀ y, y ∈ ls → ls[r.toNat]? = some y → Q y (m.set l (.lst (ls.eraseIdx r.toNat)))) : rdPopAt (.ref l) [.int r] m Q := by
  have h2 : r.toNat < ls.length := by omega
  refine ⟨l, ls, r, r.toNat, ls[r.toNat], rfl, rfl, h, by omega, by omega, ?_, by simp [h2], q _ (List.getElem_mem h2) (by simp [h2])⟩
  refine (L2.ixN_seq (n := ls.length) (i := r) (j := r.toNat) ?_).1
  unfold L2.ixN
  rw [if_pos h0, if_pos h1]
theorem app_emp (a : Str) : a ++ ("" : Str) = a := str_ext (by rw [app_list]; show a.cps.toList ++ [] = _; simp)
theorem take_map_snoc {α β : Type} {l : List α} {i : Nat} {a : α} (f : α → β) (h : l[i]? = some a) : (l.take (i + 1)).map f = (l.take i).map f ++ [f a] := by rw [take_snoc h, List.map_append]; rfl
theorem map_get {α : Type} {f : α → D} {l : List α} {i : Nat} {d : D} (h : (l.map f)[i]? = some d) : ∃ a, l[i]? = some a ∧ d = f a := by
  rw [List.getElem?_map] at h
  cases e : l[i]? with
  | none => rw [e] at h; cases h
  | some a => rw [e] at h; cases h; exact ⟨a, rfl, rfl⟩
end PL

namespace PR
open PySem PySem.Spec PyProof.Rows L2 GA GxR DL PL
abbrev s_law_lines : Stmt := top 35
theorem sc_law_lines : FnScope ["plan", "found", "name", "end", "overlap", "over", "kind", "one", "other"] ["plan"] (defScope s_law_lines) := ⟨rfl, rfl, rfl, by decide +kernel, rfl, by decide +kernel, by decide +kernel⟩
abbrev s_law_shuffled : Stmt := top 36
theorem sc_law_shuffled : FnScope ["deck", "some", "turn", "left", "found"] ["deck", "some"] (defScope s_law_shuffled) := ⟨rfl, rfl, rfl, by decide +kernel, rfl, by decide +kernel, by decide +kernel⟩
abbrev s_law_is_written : Stmt := top 37
theorem sc_law_is_written : FnScope ["plan", "due", "text"] ["plan"] (defScope s_law_is_written) := ⟨rfl, rfl, rfl, by decide +kernel, rfl, by decide +kernel, by decide +kernel⟩
section
variable {P : Program} {w : World} {K : PySem.W.Frag} {mg : Str → Option Value} {base : Heap} (T : TxtL mg) (Ok : M → Prop) (hOk : ∀ a b : M, Ok a → b.gh = a.gh → Ok b)
include T

theorem c_law_lines {f : Addr} {fd : FuncData} (F : Fun K "_law_lines" "_law_lines" s_law_lines f fd) (hm : mg "_law_lines" = some (.ref f))  : DCal P w K mg base 1 "_law_lines" spLines := by
  refine dcal F hm (F.binds (ps := ["plan"]) fun _ _ _ _ _ _ us hl => match us, hl with | [_], _ => rfl) sc_law_lines (fun ds m Q h => ?_) (fun cdv A outer s H E hr => ⟨_, (dss_cons (ds_setLc (i := 1) (own := [("name", 2), ("kind", 6)]) rfl sc_law_lines.nd rfl rfl (sw_true rfl rfl rfl (by decide +kernel)) (dpi_tup (de_ix (de_var 0) de_int)) (blkOk_by (N := ["plan", "found", "name", "end", "overlap", "over", "kind", "one", "other"]) (sc := defScope s_law_lines) (by decide +kernel)) (fun _ _ _ _ _ => (dg_tup rfl (dgs_cons (pg_name (i := 2) sc_law_lines.nd rfl (by first | exact Or.inl rfl | exact Or.inr rfl)) (dgs_cons (pg_name (i := 6) sc_law_lines.nd rfl (by first | exact Or.inl rfl | exact Or.inr rfl)) dgs_nil)))) (fun _ _ _ _ _ => dpts_nil) (fun _ _ _ _ _ => (de_add (de_add (de_add de_str (de_var 2)) de_str) (de_var 6))))
      (dss_cons (ds_set (i := 1) sc_law_lines.nd rfl (by first | exact Or.inl rfl | exact Or.inr rfl) (de_add (de_var 1) (de_lc (own := [("one", 7), ("other", 8)]) rfl sc_law_lines.nd (dpi_tup (de_ix (de_var 0) de_int)) (blkOk_by (N := ["plan", "found", "name", "end", "overlap", "over", "kind", "one", "other"]) (sc := defScope s_law_lines) (by decide +kernel)) (fun _ _ _ _ _ => (dg_tup rfl (dgs_cons (pg_name (i := 7) sc_law_lines.nd rfl (by first | exact Or.inl rfl | exact Or.inr rfl)) (dgs_cons (pg_name (i := 8) sc_law_lines.nd rfl (by first | exact Or.inl rfl | exact Or.inr rfl)) dgs_nil)))) (fun _ _ _ _ _ => dpts_nil) (fun _ _ _ _ _ => (de_joined (.cons de_str (.cons (de_fmt (de_ix (de_var 7) de_int)) (.cons de_str (.cons (de_fmt (de_ix (de_var 7) de_int)) (.cons de_str (.cons (de_fmt (de_ix (de_var 8) de_int)) (.cons de_str (.cons (de_fmt (de_ix (de_var 8) de_int)) .nil)))))))))))))
      (dss_cons (ds_set (i := 1) sc_law_lines.nd rfl (by first | exact Or.inl rfl | exact Or.inr rfl) (de_add (de_var 1) (de_lc (own := [("name", 2), ("end", 3)]) rfl sc_law_lines.nd (dpi_tup (de_ix (de_var 0) de_int)) (blkOk_by (N := ["plan", "found", "name", "end", "overlap", "over", "kind", "one", "other"]) (sc := defScope s_law_lines) (by decide +kernel)) (fun _ _ _ _ _ => (dg_tup rfl (dgs_cons (pg_name (i := 2) sc_law_lines.nd rfl (by first | exact Or.inl rfl | exact Or.inr rfl)) (dgs_cons (pg_name (i := 3) sc_law_lines.nd rfl (by first | exact Or.inl rfl | exact Or.inr rfl)) dgs_nil)))) (fun _ _ _ _ _ => dpts_nil) (fun _ _ _ _ _ => (de_joined (.cons de_str (.cons (de_fmt (de_var 2)) (.cons de_str (.cons (de_fmt (de_ix (de_var 3) de_int)) (.cons de_str (.cons (de_fmt (de_ix (de_var 3) de_int)) .nil)))))))))))
      (dss_cons (ds_for PassesOwn.never rfl (dpi_tup (de_ix (de_var 0) de_int)) (dg_tup rfl (dgs_cons (pg_name (i := 2) sc_law_lines.nd rfl (by first | exact Or.inl rfl | exact Or.inr rfl)) (dgs_cons (pg_name (i := 3) sc_law_lines.nd rfl (by first | exact Or.inl rfl | exact Or.inr rfl)) (dgs_cons (pg_name (i := 4) sc_law_lines.nd rfl (by first | exact Or.inl rfl | exact Or.inr rfl)) dgs_nil)))) (dss_cons (ds_set (i := 5) sc_law_lines.nd rfl (by first | exact Or.inl rfl | exact Or.inr rfl) (de_ifE (dt_cmp (dc_eq hr) (de_var 4) (de_tup da_nil)) de_str (de_joined (.cons de_str (.cons (de_fmt (de_ix (de_ix (de_var 4) de_int) de_int)) (.cons de_str (.cons (de_fmt (de_ix (de_ix (de_var 4) de_int) de_int)) (.cons de_str (.cons (de_fmt (de_ix (de_ix (de_var 4) de_int) de_int)) .nil)))))))))
      (dss_one (ds_expr (de_append (de_var 1) (de_add (de_joined (.cons de_str (.cons (de_fmt (de_var 2)) (.cons de_str (.cons (de_fmt (de_ix (de_var 3) de_int)) (.cons de_str (.cons (de_fmt (de_ix (de_var 3) de_int)) .nil))))))) (de_var 5)))))))
      (dss_one (ds_ret (de_var 1))))))), fun ds m Q h => ?_⟩)
  · obtain ⟨p, rfl, _⟩ := h; rfl
  · obtain ⟨p, rfl, hp, q⟩ := h
    dsimp only [dRet, dSeq, dNext, dIfS, dSet, dExpr, dAsg, dPar, dPar3, gD, dOp, dUn, dArgs, dCons, dNil, dC, dB, dNot, dCall, dMeth, dMeth0, dIf, dLst, dTup, dSl, dNoPart, dPart, dM1, dOr, dAnd]
    refine dLC_gen (I := fun _ => True) (Rel := fun d o => ∃ a, d = strD a ∧ strOk' a ∧ o = some (.str (stT a))) trivial (fun _ _ _ _ => trivial) (iT_w (xs := p.st.map strD) fun R hR => dVar_at rfl (SeqD.ix (.inl rfl) rfl hR)) (slk (by rw [List.length_map]; have := hp.n1; omega)) (fun d hd m' _ _ Ry Rn hy hn => ?_) (fun pl m1 ys hpl hE1 _ hm1 ho1 => ?_)
    · obtain ⟨s, hs, rfl⟩ := List.mem_map.mp hd
      have ho := hp.st s hs
      have h1 := (nameS_len ho.1).2
      have h2 := kind_len ho.2
      dsimp only [dRet, dSeq, dNext, dIfS, dSet, dExpr, dAsg, dPar, dPar3, gD, dOp, dUn, dArgs, dCons, dNil, dC, dB, dNot, dCall, dMeth, dMeth0, dIf, dLst, dTup, dSl, dNoPart, dPart, dM1, dOr, dAnd]
      refine ⟨[.str s.1, .str s.2], .inl rfl, rfl, yesT ?_⟩
      exact dVar_at rfl (aS (by simp only [len_app, l_stretch]; omega) (aS (by simp only [len_app, l_stretch, l_sp]; omega) (dVar_at rfl (aS (by simp only [len_app, l_stretch, l_sp]; omega) (hy _ _ ⟨s, rfl, ho, rfl⟩ (Ext.refl _))))))
    have e1 := ho1.mapOf (h := fun a => D.str (stT a)) fun a b e => by rw [strD_inj e]
    subst e1
    refine dVar_at rfl ?_
    refine dLC_gen (I := fun _ => True) (Rel := fun d o => ∃ a, d = joD a ∧ joOk a ∧ o = some (.str (joT a))) trivial (fun _ _ _ _ => trivial) (iT_w (xs := p.jo.map joD) fun R hR => dVar_at rfl (SeqD.ix (.inl rfl) rfl hR)) (slk (by rw [List.length_map]; have := hp.n2; omega)) (fun d hd m' _ _ Ry Rn hy hn => ?_) (fun p2 m2 ys hp2 hE2 _ hm2 ho2 => ?_)
    · obtain ⟨s, hs, rfl⟩ := List.mem_map.mp hd
      have ho := hp.jo s hs
      have h1 := (nameS_len ho.1.1).2
      have h2 := (nameS_len ho.2.1).2
      have k1 := numT_len ho.1.2
      have k2 := numT_len ho.2.2
      dsimp only [dRet, dSeq, dNext, dIfS, dSet, dExpr, dAsg, dPar, dPar3, gD, dOp, dUn, dArgs, dCons, dNil, dC, dB, dNot, dCall, dMeth, dMeth0, dIf, dLst, dTup, dSl, dNoPart, dPart, dM1, dOr, dAnd]
      refine ⟨[endD s.1, endD s.2], .inl rfl, rfl, yesT ?_⟩
      refine js_c (by simp only [len_app, l_emp, l_join]; omega) (js_s (y := s.1.1) (fun R hR => dVar_at rfl (endD_ix0 hR)) (by simp only [len_app, l_emp, l_join]; omega) (js_c (by simp only [len_app, l_emp, l_join, l_sp]; omega) (js_i (i := s.1.2) (fun R hR => dVar_at rfl (endD_ix1 hR)) (num_log ho.1.2) (by simp only [len_app, l_emp, l_join, l_sp]; omega)
        (js_c (by simp only [len_app, l_emp, l_join, l_sp]; omega) (js_s (y := s.2.1) (fun R hR => dVar_at rfl (endD_ix0 hR)) (by simp only [len_app, l_emp, l_join, l_sp]; omega) (js_c (by simp only [len_app, l_emp, l_join, l_sp]; omega) (js_i (i := s.2.2) (fun R hR => dVar_at rfl (endD_ix1 hR)) (num_log ho.2.2) (by simp only [len_app, l_emp, l_join, l_sp]; omega) (js_nil ?_))))))))
      refine hy _ _ ⟨s, rfl, ho, ?_⟩ (Ext.refl _)
      rw [emp_app]
      show some (D.str _) = some (D.str (("join " : Str) ++ (s.1.1 ++ " " ++ numT s.1.2) ++ " " ++ (s.2.1 ++ " " ++ numT s.2.2)))
      simp only [app_assoc]
    have e2 := ho2.mapOf (h := fun a => D.str (joT a)) fun a b e => by rw [joD_inj e]
    subst e2
    refine addL (hE2.old _ _ hm1) hm2 (by simp only [List.length_map]; have := hp.n1; have := hp.n2; omega) fun p3 hp3 => ?_
    have hE3 := (hE1.trans hE2).trans (Ext.new (o := .lst (p.st.map (fun a => D.str (stT a)) ++ p.jo.map fun a => D.str (joT a))) hp3)
    have hm3 : (m2.set p3 (.lst (p.st.map (fun a => D.str (stT a)) ++ p.jo.map fun a => D.str (joT a)))).mu p3 = _ := M.set_same
    generalize m2.set p3 (.lst (p.st.map (fun a => D.str (stT a)) ++ p.jo.map fun a => D.str (joT a))) = m3 at hE3 hm3 ⊢
    refine dVar_at rfl ?_
    refine dLC_gen (I := fun _ => True) (Rel := fun d o => ∃ a, d = gaD a ∧ gaOk a ∧ o = some (.str (gaT a))) trivial (fun _ _ _ _ => trivial) (iT_w (xs := p.ga.map gaD) fun R hR => dVar_at rfl (SeqD.ix (.inl rfl) rfl hR)) (slk (by rw [List.length_map]; have := hp.n3; omega)) (fun d hd m' _ _ Ry Rn hy hn => ?_) (fun p4 m4 ys hp4 hE4 _ hm4 ho4 => ?_)
    · obtain ⟨s, hs, rfl⟩ := List.mem_map.mp hd
      have ho := hp.ga s hs
      have h1 := (nameS_len ho.1).2
      have h2 := (nameS_len ho.2.1).2
      have k2 := numT_len ho.2.2
      dsimp only [dRet, dSeq, dNext, dIfS, dSet, dExpr, dAsg, dPar, dPar3, gD, dOp, dUn, dArgs, dCons, dNil, dC, dB, dNot, dCall, dMeth, dMeth0, dIf, dLst, dTup, dSl, dNoPart, dPart, dM1, dOr, dAnd]
      refine ⟨[.str s.1, endD s.2], .inl rfl, rfl, yesT ?_⟩
      refine js_c (by simp only [len_app, l_emp, l_gate]; omega) (js_s (y := s.1) (fun R hR => dVar_at rfl hR) (by simp only [len_app, l_emp, l_gate]; omega) (js_c (by simp only [len_app, l_emp, l_gate, l_sp]; omega) (js_s (y := s.2.1) (fun R hR => dVar_at rfl (endD_ix0 hR)) (by simp only [len_app, l_emp, l_gate, l_sp]; omega) (js_c (by simp only [len_app, l_emp, l_gate, l_sp]; omega)
        (js_i (i := s.2.2) (fun R hR => dVar_at rfl (endD_ix1 hR)) (num_log ho.2.2) (by simp only [len_app, l_emp, l_gate, l_sp]; omega) (js_nil ?_))))))
      refine hy _ _ ⟨s, rfl, ho, ?_⟩ (Ext.refl _)
      rw [emp_app]
      show some (D.str _) = some (D.str (("gate " : Str) ++ s.1 ++ " " ++ (s.2.1 ++ " " ++ numT s.2.2)))
      simp only [app_assoc]
    have e4 := ho4.mapOf (h := fun a => D.str (gaT a)) fun a b e => by rw [gaD_inj e]
    subst e4
    refine addL (hE4.old _ _ hm3) hm4 (by simp only [List.length_map, List.length_append]; have := hp.n1; have := hp.n2; have := hp.n3; omega) fun p5 hp5 => ?_
    have hE5 := (hE3.trans hE4).trans (Ext.new (o := .lst (p.st.map (fun a => D.str (stT a)) ++ p.jo.map (fun a => D.str (joT a)) ++ p.ga.map fun a => D.str (gaT a))) hp5)
    have hp50 : m.mu p5 = none := by
      cases e : m.mu p5 with
      | none => rfl
      | some o => rw [(hE3.trans hE4).old _ _ e] at hp5; cases hp5
    have hm5 : (m4.set p5 (.lst (p.st.map (fun a => D.str (stT a)) ++ p.jo.map (fun a => D.str (joT a)) ++ p.ga.map fun a => D.str (gaT a)))).mu p5 = _ := M.set_same
    generalize m4.set p5 (.lst (p.st.map (fun a => D.str (stT a)) ++ p.jo.map (fun a => D.str (joT a)) ++ p.ga.map fun a => D.str (gaT a))) = m5 at hE5 hm5 ⊢
    have hb : (p.st.map (fun a => D.str (stT a)) ++ p.jo.map (fun a => D.str (joT a)) ++ p.ga.map fun a => D.str (gaT a)).length ≤ 32 := by simp only [List.length_map, List.length_append]; have := hp.n1; have := hp.n2; have := hp.n3; omega
    have hfin : p.lines.map D.str = (p.st.map (fun a => D.str (stT a)) ++ p.jo.map (fun a => D.str (joT a)) ++ p.ga.map fun a => D.str (gaT a)) ++ p.si.map fun a => D.str (siT a) := by
      unfold Pln.lines
      simp only [List.map_append, List.map_map]
      rfl
    generalize (p.st.map (fun a => D.str (stT a)) ++ p.jo.map (fun a => D.str (joT a)) ++ p.ga.map fun a => D.str (gaT a)) = base0 at hm5 hb hfin
    dsimp only [dFor, iT, dOp, dC]
    refine dVar_at rfl (SeqD.ix (.inl rfl) rfl ⟨p.si.map siD, .inl rfl, fun i δ m' => ∃ d2 d3 d4 d5 d6 d7 d8, δ = [some p.d, some (.ref p5), d2, d3, d4, d5, d6, d7, d8] ∧ Ext m m' ∧ m'.mu p5 = some (.lst (base0 ++ (p.si.take i).map fun a => D.str (siT a))), ?_, fun _ _ _ _ => trivial, ?_, ?_⟩)
    · exact ⟨_, _, _, _, _, _, _, rfl, hE5, by rw [hm5]; simp⟩
    · rintro i d δ m' hd ⟨d2, d3, d4, d5, d6, d7, d8, rfl, E6, hm6⟩
      obtain ⟨⟨nm, en, ov⟩, hs, rfl⟩ := map_get hd
      have ho := hp.si _ (List.mem_of_getElem? hs)
      obtain ⟨o1, o2, o3⟩ := ho
      dsimp only at o1 o2 o3
      have h1 := (nameS_len o1).2
      have h2 := (nameS_len o2.1).2
      have h3 := numT_len o2.2
      have hsl : (p.si.take i).length ≤ 10 := by rw [List.length_take]; have := hp.n4; omega
      have hlt : (base0 ++ (p.si.take i).map fun a => D.str (siT a)).length < sizeLine := slk (by rw [List.length_append, List.length_map]; omega)
      refine ⟨[.str nm, endD en, ovD ov], .inl rfl, rfl, ?_⟩
      dsimp only [dRet, dSeq, dNext, dIfS, dSet, dExpr, dAsg, dPar, dPar3, gD, dOp, dUn, dArgs, dCons, dNil, dC, dB, dNot, dCall, dMeth, dMeth0, dIf, dLst, dTup, dSl, dNoPart, dPart, dM1, dOr, dAnd]
      refine dVar_at rfl ⟨slk (by decide), ov_eq o3 ⟨_, rfl, ?_⟩⟩
      cases ov with
      | none =>
        refine ifT rfl (dVar_at rfl ⟨⟨p5, _, rfl, hm6⟩, js_c (by simp only [len_app, l_emp, l_signal]; omega) (js_s (y := nm) (fun R hR => dVar_at rfl hR) (by simp only [len_app, l_emp, l_signal]; omega) (js_c (by simp only [len_app, l_emp, l_signal, l_sp]; omega)
          (js_s (y := en.1) (fun R hR => dVar_at rfl (endD_ix0 hR)) (by simp only [len_app, l_emp, l_signal, l_sp]; omega) (js_c (by simp only [len_app, l_emp, l_signal, l_sp]; omega) (js_i (i := en.2) (fun R hR => dVar_at rfl (endD_ix1 hR)) (num_log o2.2) (by simp only [len_app, l_emp, l_signal, l_sp]; omega) (js_nil ?_))))))⟩)
        refine dVar_at rfl (aS (by rw [app_emp]; simp only [len_app, l_emp, l_signal, l_sp]; omega) ⟨p5, _, _, rfl, rfl, hm6, hlt, _, _, _, _, _, _, _, rfl, E6.set hp50, ?_⟩)
        rw [M.set_same, take_map_snoc _ hs, ← List.append_assoc]
        have e : Str.empty ++ "signal " ++ nm ++ " " ++ en.1 ++ " " ++ numT en.2 ++ "" = siT (nm, en, none) := by
          rw [app_emp, emp_app]
          show _ = ("signal " : Str) ++ nm ++ " " ++ (en.1 ++ " " ++ numT en.2)
          simp only [app_assoc]
        rw [e]
      | some t =>
        have ht := o3 t rfl
        have k1 := (nameS_len ht.1).2
        have k2 := numT_len ht.2.1
        have k3 := numT_len ht.2.2
        refine ifF rfl (js_c (by simp only [len_app, l_emp, l_over]; omega) (js_s (y := t.1) (by intro R hR; dsimp only [dOp, dC]; exact dVar_at rfl (SeqD.ix (.inl rfl) rfl (SeqD.ix (.inl rfl) rfl hR))) (by simp only [len_app, l_emp, l_over]; omega) (js_c (by simp only [len_app, l_emp, l_over, l_sp]; omega)
          (js_i (i := t.2.1) (by intro R hR; dsimp only [dOp, dC]; exact dVar_at rfl (SeqD.ix (.inl rfl) rfl (SeqD.ix (.inl rfl) rfl hR))) (num_log ht.2.1) (by simp only [len_app, l_emp, l_over, l_sp]; omega) (js_c (by simp only [len_app, l_emp, l_over, l_sp]; omega) (js_i (i := t.2.2) (by intro R hR; dsimp only [dOp, dC]; exact dVar_at rfl (SeqD.ix (.inl rfl) rfl (SeqD.ix (.inl rfl) rfl hR))) (num_log ht.2.2) (by simp only [len_app, l_emp, l_over, l_sp]; omega) (js_nil ?_)))))))
        have el : (Str.empty ++ " over " ++ t.1 ++ " " ++ numT t.2.1 ++ " " ++ numT t.2.2 : Str).length ≤ 30 := by simp only [len_app, l_emp, l_over, l_sp]; omega
        have ee : (Str.empty ++ " over " ++ t.1 ++ " " ++ numT t.2.1 ++ " " ++ numT t.2.2 : Str) = ovT t := by rw [emp_app]; rfl
        rw [ee] at el ⊢
        refine dVar_at rfl ⟨⟨p5, _, rfl, hm6⟩, js_c (by simp only [len_app, l_emp, l_signal]; omega) (js_s (y := nm) (fun R hR => dVar_at rfl hR) (by simp only [len_app, l_emp, l_signal]; omega) (js_c (by simp only [len_app, l_emp, l_signal, l_sp]; omega)
          (js_s (y := en.1) (fun R hR => dVar_at rfl (endD_ix0 hR)) (by simp only [len_app, l_emp, l_signal, l_sp]; omega) (js_c (by simp only [len_app, l_emp, l_signal, l_sp]; omega) (js_i (i := en.2) (fun R hR => dVar_at rfl (endD_ix1 hR)) (num_log o2.2) (by simp only [len_app, l_emp, l_signal, l_sp]; omega) (js_nil ?_))))))⟩
        refine dVar_at rfl (aS (by simp only [len_app, l_emp, l_signal, l_sp]; omega) ⟨p5, _, _, rfl, rfl, hm6, hlt, _, _, _, _, _, _, _, rfl, E6.set hp50, ?_⟩)
        rw [M.set_same, take_map_snoc _ hs, ← List.append_assoc]
        have e : Str.empty ++ "signal " ++ nm ++ " " ++ en.1 ++ " " ++ numT en.2 ++ ovT t = siT (nm, en, some t) := by
          rw [emp_app]
          show _ = (("signal " : Str) ++ nm ++ " " ++ (en.1 ++ " " ++ numT en.2)) ++ ovT t
          simp only [app_assoc]
        rw [e]
    · rintro δ m' ⟨d2, d3, d4, d5, d6, d7, d8, rfl, E6, hm6⟩
      refine dVar_at rfl (q p5 m' E6 ?_)
      rw [hm6, List.length_map, List.take_length, hfin]


theorem c_law_shuffled {f : Addr} {fd : FuncData} (F : Fun K "_law_shuffled" "_law_shuffled" s_law_shuffled f fd) (hm : mg "_law_shuffled" = some (.ref f)) (c_law_draw : DCal P w K mg base 1 "_law_draw" spDrawG) : DCal P w K mg base 2 "_law_shuffled" spShuf := by
  refine dcal F hm (F.binds (ps := ["deck", "some"]) fun _ _ _ _ _ _ us hl => match us, hl with | [_, _], _ => rfl) sc_law_shuffled (fun ds m Q h => ?_) (fun cdv A outer s H E hr => ⟨_, (dss_cons (ds_par rfl sc_law_shuffled.nd (i := 3) (j := 4) rfl rfl (by decide) rfl rfl (da_cons (de_bty call_list_of argl_list (by rfl) T.list (by decide +kernel) (da_cons (de_var 1) da_nil)) (da_cons (de_lst da_nil) da_nil)) (by rfl))
      (dss_cons (ds_for PassesOwn.never rfl (dpi_range (by rfl) T.range (de_len (by rfl) T.len (da_cons (de_var 1) da_nil))) (dg_name (i := 2) sc_law_shuffled.nd rfl (by first | exact Or.inl rfl | exact Or.inr rfl)) (dss_one (ds_expr (de_append (de_var 4) (de_popAt (de_var 3) (de_call c_law_draw hr (by decide) (by rfl) (da_cons (de_var 0) (da_cons (de_len (by rfl) T.len (da_cons (de_var 3) da_nil)) da_nil))))))))
      (dss_one (ds_ret (de_bty call_tuple_of argl_tuple (by rfl) T.tuple (by decide +kernel) (da_cons (de_var 4) da_nil)))))), fun ds m Q h => ?_⟩)
  · obtain ⟨d, xs, rfl, _⟩ := h; rfl
  · obtain ⟨d, xs, rfl, hd, hl, q⟩ := h
    dsimp only [dRet, dSeq, dNext, dIfS, dSet, dExpr, dAsg, dPar, dPar3, gD, dOp, dUn, dArgs, dCons, dNil, dC, dB, dNot, dCall, dMeth, dMeth0, dIf, dLst, dTup, dSl, dNoPart, dPart, dM1, dOr, dAnd]
    refine dVar_at rfl ⟨.tup xs, xs, rfl, .inl rfl, fun l hl0 => ⟨slk (by simp), fun pf hpf => ⟨_, _, rfl, ?_⟩⟩⟩
    have ne : l ≠ pf := fun z => by subst z; rw [M.set_same] at hpf; cases hpf
    have hpf0 : m.mu pf = none := by rw [M.set_ne ne.symm] at hpf; exact hpf
    dsimp only [dFor, iR1, dArgs, dCons, dNil, dExpr, dMeth, dCall, gD]
    refine dVar_at rfl ⟨.tup xs, xs.length, rfl, rfl, (xs.length : Int), rfl, by omega, by omega, ?_⟩
    rw [Int.toNat_natCast]
    refine ⟨fun i δ m' => ∃ ls fs dt, δ = [some d, some (.tup xs), dt, some (.ref l), some (.ref pf)] ∧ Ext m m' ∧ m'.mu l = some (.lst ls) ∧ m'.mu pf = some (.lst fs) ∧ (∀ y ∈ ls, y ∈ xs) ∧ (∀ y ∈ fs, y ∈ xs) ∧ ls.length + i = xs.length ∧ fs.length = i, ?_, fun _ _ _ _ => trivial, ?_, ?_⟩
    · exact ⟨xs, [], _, rfl, (Ext.new hl0).set hpf0, by rw [M.set_ne ne]; exact M.set_same, M.set_same, (fun y hy => hy), (fun y hy => by cases hy), by omega, rfl⟩
    · rintro i x δ m' hx ⟨ls, fs, dt, rfl, E1, h1, h2, h3, h4, h5, h6⟩
      have hi : i < xs.length := by
        by_cases z : i < xs.length
        · exact z
        · rw [List.getElem?_eq_none (by rw [rangeD_len]; omega)] at hx; cases hx
      refine dVar_at rfl ⟨⟨pf, _, rfl, h2⟩, dVar_at rfl ⟨⟨l, _, rfl, h1⟩, dVar_at rfl (dVar_at rfl ⟨.ref l, ls.length, rfl, ⟨_, h1, rfl⟩, d, (ls.length : Int), rfl, by omega, by omega, hd.ext E1.gh, fun r r0 r1 => popL h1 r0 r1 (by omega) fun y hy hk => ?_⟩)⟩⟩
      have g2 : (m'.set l (.lst (ls.eraseIdx r.toNat))).mu pf = some (.lst fs) := by rw [M.set_ne ne.symm]; exact h2
      refine ⟨pf, fs, y, rfl, rfl, g2, slk (by omega), ls.eraseIdx r.toNat, fs ++ [y], _, rfl, (E1.set hl0).set hpf0, ?_, M.set_same, fun z hz => h3 z (List.mem_of_mem_eraseIdx hz), fun z hz => ?_, ?_, by rw [List.length_append, h6]; rfl⟩
      · rw [M.set_ne ne]; exact M.set_same
      · rcases List.mem_append.mp hz with hz | hz
        · exact h4 z hz
        · rw [List.mem_singleton.mp hz]; exact h3 y hy
      · rw [List.length_eraseIdx, if_pos (by omega)]; omega
    · rintro δ m' ⟨ls, fs, dt, rfl, E1, h1, h2, h3, h4, h5, h6⟩
      rw [rangeD_len] at h5 h6
      exact dVar_at rfl ⟨.ref pf, fs, rfl, .inl ⟨pf, rfl, h2⟩, q fs m' h4 h6 E1⟩


include hOk

theorem c_law_is_written {f : Addr} {fd : FuncData} (F : Fun K "_law_is_written" "_law_is_written" s_law_is_written f fd) (hm : mg "_law_is_written" = some (.ref f)) (c_law_lines : DCal P w K mg base 1 "_law_lines" spLines)(c_plan_text : DCal P w K mg base 13 "plan_text" (spText Ok)) (ck_plan_text : DCalK P w K mg base 13 "plan_text" ["plan"] (spText Ok)) : DCal P w K mg base 14 "_law_is_written" (spWrit Ok) := by
  refine dcal F hm (F.binds (ps := ["plan"]) fun _ _ _ _ _ _ us hl => match us, hl with | [_], _ => rfl) sc_law_is_written (fun ds m Q h => ?_) (fun cdv A outer s H E hr => ⟨_, (dss_cons (ds_par rfl sc_law_is_written.nd (i := 1) (j := 2) rfl rfl (by decide) rfl rfl (da_cons (de_join de_str (de_call c_law_lines hr (by decide) (by rfl) (da_cons (de_var 0) da_nil))) (da_cons (de_call c_plan_text hr (by decide) (by rfl) (da_cons (de_var 0) da_nil)) da_nil)) (by rfl))
      (dss_cons (ds_if (dt_w (dw_or (dt_not (dt_val (de_isi (T := "str") (by rfl) T.isinstance (by decide +kernel) (de_var 2) (pe_bltn (by rfl) T.str (by decide +kernel) rfl)))) (dw_or (dt_cmp (dc_ne hr) (de_var 2) (de_var 1)) (dw_or1 (dt_cmp (dc_ne hr) (de_callK ck_plan_text hr (by decide) (by rfl) (dk_cons (de_var 0) dk_nil)) (de_var 1)))))) (dss_one (ds_ret de_bl)) dss_nil)
      (dss_one (ds_ret (de_cmp (dc_eq hr) (de_call c_plan_text hr (by decide) (by rfl) (da_cons (de_var 0) da_nil)) (de_var 1)))))), fun ds m Q h => ?_⟩)
  · obtain ⟨p, rfl, _⟩ := h; rfl
  · obtain ⟨p, rfl, hp, hO, q⟩ := h
    dsimp only [dRet, dSeq, dNext, dIfS, dSet, dExpr, dAsg, dPar, dPar3, gD, dOp, dUn, dArgs, dCons, dNil, dC, dB, dNot, dCall, dMeth, dMeth0, dIf, dLst, dTup, dSl, dNoPart, dPart, dM1, dOr, dAnd]
    refine ⟨⟨_, rfl⟩, dVar_at rfl ⟨p, rfl, hp, fun a m1 E1 h1 => ⟨"\n", .ref a, p.lines, rfl, rfl, .inr (.inr ⟨a, rfl, h1⟩), hp.size, dVar_at rfl ⟨p, rfl, hp, hOk _ _ hO E1.gh, fun m2 E2 => ⟨_, _, rfl, isiS (fun R hR => dVar_at rfl hR) ⟨_, rfl, ifF rfl ?_⟩⟩⟩⟩⟩⟩
    refine dVar_at rfl (dVar_at rfl (neT ⟨_, rfl, ifF (by simp) (dVar_at rfl ⟨p, rfl, hp, hOk _ _ hO (E1.trans E2).gh, fun m3 E3 => dVar_at rfl (neT ⟨_, rfl, ifF (by simp) (dVar_at rfl ⟨p, rfl, hp, hOk _ _ hO ((E1.trans E2).trans E3).gh, fun m4 E4 => dVar_at rfl (eqT ?_)⟩)⟩)⟩)⟩))
    rw [decide_eq_true rfl]
    exact q _ (((E1.trans E2).trans E3).trans E4)


omit hOk

end
end PR

namespace PL
open PySem PySem.Spec PyProof.Rows L2 GA GxR DL
theorem listOf {α : Type} {f : α → D} {P : α → Prop} : ∀ {ys : List D}, (∀ y ∈ ys, ∃ a, y = f a ∧ P a) → ∃ l : List α, ys = l.map f ∧ ∀ a ∈ l, P a
  | [], _ => ⟨[], rfl, by simp⟩
  | y :: ys, h => by
    obtain ⟨a, rfl, pa⟩ := h y List.mem_cons_self
    obtain ⟨l, rfl, pl⟩ := listOf fun z hz => h z (List.mem_cons_of_mem _ hz)
    exact ⟨a :: l, rfl, fun b hb => by
      rcases List.mem_cons.mp hb with rfl | hb
      · exact pa
      · exact pl b hb⟩
theorem pk {α : Type} {f : α → D} {l : List α} {d : D} {a : Addr} {m : M} {Q : DK} (hd : Dk m d) (h : m.mu a = some (.lst (l.map f))) (h0 : l ≠ []) (hl : l.length ≤ 1000) (q : ∀ x ∈ l, Q (f x) m) : spPick [d, .ref a] m Q :=
  ⟨d, .ref a, l.map f, rfl, hd, .inr (.inr ⟨a, rfl, h⟩), (by simpa using h0), (by rw [List.length_map]; omega), fun y hy => by
    obtain ⟨x, hx, rfl⟩ := List.mem_map.mp hy
    exact q x hx⟩
theorem pk' {l : List Str} {d : D} {a : Addr} {m : M} {Q : DK} (hd : Dk m d) (h : m.mu a = some (.lst (l.map D.str))) (h0 : l ≠ []) (hl : l.length ≤ 1000) (q : ∀ x ∈ l, Q (.str x) m) : spPick [d, .ref a] m Q := pk hd h h0 hl q
theorem drw {d : D} {n : Int} {m : M} {Q : DK} (hd : Dk m d) (h0 : 0 < n) (h1 : n < 1073741824) (q : ∀ r, 0 ≤ r → r < n → Q (.int r) m) : spDrawG [d, .int n] m Q := ⟨d, n, rfl, h0, h1, hd, q⟩
theorem dFor_draw {te : DTr} {g : Tg} {tb : DTS} {E : DEnds} {δ : Sl} {m : M} {n : Int} (hn : n < 2 ^ 62) (hT : ∀ R : DK, (∀ r : Int, 0 ≤ r → r < n → R (.int r) m) → te δ m R) (P : Nat → Sl → M → Prop) (h0 : P 0 δ m)
    (hs : ∀ (i : Nat) δ m', (i : Int) < n → P i δ m' → gD g (.int (i : Int)) δ fun δ2 => tb { E with nx := P (i + 1), ct := P (i + 1), bk := E.nx } δ2 m') (hd : ∀ (r : Nat) δ m', (r : Int) < n → P r δ m' → E.nx δ m') : dFor (iR1 te) g tb E δ m := by
  refine hT _ fun r r0 r1 => ⟨r, rfl, by omega, by omega, P, h0, fun _ _ _ _ => trivial, fun i d δ' m' hi hP => ?_, fun δ' m' hP => ?_⟩
  · have hlt : i < r.toNat := by
      by_cases z : i < r.toNat
      · exact z
      · rw [List.getElem?_eq_none (by rw [rangeD_len]; omega)] at hi; cases hi
    rw [rangeD_get hlt] at hi; cases hi
    exact hs i δ' m' (by omega) hP
  · rw [rangeD_len] at hP
    exact hd r.toNat δ' m' (by omega) hP
theorem tupL {a : Addr} {ds : List D} {m : M} {Q : DK} (h : m.mu a = some (.lst ds)) (q : Q (.tup ds) m) : rdTuple [.ref a] m Q := ⟨.ref a, ds, rfl, .inl ⟨a, rfl, h⟩, q⟩
theorem ap {a : Addr} {ds : List D} {y : D} {m : M} {Q : DK} (h : m.mu a = some (.lst ds)) (hz : ds.length < 1000) (q : Q .non (m.set a (.lst (ds ++ [y])))) : rdAppend (.ref a) [y] m Q := ⟨a, ds, y, rfl, rfl, h, slk (by omega), q⟩
theorem kinds3 : ∀ s ∈ (["plain", "points", "crossing"] : List Str), kindS s = true := by decide
end PL

namespace PR
open PySem PySem.Spec PyProof.Rows L2 GA GxR DL PL
abbrev s_law_free : Stmt := top 34
theorem sc_law_free : FnScope ["deck", "used", "turn", "ends", "stretches", "joints", "gates", "signals", "many", "kinds", "step"] ["deck"] (defScope s_law_free) := ⟨rfl, rfl, rfl, by decide +kernel, rfl, by decide +kernel, by decide +kernel⟩
section
variable {P : Program} {w : World} {K : PySem.W.Frag} {mg : Str → Option Value} {base : Heap} (T : TxtL mg) (Ok : M → Prop) (hOk : ∀ a b : M, Ok a → b.gh = a.gh → Ok b)
include T

theorem c_law_free {f : Addr} {fd : FuncData} (F : Fun K "_law_free" "_law_free" s_law_free f fd) (hm : mg "_law_free" = some (.ref f)) (c_law_draw : DCal P w K mg base 1 "_law_draw" spDrawG)(c_law_pick : DCal P w K mg base 2 "_law_pick" spPick)(c_law_name : DCal P w K mg base 3 "_law_name" spName) : DCal P w K mg base 4 "_law_free" spFree := by
  refine dcal F hm (F.binds (ps := ["deck"]) fun _ _ _ _ _ _ us hl => match us, hl with | [_], _ => rfl) sc_law_free (fun ds m Q h => ?_) (fun cdv A outer s H E hr => ⟨_, (dss_cons (ds_set (i := 1) sc_law_free.nd rfl (by first | exact Or.inl rfl | exact Or.inr rfl) (de_lst (da_cons de_str (da_cons de_str (da_cons de_str da_nil)))))
      (dss_cons (ds_for PassesOwn.never rfl (dpi_range (by rfl) T.range (de_call c_law_draw hr (by decide) (by rfl) (da_cons (de_var 0) (da_cons de_int da_nil)))) (dg_name (i := 2) sc_law_free.nd rfl (by first | exact Or.inl rfl | exact Or.inr rfl)) (dss_one (ds_expr (de_call c_law_name hr (by decide) (by rfl) (da_cons (de_var 0) (da_cons (de_var 1) da_nil))))))
      (dss_cons (ds_set (i := 3) sc_law_free.nd rfl (by first | exact Or.inl rfl | exact Or.inr rfl) (de_lc (own := [("turn", 2)]) rfl sc_law_free.nd (dpi_range (by rfl) T.range de_int) (blkOk_by (N := ["deck", "used", "turn", "ends", "stretches", "joints", "gates", "signals", "many", "kinds", "step"]) (sc := defScope s_law_free) (by decide +kernel)) (fun _ _ _ _ _ => (dg_name (i := 2) sc_law_free.nd rfl (by first | exact Or.inl rfl | exact Or.inr rfl))) (fun _ _ _ _ _ => dpts_nil) (fun _ _ _ _ _ => (de_tup (da_cons (de_call c_law_pick hr (by decide) (by rfl) (da_cons (de_var 0) (da_cons (de_var 1) da_nil))) (da_cons (de_call c_law_draw hr (by decide) (by rfl) (da_cons (de_var 0) (da_cons de_int da_nil))) da_nil))))))
      (dss_cons (ds_asg (de_tup (da_cons (de_call c_law_draw hr (by decide) (by rfl) (da_cons (de_var 0) (da_cons de_int da_nil))) (da_cons (de_lst (da_cons de_str (da_cons de_str (da_cons de_str da_nil)))) da_nil))) (dg_tup rfl (dgs_cons (pg_name (i := 8) sc_law_free.nd rfl (by first | exact Or.inl rfl | exact Or.inr rfl)) (dgs_cons (pg_name (i := 9) sc_law_free.nd rfl (by first | exact Or.inl rfl | exact Or.inr rfl)) dgs_nil))))
      (dss_cons (ds_setLc (i := 4) (own := [("turn", 2)]) rfl sc_law_free.nd rfl rfl (sw_true rfl rfl rfl (by decide +kernel)) (dpi_range (by rfl) T.range (de_var 8)) (blkOk_by (N := ["deck", "used", "turn", "ends", "stretches", "joints", "gates", "signals", "many", "kinds", "step"]) (sc := defScope s_law_free) (by decide +kernel)) (fun _ _ _ _ _ => (dg_name (i := 2) sc_law_free.nd rfl (by first | exact Or.inl rfl | exact Or.inr rfl))) (fun _ _ _ _ _ => dpts_nil) (fun _ _ _ _ _ => (de_tup (da_cons (de_call c_law_pick hr (by decide) (by rfl) (da_cons (de_var 0) (da_cons (de_var 1) da_nil))) (da_cons (de_call c_law_pick hr (by decide) (by rfl) (da_cons (de_var 0) (da_cons (de_var 9) da_nil))) da_nil)))))
      (dss_cons (ds_setLc (i := 5) (own := [("turn", 2)]) rfl sc_law_free.nd rfl rfl (sw_true rfl rfl rfl (by decide +kernel)) (dpi_range (by rfl) T.range (de_call c_law_draw hr (by decide) (by rfl) (da_cons (de_var 0) (da_cons de_int da_nil)))) (blkOk_by (N := ["deck", "used", "turn", "ends", "stretches", "joints", "gates", "signals", "many", "kinds", "step"]) (sc := defScope s_law_free) (by decide +kernel)) (fun _ _ _ _ _ => (dg_name (i := 2) sc_law_free.nd rfl (by first | exact Or.inl rfl | exact Or.inr rfl))) (fun _ _ _ _ _ => dpts_nil) (fun _ _ _ _ _ => (de_tup (da_cons (de_call c_law_pick hr (by decide) (by rfl) (da_cons (de_var 0) (da_cons (de_var 3) da_nil))) (da_cons (de_call c_law_pick hr (by decide) (by rfl) (da_cons (de_var 0) (da_cons (de_var 3) da_nil))) da_nil)))))
      (dss_cons (ds_setLc (i := 6) (own := [("turn", 2)]) rfl sc_law_free.nd rfl rfl (sw_true rfl rfl rfl (by decide +kernel)) (dpi_range (by rfl) T.range (de_call c_law_draw hr (by decide) (by rfl) (da_cons (de_var 0) (da_cons de_int da_nil)))) (blkOk_by (N := ["deck", "used", "turn", "ends", "stretches", "joints", "gates", "signals", "many", "kinds", "step"]) (sc := defScope s_law_free) (by decide +kernel)) (fun _ _ _ _ _ => (dg_name (i := 2) sc_law_free.nd rfl (by first | exact Or.inl rfl | exact Or.inr rfl))) (fun _ _ _ _ _ => dpts_nil) (fun _ _ _ _ _ => (de_tup (da_cons (de_call c_law_pick hr (by decide) (by rfl) (da_cons (de_var 0) (da_cons (de_var 1) da_nil))) (da_cons (de_call c_law_pick hr (by decide) (by rfl) (da_cons (de_var 0) (da_cons (de_var 3) da_nil))) da_nil)))))
      (dss_cons (ds_set (i := 7) sc_law_free.nd rfl (by first | exact Or.inl rfl | exact Or.inr rfl) (de_lst da_nil))
      (dss_cons (ds_for PassesOwn.never rfl (dpi_range (by rfl) T.range (de_call c_law_draw hr (by decide) (by rfl) (da_cons (de_var 0) (da_cons de_int da_nil)))) (dg_name (i := 2) sc_law_free.nd rfl (by first | exact Or.inl rfl | exact Or.inr rfl)) (dss_cons (ds_set (i := 10) sc_law_free.nd rfl (by first | exact Or.inl rfl | exact Or.inr rfl) (de_add (de_call c_law_pick hr (by decide) (by rfl) (da_cons (de_var 0) (da_cons (de_var 3) da_nil))) (de_tup (da_cons (de_call c_law_draw hr (by decide) (by rfl) (da_cons (de_var 0) (da_cons de_int da_nil))) da_nil))))
      (dss_one (ds_expr (de_append (de_var 7) (de_tup (da_cons (de_call c_law_pick hr (by decide) (by rfl) (da_cons (de_var 0) (da_cons (de_var 1) da_nil))) (da_cons (de_call c_law_pick hr (by decide) (by rfl) (da_cons (de_var 0) (da_cons (de_var 3) da_nil))) (da_cons (de_ifE (dt_cmp (dc_eq hr) (de_call c_law_draw hr (by decide) (by rfl) (da_cons (de_var 0) (da_cons de_int da_nil))) de_int) (de_tup (da_cons (de_var 10) da_nil)) (de_tup da_nil)) da_nil)))))))))
      (dss_one (ds_ret (de_tup (da_cons (de_bty call_tuple_of argl_tuple (by rfl) T.tuple (by decide +kernel) (da_cons (de_var 4) da_nil)) (da_cons (de_bty call_tuple_of argl_tuple (by rfl) T.tuple (by decide +kernel) (da_cons (de_var 5) da_nil)) (da_cons (de_bty call_tuple_of argl_tuple (by rfl) T.tuple (by decide +kernel) (da_cons (de_var 6) da_nil)) (da_cons (de_bty call_tuple_of argl_tuple (by rfl) T.tuple (by decide +kernel) (da_cons (de_var 7) da_nil)) da_nil)))))))))))))))), fun ds m Q h => ?_⟩)
  · obtain ⟨d, rfl, _⟩ := h; rfl
  · obtain ⟨d, rfl, hd, q⟩ := h
    dsimp only [dRet, dSeq, dNext, dIfS, dSet, dExpr, dAsg, dPar, dPar3, gD, dOp, dUn, dArgs, dCons, dNil, dC, dB, dNot, dCall, dMeth, dMeth0, dIf, dLst, dTup, dSl, dNoPart, dPart, dM1, dOr, dAnd, dDGet]
    refine ⟨slk (by simp), fun u hu0 => ?_⟩
    refine dFor_draw (n := 12) (by decide) (fun R hR => dVar_at rfl (drw (hd.ext rfl) (by decide) (by decide) hR)) (fun i δ m' => ∃ (us : List Str) (d2 : Option D), δ = [some d, some (.ref u), d2, none, none, none, none, none, none, none, none] ∧ Ext m m' ∧ m'.mu u = some (.lst (us.map D.str)) ∧ us.length = 3 + i ∧ ∀ s ∈ us, nameS s = true) ?_ ?_ ?_
    · exact ⟨["a", "b", "points"], _, rfl, Ext.new hu0, M.set_same, rfl, by decide +kernel⟩
    · rintro i δ m' hi ⟨us, d2, rfl, E1, h1, h2, h3⟩
      dsimp only [dRet, dSeq, dNext, dIfS, dSet, dExpr, dAsg, dPar, dPar3, gD, dOp, dUn, dArgs, dCons, dNil, dC, dB, dNot, dCall, dMeth, dMeth0, dIf, dLst, dTup, dSl, dNoPart, dPart, dM1, dOr, dAnd, dDGet]
      refine dVar_at rfl (dVar_at rfl ⟨d, u, us, rfl, hd.ext E1.gh, h1, by omega, fun s m2 hs _ hC hu2 => ⟨us ++ [s], _, rfl, ⟨hC.gh.trans E1.gh, fun a o z => hC.old a o (fun e => by subst e; rw [hu0] at z; cases z) (E1.old a o z)⟩, hu2, by rw [List.length_append, h2]; rfl, fun t ht => ?_⟩⟩)
      rcases List.mem_append.mp ht with ht | ht
      · exact h3 t ht
      · rw [List.mem_singleton.mp ht]; exact hs
    rintro r δ m1 hr ⟨us, d2, rfl, E1, hu1, hul, hus⟩
    dsimp only
    have hune : us ≠ [] := fun z => by rw [z] at hul; simp at hul; omega
    have hul' : us.length ≤ 1000 := by omega
    clear hul hr
    refine dLC_gen (I := fun x => Ext m1 x) (Rel := fun _ o => ∃ e, endOk e ∧ o = some (endD e)) (Ext.refl _) (fun _ _ h e => h.trans e) (iR_w (j := 20) (fun R hR => hR) (by decide) (by decide)) (slk (by rw [rangeD_len]; decide)) (fun x hx m' _ hE' Ry Rn hy hn => ?_) (fun pe m2 ys hpe hE2 _ hm2 ho => ?_)
    · dsimp only [dRet, dSeq, dNext, dIfS, dSet, dExpr, dAsg, dPar, dPar3, gD, dOp, dUn, dArgs, dCons, dNil, dC, dB, dNot, dCall, dMeth, dMeth0, dIf, dLst, dTup, dSl, dNoPart, dPart, dM1, dOr, dAnd, dDGet]
      refine yesT ?_
      exact dVar_at rfl (dVar_at rfl (pk (hd.ext (E1.trans hE').gh) (hE'.old _ _ hu1) hune hul' fun s hs => dVar_at rfl (drw (hd.ext (E1.trans hE').gh) (by decide) (by decide) fun r2 a b => ⟨slk (by simp), hy _ _ ⟨(s, r2), ⟨hus s hs, a, by omega⟩, rfl⟩ (Ext.refl _)⟩)))
    obtain ⟨es, rfl, hes, hel⟩ := ho.exL
    rw [rangeD_len] at hel
    have hene : es ≠ [] := fun z => by rw [z] at hel; cases hel
    have hel' : es.length ≤ 1000 := by rw [hel]; decide
    have hu2 := hE2.old _ _ hu1
    have E2 := E1.trans hE2
    refine dVar_at rfl (drw (hd.ext E2.gh) (by decide) (by decide) fun many mn0 mn1 => ⟨slk (by simp), fun pkk hpk => ⟨slk (by simp), [.int many, .ref pkk], .inl rfl, rfl, ?_⟩⟩)
    have E3 := E2.trans (Ext.new (o := .lst ((["plain", "points", "crossing"] : List Str).map D.str)) hpk)
    have hu3 := (Ext.new (o := .lst ((["plain", "points", "crossing"] : List Str).map D.str)) hpk).old _ _ hu2
    have he3 := (Ext.new (o := .lst ((["plain", "points", "crossing"] : List Str).map D.str)) hpk).old _ _ hm2
    have hk3 : (m2.set pkk (.lst ((["plain", "points", "crossing"] : List Str).map D.str))).mu pkk = _ := M.set_same
    have eqm : m2.set pkk (.lst [.str "plain", .str "points", .str "crossing"]) = m2.set pkk (.lst ((["plain", "points", "crossing"] : List Str).map D.str)) := rfl
    rw [eqm]
    generalize m2.set pkk (.lst ((["plain", "points", "crossing"] : List Str).map D.str)) = m3 at E3 hu3 he3 hk3 ⊢
    refine dLC_gen (I := fun x => Ext m3 x) (Rel := fun _ o => ∃ s, strOk' s ∧ o = some (strD s)) (Ext.refl _) (fun _ _ h e => h.trans e) (iR_w (j := many) (fun R hR => dVar_at rfl hR) (by omega) (by omega)) (slk (by rw [rangeD_len]; omega)) (fun x hx m' _ hE' Ry Rn hy hn => ?_) (fun p4 m4 ys hp4 hE4 _ hm4 ho => ?_)
    · dsimp only [dRet, dSeq, dNext, dIfS, dSet, dExpr, dAsg, dPar, dPar3, gD, dOp, dUn, dArgs, dCons, dNil, dC, dB, dNot, dCall, dMeth, dMeth0, dIf, dLst, dTup, dSl, dNoPart, dPart, dM1, dOr, dAnd, dDGet]
      refine yesT ?_
      exact dVar_at rfl (dVar_at rfl (pk (hd.ext (E3.trans hE').gh) (hE'.old _ _ hu3) hune hul' fun s hs => dVar_at rfl (dVar_at rfl (pk (hd.ext (E3.trans hE').gh) (hE'.old _ _ hk3) (by simp) (by decide) fun k hk => ⟨slk (by simp), hy _ _ ⟨(s, k), ⟨hus s hs, kinds3 k hk⟩, rfl⟩ (Ext.refl _)⟩))))
    obtain ⟨st, rfl, hst, hstl⟩ := ho.exL
    rw [rangeD_len] at hstl
    have E4 := E3.trans hE4
    have hu4 := hE4.old _ _ hu3
    have he4 := hE4.old _ _ he3
    refine dLC_draw (n := 17) (by decide) (fun R hR => dVar_at rfl (drw (hd.ext E4.gh) (by decide) (by decide) hR)) fun rj hrj => ?_
    refine dLC_gen (I := fun x => Ext m4 x) (Rel := fun _ o => ∃ s, joOk s ∧ o = some (joD s)) (Ext.refl _) (fun _ _ h e => h.trans e) cw_w (slk (by rw [rangeD_len]; omega)) (fun x hx m' _ hE' Ry Rn hy hn => ?_) (fun p5 m5 ys hp5 hE5 _ hm5 ho => ?_)
    · dsimp only [dRet, dSeq, dNext, dIfS, dSet, dExpr, dAsg, dPar, dPar3, gD, dOp, dUn, dArgs, dCons, dNil, dC, dB, dNot, dCall, dMeth, dMeth0, dIf, dLst, dTup, dSl, dNoPart, dPart, dM1, dOr, dAnd, dDGet]
      refine yesT ?_
      exact dVar_at rfl (dVar_at rfl (pk (hd.ext (E4.trans hE').gh) (hE'.old _ _ he4) hene hel' fun s hs => dVar_at rfl (dVar_at rfl (pk (hd.ext (E4.trans hE').gh) (hE'.old _ _ he4) hene hel' fun k hk => ⟨slk (by simp), hy _ _ ⟨(s, k), ⟨hes s hs, hes k hk⟩, rfl⟩ (Ext.refl _)⟩))))
    obtain ⟨jo, rfl, hjo, hjol⟩ := ho.exL
    rw [rangeD_len] at hjol
    have E5 := E4.trans hE5
    have hu5 := hE5.old _ _ hu4
    have he5 := hE5.old _ _ he4
    have hst5 := hE5.old _ _ hm4
    refine dLC_draw (n := 5) (by decide) (fun R hR => dVar_at rfl (drw (hd.ext E5.gh) (by decide) (by decide) hR)) fun rg hrg => ?_
    refine dLC_gen (I := fun x => Ext m5 x) (Rel := fun _ o => ∃ s, gaOk s ∧ o = some (gaD s)) (Ext.refl _) (fun _ _ h e => h.trans e) cw_w (slk (by rw [rangeD_len]; omega)) (fun x hx m' _ hE' Ry Rn hy hn => ?_) (fun p6 m6 ys hp6 hE6 _ hm6 ho => ?_)
    · dsimp only [dRet, dSeq, dNext, dIfS, dSet, dExpr, dAsg, dPar, dPar3, gD, dOp, dUn, dArgs, dCons, dNil, dC, dB, dNot, dCall, dMeth, dMeth0, dIf, dLst, dTup, dSl, dNoPart, dPart, dM1, dOr, dAnd, dDGet]
      refine yesT ?_
      exact dVar_at rfl (dVar_at rfl (pk (hd.ext (E5.trans hE').gh) (hE'.old _ _ hu5) hune hul' fun s hs => dVar_at rfl (dVar_at rfl (pk (hd.ext (E5.trans hE').gh) (hE'.old _ _ he5) hene hel' fun k hk => ⟨slk (by simp), hy _ _ ⟨(s, k), ⟨hus s hs, hes k hk⟩, rfl⟩ (Ext.refl _)⟩))))
    obtain ⟨ga, rfl, hga, hgal⟩ := ho.exL
    rw [rangeD_len] at hgal
    have E6 := E5.trans hE6
    have hu6 := hE6.old _ _ hu5
    have he6 := hE6.old _ _ he5
    have hst6 := hE6.old _ _ hst5
    have hjo6 := hE6.old _ _ hm5
    refine ⟨slk (by simp), fun p7 hp7 => ?_⟩
    refine dFor_draw (n := 11) (by decide) (fun R hR => dVar_at rfl (drw (hd.ext E6.gh) (by decide) (by decide) hR)) (fun i δ m' => ∃ (ss : List (Str × PL.End × Option PL.Step)) (d2 d10 : Option D), δ = [some d, some (.ref u), d2, some (.ref pe), some (.ref p4), some (.ref p5), some (.ref p6), some (.ref p7), some (.int many), some (.ref pkk), d10] ∧ Ext m6 m' ∧ m'.mu p7 = some (.lst (ss.map siD)) ∧ ss.length = i ∧ ∀ s ∈ ss, siOk s) ?_ ?_ ?_
    · exact ⟨[], _, _, rfl, Ext.new hp7, M.set_same, rfl, fun s hs => by cases hs⟩
    · rintro i δ m' hi ⟨ss, d2, d10, rfl, hE', h7, hsl, hss⟩
      dsimp only [dRet, dSeq, dNext, dIfS, dSet, dExpr, dAsg, dPar, dPar3, gD, dOp, dUn, dArgs, dCons, dNil, dC, dB, dNot, dCall, dMeth, dMeth0, dIf, dLst, dTup, dSl, dNoPart, dPart, dM1, dOr, dAnd, dDGet]
      have hdk := hd.ext (E6.trans hE').gh
      refine dVar_at rfl (dVar_at rfl (pk hdk (hE'.old _ _ he6) hene hel' fun e he => dVar_at rfl (drw hdk (by decide) (by decide) fun r2 a b => ⟨slk (by simp), (fun z => by cases z), slk (by simp), ?_⟩)))
      refine dVar_at rfl ⟨⟨p7, _, rfl, h7⟩, dVar_at rfl (dVar_at rfl (pk hdk (hE'.old _ _ hu6) hune hul' fun s hs => dVar_at rfl (dVar_at rfl (pk hdk (hE'.old _ _ he6) hene hel' fun e2 he2 => dVar_at rfl (drw hdk (by decide) (by decide) fun r3 a3 b3 => eqI ⟨_, rfl, ?_⟩)))))⟩
      refine iff_T (fun _ => dVar_at rfl ⟨slk (by simp), slk (by simp), ap h7 (by rw [List.length_map]; omega) ⟨ss ++ [(s, e2, some (e.1, e.2, r2))], _, _, rfl, hE'.set hp7, by rw [M.set_same, List.map_append]; rfl, by rw [List.length_append, hsl]; rfl, fun t ht => ?_⟩⟩) fun _ => ⟨slk (by simp), slk (by simp), ap h7 (by rw [List.length_map]; omega) ⟨ss ++ [(s, e2, none)], _, _, rfl, hE'.set hp7, by rw [M.set_same, List.map_append]; rfl, by rw [List.length_append, hsl]; rfl, fun t ht => ?_⟩⟩
      · rcases List.mem_append.mp ht with ht | ht
        · exact hss t ht
        · rw [List.mem_singleton.mp ht]
          exact ⟨hus s hs, hes e2 he2, fun t h => by cases h; exact ⟨(hes e he).1, (hes e he).2, a, (by show r2 ≤ 3; omega)⟩⟩
      · rcases List.mem_append.mp ht with ht | ht
        · exact hss t ht
        · rw [List.mem_singleton.mp ht]
          exact ⟨hus s hs, hes e2 he2, fun t h => by cases h⟩
    · rintro r δ m' hr ⟨ss, d2, d10, rfl, hE', h7, hsl, hss⟩
      dsimp only
      refine dVar_at rfl (tupL (hE'.old _ _ hst6) (dVar_at rfl (tupL (hE'.old _ _ hjo6) (dVar_at rfl (tupL (hE'.old _ _ hm6) (dVar_at rfl (tupL h7 ⟨slk (by simp), q ⟨st, jo, ga, ss⟩ m' ⟨hst, hjo, hga, hss, ?_, ?_, ?_, ?_⟩ (E6.trans hE')⟩)))))))
      · show st.length ≤ 12; omega
      · show jo.length ≤ 16; omega
      · show ga.length ≤ 4; omega
      · show ss.length ≤ 10; omega


end
end PR

namespace PL
open PySem PySem.Spec PyProof.Rows L2 GA GxR DL
def strKV (kvs : List (Str × Str)) : List (Key × D) := kvs.map fun p => (Sum.inr p.1, D.str p.2)
/-- an end of a stretch of these kinds -/
def KE (kvs : List (Str × Str)) (e : End) : Prop := endOk e ∧ ∃ kind, (e.1, kind) ∈ kvs ∧ kindS kind = true ∧ (kind = "plain" → e.2 ≤ 1)
def spOver : DSp := fun ds m Q => ∃ (d : D) (k : Addr) (kvs : List (Str × Str)) (e : End), ds = [d, .ref k, endD e] ∧ Dk m d ∧ m.mu k = some (.dic (strKV kvs)) ∧ (kvs.map (·.1)).Nodup ∧ KE kvs e ∧ ∀ o, (∀ t, o = some t → stepOk t) → Q (ovD o) m
/-- the dict of joined ends -/
def joKV (kvs : List (End × End)) : List (List Key × D) := kvs.map fun p => ([Sum.inr p.1.1, Sum.inl p.1.2], endD p.2)
structure Chg2 (u v : Addr) (m m' : M) : Prop where
  gh : m'.gh = m.gh
  old : ∀ a o, a ≠ u → a ≠ v → m.mu a = some o → m'.mu a = some o
def spJoints : DSp := fun ds m Q => ∃ (Pe : End → Prop) (d : D) (f j : Addr) (es : List End), ds = [d, .ref f, .ref j] ∧ Dk m d ∧ f ≠ j ∧ m.mu f = some (.lst (es.map endD)) ∧ m.mu j = some (.dit []) ∧ es.length ≤ 100 ∧ (∀ e ∈ es, Pe e) ∧ (∀ e, Pe e → endOk e) ∧
  ∀ (a : Addr) (m' : M) (js : List (End × End)) (es' : List End) (kvs : List (End × End)), Chg2 f j m m' → m.mu a = none → m'.mu f = some (.lst (es'.map endD)) → m'.mu j = some (.dit (joKV kvs)) → m'.mu a = some (.lst (js.map joD)) → (∀ x ∈ js, joOk x) → js.length ≤ 16 → (∀ e ∈ es', Pe e) → es'.length ≤ es.length → (∀ p ∈ kvs, Pe p.1 ∧ Pe p.2) → kvs.length ≤ 32 → Q (.ref a) m'
def spChecked : DSp := fun ds m Q => ∃ (d : D) (u : Addr) (us : List Str) (k : Nat), ds = [d, .ref u, .int k] ∧ Dk m d ∧ m.mu u = some (.lst (us.map D.str)) ∧ us = [] ∧ k ≤ 12 ∧ ∀ (p : Pln) m', p.Ok → Chg u m m' → Q p.d m'
theorem nd_ne {l : List Addr} (nd : l.Nodup) {i j : Nat} {a b : Addr} (hi : l[i]? = some a) (hj : l[j]? = some b) (h : i ≠ j) : a ≠ b := by
  intro e; subst e
  have h1 : i < l.length := by
    by_cases z : i < l.length
    · exact z
    · rw [List.getElem?_eq_none (by omega)] at hi; cases hi
  exact h ((List.getElem?_inj h1 nd).mp (hi.trans hj.symm))
theorem neOf {m : M} {a p : Addr} {o : DO} (h : m.mu a = some o) (hp : m.mu p = none) : a ≠ p := fun e => by subst e; rw [h] at hp; cases hp
theorem valStr {nm kind : Str} : ∀ {kvs : List (Str × Str)}, (nm, kind) ∈ kvs → (kvs.map (·.1)).Nodup → valD (strKV kvs) (.inr nm) = some (.str kind)
  | [], h, _ => by cases h
  | (a, b) :: kvs, h, nd => by
    rw [List.map_cons, List.nodup_cons] at nd
    unfold valD strKV
    rw [List.map_cons, List.find?_cons]
    by_cases e : a = nm
    · subst e
      have : b = kind := by
        rcases List.mem_cons.mp h with h | h
        · cases h; rfl
        · exact (nd.1 (List.mem_map.mpr ⟨_, h, rfl⟩)).elim
      subst this
      simp
    · have h' : (nm, kind) ∈ kvs := by
        rcases List.mem_cons.mp h with h | h
        · cases h; exact (e rfl).elim
        · exact h
      have ih := valStr h' nd.2
      unfold valD strKV at ih
      have : decide ((Sum.inr a : Key) = Sum.inr nm) = false := decide_eq_false fun z => e (by injection z)
      simp only [this]
      exact ih
theorem putStr {nm kind : Str} {kvs : List (Str × Str)} (h : nm ∉ kvs.map (·.1)) : putD (strKV kvs) (.inr nm) (.str kind) = strKV (kvs ++ [(nm, kind)]) := by
  unfold putD
  have : ((strKV kvs).any fun kv => decide (kv.1 = (Sum.inr nm : Key))) = false := by
    rw [Bool.eq_false_iff]
    intro z
    obtain ⟨p, hp, hq⟩ := List.any_eq_true.mp z
    obtain ⟨x, hx, rfl⟩ := List.mem_map.mp hp
    have hq : (Sum.inr x.1 : Key) = Sum.inr nm := of_decide_eq_true hq
    injection hq with hq
    exact h (List.mem_map.mpr ⟨x, hx, hq⟩)
  rw [this, if_neg Bool.false_ne_true]
  unfold strKV; rw [List.map_append]; rfl
def eKey (e : End) : List Key := [Sum.inr e.1, Sum.inl e.2]
theorem eKey_inj {a b : End} (h : eKey a = eKey b) : a = b := by
  obtain ⟨a1, a2⟩ := a; obtain ⟨b1, b2⟩ := b
  unfold eKey at h; simp at h
  obtain ⟨rfl, rfl⟩ := h; rfl
theorem eKey_D (e : End) : D.tup ((eKey e).map kD) = endD e := rfl
theorem getJo {e : End} : ∀ {kvs : List (End × End)}, e ∈ kvs.map (·.1) → ∃ e', valD (joKV kvs) (eKey e) = some (endD e') ∧ (e, e') ∈ kvs
  | [], h => by cases h
  | (a, b) :: kvs, h => by
    unfold valD joKV
    rw [List.map_cons, List.find?_cons]
    by_cases z : a = e
    · subst z
      refine ⟨b, ?_, List.mem_cons_self⟩
      have : decide ((([Sum.inr a.1, Sum.inl a.2] : List Key)) = eKey a) = true := decide_eq_true rfl
      simp only [this]; rfl
    · have h' : e ∈ kvs.map (·.1) := by
        rw [List.map_cons] at h
        rcases List.mem_cons.mp h with h | h
        · exact (z h.symm).elim
        · exact h
      obtain ⟨e', h1, h2⟩ := getJo h'
      refine ⟨e', ?_, List.mem_cons_of_mem _ h2⟩
      have : decide ((([Sum.inr a.1, Sum.inl a.2] : List Key)) = eKey e) = false := decide_eq_false fun w => z (eKey_inj w)
      simp only [this]
      exact h1
theorem putJo {e e' : End} {kvs : List (End × End)} : ∃ kvs', putD (joKV kvs) (eKey e) (endD e') = joKV kvs' ∧ (∀ p ∈ kvs', p ∈ kvs ∨ p = (e, e')) ∧ kvs'.length ≤ kvs.length + 1 := by
  unfold putD
  split
  · refine ⟨kvs.map fun p => if p.1 = e then (p.1, e') else p, ?_, fun p hp => ?_, by rw [List.length_map]; omega⟩
    · unfold joKV
      rw [List.map_map, List.map_map]
      apply List.map_congr_left
      intro p _
      show (if ([Sum.inr p.1.1, Sum.inl p.1.2] : List Key) = eKey e then (([Sum.inr p.1.1, Sum.inl p.1.2] : List Key), endD e') else (([Sum.inr p.1.1, Sum.inl p.1.2] : List Key), endD p.2)) = _
      by_cases z : p.1 = e
      · have : ([Sum.inr p.1.1, Sum.inl p.1.2] : List Key) = eKey e := by rw [z]; rfl
        rw [if_pos this]
        simp [z]
      · have : ¬ ([Sum.inr p.1.1, Sum.inl p.1.2] : List Key) = eKey e := fun w => z (eKey_inj w)
        rw [if_neg this]
        simp [z]
    · obtain ⟨x, hx, rfl⟩ := List.mem_map.mp hp
      by_cases z : x.1 = e
      · rw [if_pos z]; exact .inr (by rw [z])
      · rw [if_neg z]; exact .inl hx
  · refine ⟨kvs ++ [(e, e')], ?_, fun p hp => ?_, by rw [List.length_append]; exact Nat.le_refl _⟩
    · unfold joKV; rw [List.map_append]; rfl
    · rcases List.mem_append.mp hp with hp | hp
      · exact .inl hp
      · exact .inr (List.mem_singleton.mp hp)
theorem xor_ok {i : Int} (h : numOk i) : numOk (Builtin.bitXor i 1) := by
  rcases num_cases h with rfl | rfl | rfl | rfl <;> (unfold numOk; decide +kernel)
theorem eqv_end {a b : End} : PyData.eqv (endD a).py (endD b).py = decide (a = b) := by
  obtain ⟨a1, a2⟩ := a; obtain ⟨b1, b2⟩ := b
  show (a1 == b1 && ((a2 == b2) && true)) = _
  by_cases h1 : a1 = b1
  · subst h1
    by_cases h2 : a2 = b2
    · subst h2; simp
    · simp [h2]
  · simp [h1]
/-- where an end stands -/
theorem place {e : End} : ∀ {es : List End}, e ∈ es → ∃ j, SeqAt.dataPlace (D.pys (es.map endD)) (endD e).py = some j ∧ es[j]? = some e
  | [], h => by cases h
  | a :: es, h => by
    unfold SeqAt.dataPlace
    show ∃ j, List.findIdx? (fun y => PyData.eqv y (endD e).py) ((endD a).py :: D.pys (es.map endD)) = some j ∧ _
    rw [List.findIdx?_cons, eqv_end]
    by_cases z : a = e
    · subst z; exact ⟨0, by simp, rfl⟩
    · have h' : e ∈ es := by
        rcases List.mem_cons.mp h with h | h
        · exact (z h.symm).elim
        · exact h
      obtain ⟨j, h1, h2⟩ := place h'
      unfold SeqAt.dataPlace at h1
      refine ⟨j + 1, ?_, by simpa using h2⟩
      simp [z, h1]
theorem erase_map : ∀ (es : List End) (j : Nat), (es.map endD).eraseIdx j = (es.eraseIdx j).map endD
  | [], _ => rfl
  | _ :: _, 0 => rfl
  | e :: es, j + 1 => by rw [List.map_cons, List.eraseIdx_cons_succ, List.eraseIdx_cons_succ, List.map_cons, erase_map es j]
theorem remE {f : Addr} {es : List End} {e : End} {m : M} {Q : DK} (h : m.mu f = some (.lst (es.map endD))) (he : e ∈ es) (q : ∀ j, es[j]? = some e → Q .non (m.set f (.lst ((es.eraseIdx j).map endD)))) : rdRemove (.ref f) [endD e] m Q := by
  obtain ⟨j, h1, h2⟩ := place he
  refine ⟨f, _, _, j, rfl, rfl, h, pures_of fun d hd => ?_, rfl, (by rw [dep_py]; exact Nat.le_trans (Nat.le_refl 1) (by decide)), h1, ?_⟩
  · obtain ⟨a, _, rfl⟩ := List.mem_map.mp hd; rfl
  · have e1 : (es.map endD).eraseIdx j = (es.eraseIdx j).map endD := erase_map es j
    rw [e1]; exact q j h2
theorem stays {a b : End} {es : List End} {j : Nat} (hj : es[j]? = some a) (hb : b ∈ es) (ne : b ≠ a) : b ∈ es.eraseIdx j := by
  obtain ⟨i, hi⟩ := List.getElem?_of_mem hb
  have hij : i ≠ j := fun z => by subst z; rw [hj] at hi; cases hi; exact ne rfl
  rw [List.mem_eraseIdx_iff_getElem?]
  exact ⟨i, hij, hi⟩
def manyD : List (Key × D) := [(.inr "plain", .int 2), (.inr "points", .int 3), (.inr "crossing", .int 4)]
theorem dDisp_many {δ : Sl} {m : M} {Q : DK} (h : ∀ p, m.mu p = none → Q (.ref p) ((m.set p (.dic [])).set p (.dic manyD))) : dDisp [("plain", dC (.int 2)), ("points", dC (.int 3)), ("crossing", dC (.int 4))] δ m Q := fun p hp => by
  refine ⟨M.set_same, ?_⟩
  have e : ((([("plain", dC (.int 2)), ("points", dC (.int 3)), ("crossing", dC (.int 4))] : List (Str × DTr)).map fun x => (Sum.inr x.1 : Key)).zip [D.int 2, D.int 3, D.int 4]).foldl (fun acc kv => putD acc kv.1 kv.2) [] = manyD := by with_unfolding_all rfl
  rw [e]; exact h p hp
theorem many_val {kind : Str} (h : kindS kind = true) : ∃ n : Int, valD manyD (.inr kind) = some (.int n) ∧ 0 < n ∧ n ≤ 4 ∧ (kind = "plain" → n ≤ 2) := by
  unfold kindS at h
  simp only [Bool.or_eq_true, beq_iff_eq] at h
  rcases h with (rfl | rfl) | rfl
  · exact ⟨2, by with_unfolding_all rfl, by decide, by decide, fun _ => by decide⟩
  · exact ⟨3, by with_unfolding_all rfl, by decide, by decide, fun z => absurd z (by decide)⟩
  · exact ⟨4, by with_unfolding_all rfl, by decide, by decide, fun z => absurd z (by decide)⟩
theorem nd_add {l : List Addr} {m : M} {p : Addr} {o : DO} (nd : l.Nodup) (hv : ∀ a ∈ l, m.mu a ≠ none) (hp : m.mu p = none) : (l ++ [p]).Nodup ∧ ∀ a ∈ l ++ [p], (m.set p o).mu a ≠ none := by
  refine ⟨List.nodup_append.mpr ⟨nd, by simp, fun a ha b hb e => ?_⟩, fun a ha => ?_⟩
  · rw [List.mem_singleton.mp hb] at e; subst e; exact hv a ha hp
  · by_cases z : a = p
    · subst z; rw [M.set_same]; exact fun z => by cases z
    · rw [M.set_ne z]
      rcases List.mem_append.mp ha with ha | ha
      · exact hv a ha
      · exact (z (List.mem_singleton.mp ha)).elim
theorem KE.more {kvs l : List (Str × Str)} {e : End} (h : KE kvs e) : KE (kvs ++ l) e := by
  obtain ⟨h1, kind, h2, h3⟩ := h
  exact ⟨h1, kind, List.mem_append_left _ h2, h3⟩
theorem kinds6 : ∀ s ∈ (["plain", "plain", "plain", "points", "points", "crossing"] : List Str), kindS s = true := by decide
end PL

namespace PR
open PySem PySem.Spec PyProof.Rows L2 GA GxR DL PL
abbrev s_law_over : Stmt := top 32
theorem sc_law_over : FnScope ["deck", "kinds", "end", "name", "one"] ["deck", "kinds", "end"] (defScope s_law_over) := ⟨rfl, rfl, rfl, by decide +kernel, rfl, by decide +kernel, by decide +kernel⟩
abbrev s_law_joints : Stmt := top 31
theorem sc_law_joints : FnScope ["deck", "free", "joined", "joints", "turn", "one", "others", "other", "end"] ["deck", "free", "joined"] (defScope s_law_joints) := ⟨rfl, rfl, rfl, by decide +kernel, rfl, by decide +kernel, by decide +kernel⟩
abbrev s_law_checked : Stmt := top 33
theorem sc_law_checked : FnScope ["deck", "used", "most", "turn", "joints", "free", "many", "kinds", "joined", "stretches", "gates", "signals", "kind", "name", "end"] ["deck", "used", "most"] (defScope s_law_checked) := ⟨rfl, rfl, rfl, by decide +kernel, rfl, by decide +kernel, by decide +kernel⟩
section
variable {P : Program} {w : World} {K : PySem.W.Frag} {mg : Str → Option Value} {base : Heap} (T : TxtL mg) (Ok : M → Prop) (hOk : ∀ a b : M, Ok a → b.gh = a.gh → Ok b)
include T

theorem c_law_over {f : Addr} {fd : FuncData} (F : Fun K "_law_over" "_law_over" s_law_over f fd) (hm : mg "_law_over" = some (.ref f)) (c_law_draw : DCal P w K mg base 1 "_law_draw" spDrawG) : DCal P w K mg base 2 "_law_over" spOver := by
  refine dcal F hm (F.binds (ps := ["deck", "kinds", "end"]) fun _ _ _ _ _ _ us hl => match us, hl with | [_, _, _], _ => rfl) sc_law_over (fun ds m Q h => ?_) (fun cdv A outer s H E hr => ⟨_, (dss_cons (ds_asg (de_var 2) (dg_tup rfl (dgs_cons (pg_name (i := 3) sc_law_over.nd rfl (by first | exact Or.inl rfl | exact Or.inr rfl)) (dgs_cons (pg_name (i := 4) sc_law_over.nd rfl (by first | exact Or.inl rfl | exact Or.inr rfl)) dgs_nil))))
      (dss_cons (ds_if (dt_w (dw_or (dt_cmp (dc_eq hr) (de_call c_law_draw hr (by decide) (by rfl) (da_cons (de_var 0) (da_cons de_int da_nil))) de_int) (dw_or1 (dt_cmp (dc_eq hr) (de_dget hr (de_var 1) (de_var 3)) de_str)))) (dss_one (ds_ret (de_tup da_nil))) dss_nil)
      (dss_one (ds_ret (de_tup (da_cons (de_tup (da_cons (de_var 3) (da_cons (de_var 4) (da_cons (de_ifE (dt_cmp (dc_eq hr) (de_dget hr (de_var 1) (de_var 3)) de_str) (de_sub de_int (de_var 4)) (de_xor (de_var 4) de_int)) da_nil)))) da_nil)))))), fun ds m Q h => ?_⟩)
  · obtain ⟨d, k, kvs, e, rfl, _⟩ := h; rfl
  · obtain ⟨d, k, kvs, e, rfl, hd, hk, nd, ⟨he, kind, hkm, hks, hpl⟩, q⟩ := h
    dsimp only [dRet, dSeq, dNext, dIfS, dSet, dExpr, dAsg, dPar, dPar3, gD, dOp, dUn, dArgs, dCons, dNil, dC, dB, dNot, dCall, dMeth, dMeth0, dIf, dLst, dTup, dSl, dNoPart, dPart, dM1, dOr, dAnd, dDGet]
    have hg : GetD m k (.str e.1) (some (.str kind)) := .inl ⟨_, .inr e.1, hk, rfl, (valStr hkm nd).symm⟩
    refine dVar_at rfl ⟨[.str e.1, .int e.2], .inl rfl, rfl, dVar_at rfl (drw hd (by decide) (by decide) fun r r0 r1 => eqI ⟨_, rfl, iff_T (fun _ => ?_) fun _ => ?_⟩)⟩
    · exact ifT rfl ⟨slk (by simp), q none fun t h => by cases h⟩
    · refine dVar_at rfl (dVar_at rfl ⟨k, _, rfl, hg, eqT ⟨_, rfl, iff_T (fun _ => ⟨slk (by simp), q none fun t h => by cases h⟩) fun _ => ?_⟩⟩)
      refine dVar_at rfl (dVar_at rfl (dVar_at rfl (dVar_at rfl ⟨k, _, rfl, hg, eqT ⟨_, rfl, iff_T (fun hc => ?_) fun hc => ?_⟩⟩)))
      · have hc : kind = "plain" := by simpa using hc
        have h1 := hpl hc
        have h2 := he.2
        refine dVar_at rfl (rI trivial ⟨slk (by simp), slk (by simp), q (some (e.1, e.2, 1 - e.2)) fun t h => ?_⟩)
        cases h
        exact ⟨he.1, he.2, by unfold numOk at h2 ⊢; show 0 ≤ 1 - e.2 ∧ 1 - e.2 ≤ 3; omega⟩
      · refine dVar_at rfl (rI trivial ⟨slk (by simp), slk (by simp), q (some (e.1, e.2, Builtin.bitXor e.2 1)) fun t h => ?_⟩)
        cases h
        exact ⟨he.1, he.2, xor_ok he.2⟩


theorem c_law_joints {f : Addr} {fd : FuncData} (F : Fun K "_law_joints" "_law_joints" s_law_joints f fd) (hm : mg "_law_joints" = some (.ref f)) (c_law_draw : DCal P w K mg base 1 "_law_draw" spDrawG)(c_law_pick : DCal P w K mg base 2 "_law_pick" spPick) : DCal P w K mg base 3 "_law_joints" spJoints := by
  refine dcal F hm (F.binds (ps := ["deck", "free", "joined"]) fun _ _ _ _ _ _ us hl => match us, hl with | [_, _, _], _ => rfl) sc_law_joints (fun ds m Q h => ?_) (fun cdv A outer s H E hr => ⟨_, (dss_cons (ds_set (i := 3) sc_law_joints.nd rfl (by first | exact Or.inl rfl | exact Or.inr rfl) (de_lst da_nil))
      (dss_cons (ds_for PassesOwn.never rfl (dpi_range (by rfl) T.range (de_call c_law_draw hr (by decide) (by rfl) (da_cons (de_var 0) (da_cons de_int da_nil)))) (dg_name (i := 4) sc_law_joints.nd rfl (by first | exact Or.inl rfl | exact Or.inr rfl)) (dss_cons (ds_set (i := 5) sc_law_joints.nd rfl (by first | exact Or.inl rfl | exact Or.inr rfl) (de_ifE (dt_cmp (dc_ne hr) (de_var 1) (de_lst da_nil)) (de_call c_law_pick hr (by decide) (by rfl) (da_cons (de_var 0) (da_cons (de_var 1) da_nil))) (de_tup (da_cons de_str (da_cons de_int da_nil)))))
      (dss_cons (ds_setLc (i := 6) (own := [("end", 8)]) rfl sc_law_joints.nd rfl rfl (sw_true rfl rfl rfl (by decide +kernel)) (dpi_list (de_var 1)) (blkOk_by (N := ["deck", "free", "joined", "joints", "turn", "one", "others", "other", "end"]) (sc := defScope s_law_joints) (by decide +kernel)) (fun _ _ _ _ _ => (dg_name (i := 8) sc_law_joints.nd rfl (by first | exact Or.inl rfl | exact Or.inr rfl))) (fun _ _ _ _ _ => (dpts_one (dt_cmp (dc_ne hr) (de_ix (de_var 8) de_int) (de_ix (de_var 5) de_int)))) (fun _ _ _ _ _ => (de_var 8)))
      (dss_one (ds_if (dt_w (dw_and (dt_cmp (dc_ne hr) (de_var 6) (de_lst da_nil)) (dw_and1 (dt_cmp (dc_ne hr) (de_var 1) (de_lst da_nil))))) (dss_cons (ds_set (i := 7) sc_law_joints.nd rfl (by first | exact Or.inl rfl | exact Or.inr rfl) (de_call c_law_pick hr (by decide) (by rfl) (da_cons (de_var 0) (da_cons (de_var 6) da_nil))))
      (dss_cons (ds_expr (de_append (de_var 3) (de_tup (da_cons (de_var 5) (da_cons (de_var 7) da_nil)))))
      (dss_cons (ds_dput hr (de_var 2) (de_var 5) (de_var 7))
      (dss_cons (ds_dput hr (de_var 2) (de_var 7) (de_var 5))
      (dss_cons (ds_expr (de_remove hr (de_var 1) (de_var 5)))
      (dss_one (ds_expr (de_remove hr (de_var 1) (de_var 7))))))))) dss_nil)))))
      (dss_one (ds_ret (de_var 3))))), fun ds m Q h => ?_⟩)
  · obtain ⟨Pe, d, f, j, es, rfl, _⟩ := h; rfl
  · obtain ⟨Pe, d, f, j, es, rfl, hd, hfj, hf, hj, hl, hes, hok, q⟩ := h
    dsimp only [dRet, dSeq, dNext, dIfS, dSet, dExpr, dAsg, dPar, dPar3, gD, dOp, dUn, dArgs, dCons, dNil, dC, dB, dNot, dCall, dMeth, dMeth0, dIf, dLst, dTup, dSl, dNoPart, dPart, dM1, dOr, dAnd, dDGet]
    refine ⟨slk (by simp), fun a ha => ?_⟩
    have naf := neOf hf ha
    have naj := neOf hj ha
    refine dFor_draw (n := 17) (by decide) (fun R hR => dVar_at rfl (drw (hd.ext rfl) (by decide) (by decide) hR)) (fun i δ m' => ∃ (js : List (PL.End × PL.End)) (es' : List PL.End) (kvs : List (PL.End × PL.End)) (d4 d5 d6 d7 d8 : Option D), δ = [some d, some (.ref f), some (.ref j), some (.ref a), d4, d5, d6, d7, d8] ∧ Chg2 f j m m' ∧
      m'.mu f = some (.lst (es'.map endD)) ∧ m'.mu j = some (.dit (joKV kvs)) ∧ m'.mu a = some (.lst (js.map joD)) ∧ (∀ x ∈ js, joOk x) ∧ js.length ≤ i ∧ (∀ e ∈ es', Pe e) ∧ es'.length ≤ es.length ∧ (∀ p ∈ kvs, Pe p.1 ∧ Pe p.2) ∧ kvs.length ≤ 2 * i) ?_ ?_ ?_
    · exact ⟨[], es, [], _, _, _, _, _, rfl, ⟨rfl, fun x o _ _ z => (Ext.new ha).old x o z⟩, (Ext.new ha).old _ _ hf, (Ext.new ha).old _ _ hj, M.set_same, by simp, by simp, hes, Nat.le_refl _, by simp, by simp⟩
    · rintro i δ m' hi ⟨js, es', kvs, d4, d5, d6, d7, d8, rfl, hC, h1, h2, h3, h4, h5, h6, h7, h8, h9⟩
      have hdk := hd.ext hC.gh
      have fin : ∀ x ∈ es'.map endD, Fine x := fun x hx => by
        obtain ⟨e, he, rfl⟩ := List.mem_map.mp hx
        exact end_fine (hok e (h6 e he))
      dsimp only [gD]
      refine seqR1 (fun δ2 m2 => ∃ nm k d5', (δ2 = [some d, some (.ref f), some (.ref j), some (.ref a), d5', some (.tup [.str nm, .int k]), d6, d7, d8]) ∧ Ext m' m2 ∧ (es' ≠ [] → (nm, k) ∈ es')) ?_ fun R hR => ?_
      · rintro δ2 m2 ⟨nm, k, d5', rfl, hE, hin⟩
        have f1 := hE.old _ _ h1
        refine seqR1 (fun δ3 m3 => ∃ (p : Addr) (os : List PL.End), (δ3 = [some d, some (.ref f), some (.ref j), some (.ref a), d5', some (.tup [.str nm, .int k]), some (.ref p), d7, d8]) ∧ Ext m' m3 ∧ m3.mu p = some (.lst (os.map endD)) ∧ (∀ e ∈ os, e ∈ es' ∧ e.1 ≠ nm) ∧ os.length ≤ es'.length) ?_ fun R hR => ?_
        · rintro δ3 m3 ⟨p, os, rfl, hE3, hp, hos, hosl⟩
          dsimp only [dRet, dSeq, dNext, dIfS, dSet, dExpr, dAsg, dPar, dPar3, gD, dOp, dUn, dArgs, dCons, dNil, dC, dB, dNot, dCall, dMeth, dMeth0, dIf, dLst, dTup, dSl, dNoPart, dPart, dM1, dOr, dAnd, dDGet]
          have finO : ∀ x ∈ os.map endD, Fine x := fun x hx => by
            obtain ⟨e, he, rfl⟩ := List.mem_map.mp hx
            exact end_fine (hok e (h6 e (hos e he).1))
          refine dVar_at rfl ⟨slk (by simp), fun p1 hp1 => ne_nil ((Ext.new hp1).old _ _ hp) M.set_same finO ⟨_, rfl, iff_T (fun hne => ?_) fun _ => ?_⟩⟩
          · have hE4 := hE3.trans (Ext.new (o := .lst []) hp1)
            have hp4 := (Ext.new (o := .lst []) hp1).old _ _ hp
            generalize m3.set p1 (.lst []) = m4 at hE4 hp4 ⊢
            refine dVar_at rfl ⟨slk (by simp), fun p2 hp2 => ne_nil ((Ext.new hp2).old _ _ (hE4.old _ _ h1)) M.set_same fin ⟨_, rfl, iff_T (fun _ => ?_) fun _ => ?_⟩⟩
            · have hE5 := hE4.trans (Ext.new (o := .lst []) hp2)
              have hp5 := (Ext.new (o := .lst []) hp2).old _ _ hp4
              generalize m4.set p2 (.lst []) = m5 at hE5 hp5 ⊢
              have hone : os ≠ [] := fun z => by subst z; cases hne
              refine dVar_at rfl (dVar_at rfl (pk (hdk.ext hE5.gh) hp5 hone (by omega) fun e he => ?_))
              obtain ⟨heI, heN⟩ := hos e he
              have hesne : es' ≠ [] := fun z => by subst z; cases heI
              have h0I := hin hesne
              have en : (D.tup [.str nm, .int k]) = endD (nm, k) := rfl
              have g1 := hE5.old _ _ h1
              have g2 := hE5.old _ _ h2
              have g3 := hE5.old _ _ h3
              refine dVar_at rfl ⟨⟨a, _, rfl, g3⟩, dVar_at rfl (dVar_at rfl ⟨slk (by simp), ap g3 (by rw [List.length_map]; omega) ?_⟩)⟩
              have e3 : js.map joD ++ [D.tup [D.tup [.str nm, .int k], endD e]] = (js ++ [((nm, k), e)]).map joD := by rw [List.map_append]; rfl
              rw [e3]
              have k3 : (m5.set a (.lst ((js ++ [((nm, k), e)]).map joD))).mu a = _ := M.set_same
              have k1 : (m5.set a (.lst ((js ++ [((nm, k), e)]).map joD))).mu f = _ := (M.set_ne naf).trans g1
              have k2 : (m5.set a (.lst ((js ++ [((nm, k), e)]).map joD))).mu j = _ := (M.set_ne naj).trans g2
              have k4 : Chg2 f j m (m5.set a (.lst ((js ++ [((nm, k), e)]).map joD))) := ⟨hE5.gh.trans hC.gh, fun x o x1 x2 z => by rw [M.set_ne (neOf z ha)]; exact hE5.old _ _ (hC.old x o x1 x2 z)⟩
              generalize m5.set a (.lst ((js ++ [((nm, k), e)]).map joD)) = m6 at k1 k2 k3 k4 ⊢
              dsimp only [dDPut]
              obtain ⟨kv1, q1, q2, q3⟩ := putJo (e := (nm, k)) (e' := e) (kvs := kvs)
              have jl : ∀ l : List (PL.End × PL.End), (joKV l).length = l.length := fun l => by unfold joKV; rw [List.length_map]
              refine dVar_at rfl (dVar_at rfl (dVar_at rfl ⟨j, rfl, .inr ⟨joKV kvs, eKey (nm, k), k2, rfl, slk (by rw [jl]; omega), ?_⟩⟩))
              rw [show putD (joKV kvs) (eKey (nm, k)) (endD e) = joKV kv1 from q1]
              have nja : a ≠ j := fun z => naj z.symm
              have nfj : f ≠ j := hfj
              have l2 : (m6.set j (.dit (joKV kv1))).mu j = _ := M.set_same
              have l1 : (m6.set j (.dit (joKV kv1))).mu f = _ := (M.set_ne nfj).trans k1
              have l3 : (m6.set j (.dit (joKV kv1))).mu a = _ := (M.set_ne nja).trans k3
              have l4 : Chg2 f j m (m6.set j (.dit (joKV kv1))) := ⟨k4.gh, fun x o x1 x2 z => by rw [M.set_ne x2]; exact k4.old x o x1 x2 z⟩
              generalize m6.set j (.dit (joKV kv1)) = m7 at l1 l2 l3 l4 ⊢
              obtain ⟨kv2, q4, q5, q6⟩ := putJo (e := e) (e' := (nm, k)) (kvs := kv1)
              refine dVar_at rfl (dVar_at rfl (dVar_at rfl ⟨j, rfl, .inr ⟨joKV kv1, eKey e, l2, rfl, slk (by rw [jl]; omega), ?_⟩⟩))
              rw [show putD (joKV kv1) (eKey e) (D.tup [.str nm, .int k]) = joKV kv2 from q4]
              have r2 : (m7.set j (.dit (joKV kv2))).mu j = _ := M.set_same
              have r1 : (m7.set j (.dit (joKV kv2))).mu f = _ := (M.set_ne nfj).trans l1
              have r3 : (m7.set j (.dit (joKV kv2))).mu a = _ := (M.set_ne nja).trans l3
              have r4 : Chg2 f j m (m7.set j (.dit (joKV kv2))) := ⟨l4.gh, fun x o x1 x2 z => by rw [M.set_ne x2]; exact l4.old x o x1 x2 z⟩
              generalize m7.set j (.dit (joKV kv2)) = m8 at r1 r2 r3 r4 ⊢
              refine dVar_at rfl ⟨⟨f, _, rfl, r1⟩, dVar_at rfl (remE (e := (nm, k)) r1 h0I fun i1 hi1 => ?_)⟩
              have heS : e ∈ es'.eraseIdx i1 := stays hi1 heI fun z => heN (by rw [z])
              have s1 : (m8.set f (.lst ((es'.eraseIdx i1).map endD))).mu f = _ := M.set_same
              have s2 : (m8.set f (.lst ((es'.eraseIdx i1).map endD))).mu j = _ := (M.set_ne nfj.symm).trans r2
              have s3 : (m8.set f (.lst ((es'.eraseIdx i1).map endD))).mu a = _ := (M.set_ne naf.symm).trans r3
              have s4 : Chg2 f j m (m8.set f (.lst ((es'.eraseIdx i1).map endD))) := ⟨r4.gh, fun x o x1 x2 z => by rw [M.set_ne x1]; exact r4.old x o x1 x2 z⟩
              generalize m8.set f (.lst ((es'.eraseIdx i1).map endD)) = m9 at s1 s2 s3 s4 ⊢
              refine dVar_at rfl ⟨⟨f, _, rfl, s1⟩, dVar_at rfl (remE (e := e) s1 heS fun i2 hi2 => ?_)⟩
              have hsub : ∀ x ∈ (es'.eraseIdx i1).eraseIdx i2, x ∈ es' := fun x hx => List.mem_of_mem_eraseIdx (List.mem_of_mem_eraseIdx hx)
              have hlen : ((es'.eraseIdx i1).eraseIdx i2).length ≤ es'.length := Nat.le_trans (List.length_eraseIdx_le _ _) (List.length_eraseIdx_le _ _)
              refine ⟨js ++ [((nm, k), e)], (es'.eraseIdx i1).eraseIdx i2, kv2, _, _, _, _, _, rfl, ⟨s4.gh, fun x o x1 x2 z => by rw [M.set_ne x1]; exact s4.old x o x1 x2 z⟩, M.set_same, (M.set_ne nfj.symm).trans s2, (M.set_ne naf.symm).trans s3, ?_, by rw [List.length_append]; show js.length + 1 ≤ i + 1; omega, fun x hx => h6 x (hsub x hx), by omega, ?_, by omega⟩
              · intro x hx
                rcases List.mem_append.mp hx with hx | hx
                · exact h4 x hx
                · rw [List.mem_singleton.mp hx]; exact ⟨hok _ (h6 _ h0I), hok _ (h6 _ heI)⟩
              · intro p hp
                rcases q5 p hp with hp | rfl
                · rcases q2 p hp with hp | rfl
                  · exact h8 p hp
                  · exact ⟨h6 _ h0I, h6 _ heI⟩
                · exact ⟨h6 _ heI, h6 _ h0I⟩
            · exact ⟨js, es', kvs, _, _, _, _, _, rfl, ⟨(hE4.trans (Ext.new hp2)).gh.trans hC.gh, fun x o x1 x2 z => (hE4.trans (Ext.new hp2)).old _ _ (hC.old x o x1 x2 z)⟩, (hE4.trans (Ext.new hp2)).old _ _ h1, (hE4.trans (Ext.new hp2)).old _ _ h2, (hE4.trans (Ext.new hp2)).old _ _ h3, h4, by omega, h6, h7, h8, by omega⟩
          · exact ifF rfl ⟨js, es', kvs, _, _, _, _, _, rfl, ⟨(hE3.trans (Ext.new hp1)).gh.trans hC.gh, fun x o x1 x2 z => (hE3.trans (Ext.new hp1)).old _ _ (hC.old x o x1 x2 z)⟩, (hE3.trans (Ext.new hp1)).old _ _ h1, (hE3.trans (Ext.new hp1)).old _ _ h2, (hE3.trans (Ext.new hp1)).old _ _ h3, h4, by omega, h6, h7, h8, by omega⟩
        · dsimp only [dRet, dSeq, dNext, dIfS, dSet, dExpr, dAsg, dPar, dPar3, gD, dOp, dUn, dArgs, dCons, dNil, dC, dB, dNot, dCall, dMeth, dMeth0, dIf, dLst, dTup, dSl, dNoPart, dPart, dM1, dOr, dAnd, dDGet]
          refine dLC_gen (I := fun _ => True) (Rel := fun x o => ∃ e : PL.End, e ∈ es' ∧ x = endD e ∧ o = if e.1 = nm then none else some (endD e)) trivial (fun _ _ _ _ => trivial) (iL_w (xs := es'.map endD) (fun R hR => dVar_at rfl hR) f1) (slk (by rw [List.length_map]; omega)) (fun x hx m' hE' _ Ry Rn hy hn => ?_) (fun p m3 ys hp hE3 _ hm3 ho => ?_)
          · obtain ⟨e, he, rfl⟩ := List.mem_map.mp hx
            dsimp only [dRet, dSeq, dNext, dIfS, dSet, dExpr, dAsg, dPar, dPar3, gD, dOp, dUn, dArgs, dCons, dNil, dC, dB, dNot, dCall, dMeth, dMeth0, dIf, dLst, dTup, dSl, dNoPart, dPart, dM1, dOr, dAnd, dDGet]
            refine dVar_at rfl (endD_ix0 (dVar_at rfl (SeqD.ix (.inl rfl) rfl (neT ⟨_, rfl, iff_T (fun hc => dVar_at rfl (hy _ _ ⟨e, he, rfl, ?_⟩ (Ext.refl _))) fun hc => hn _ ⟨e, he, rfl, ?_⟩ (Ext.refl _)⟩))))
            · rw [if_neg (by simpa using hc)]
            · rw [if_pos (by simpa using hc)]
          · obtain ⟨os, rfl, hos⟩ := listOf (f := endD) (P := fun e => e ∈ es' ∧ e.1 ≠ nm) (ys := ys) (ho.all fun x hx y hxy => by
              obtain ⟨e, he, _, e2⟩ := hxy
              by_cases z : e.1 = nm
              · rw [if_pos z] at e2; cases e2
              · rw [if_neg z] at e2; cases e2; exact ⟨e, rfl, he, z⟩)
            have := ho.len
            rw [List.length_map, List.length_map] at this
            exact hR _ _ ⟨p, os, rfl, hE.trans hE3, hm3, hos, this⟩
      · dsimp only [dRet, dSeq, dNext, dIfS, dSet, dExpr, dAsg, dPar, dPar3, gD, dOp, dUn, dArgs, dCons, dNil, dC, dB, dNot, dCall, dMeth, dMeth0, dIf, dLst, dTup, dSl, dNoPart, dPart, dM1, dOr, dAnd, dDGet]
        refine dVar_at rfl ⟨slk (by simp), fun p hp => ne_nil ((Ext.new hp).old _ _ h1) M.set_same fin ⟨_, rfl, iff_T (fun hc => ?_) fun hc => ?_⟩⟩
        · have hne : es' ≠ [] := fun z => by subst z; cases hc
          exact dVar_at rfl (dVar_at rfl (pk (hdk.ext rfl) ((Ext.new hp).old _ _ h1) hne (by omega) fun e he => hR _ _ ⟨e.1, e.2, _, rfl, Ext.new hp, fun _ => he⟩))
        · exact ⟨slk (by simp), hR _ _ ⟨"", 0, _, rfl, Ext.new hp, fun hne => by cases es' with | nil => exact (hne rfl).elim | cons _ _ => cases hc⟩⟩
    · rintro r δ m' hr ⟨js, es', kvs, d4, d5, d6, d7, d8, rfl, hC, h1, h2, h3, h4, h5, h6, h7, h8, h9⟩
      dsimp only
      exact dVar_at rfl (q a m' js es' kvs hC ha h1 h2 h3 h4 (by omega) h6 h7 h8 (by omega))


theorem c_law_checked {f : Addr} {fd : FuncData} (F : Fun K "_law_checked" "_law_checked" s_law_checked f fd) (hm : mg "_law_checked" = some (.ref f)) (c_law_draw : DCal P w K mg base 1 "_law_draw" spDrawG)(c_law_pick : DCal P w K mg base 2 "_law_pick" spPick)(c_law_name : DCal P w K mg base 3 "_law_name" spName)(c_law_over : DCal P w K mg base 2 "_law_over" spOver)(c_law_joints : DCal P w K mg base 3 "_law_joints" spJoints) : DCal P w K mg base 4 "_law_checked" spChecked := by
  refine dcal F hm (F.binds (ps := ["deck", "used", "most"]) fun _ _ _ _ _ _ us hl => match us, hl with | [_, _, _], _ => rfl) sc_law_checked (fun ds m Q h => ?_) (fun cdv A outer s H E hr => ⟨_, (dss_cons (ds_asg (de_tup (da_cons (de_disp (.cons de_int (.cons de_int (.cons de_int .nil)))) (da_cons de_newK (da_cons (de_lst da_nil) (da_cons de_newT da_nil))))) (dg_tup rfl (dgs_cons (pg_name (i := 6) sc_law_checked.nd rfl (by first | exact Or.inl rfl | exact Or.inr rfl)) (dgs_cons (pg_name (i := 7) sc_law_checked.nd rfl (by first | exact Or.inl rfl | exact Or.inr rfl)) (dgs_cons (pg_name (i := 5) sc_law_checked.nd rfl (by first | exact Or.inl rfl | exact Or.inr rfl)) (dgs_cons (pg_name (i := 8) sc_law_checked.nd rfl (by first | exact Or.inl rfl | exact Or.inr rfl)) dgs_nil))))))
      (dss_cons (ds_par3 rfl sc_law_checked.nd (i := 9) (j := 10) (l := 11) rfl rfl rfl (by decide) (by decide) (by decide) rfl rfl rfl (da_cons (de_lst da_nil) (da_cons (de_lst da_nil) (da_cons (de_lst da_nil) da_nil))) (by rfl))
      (dss_cons (ds_for PassesOwn.never rfl (dpi_range (by rfl) T.range (de_call c_law_draw hr (by decide) (by rfl) (da_cons (de_var 0) (da_cons (de_add (de_var 2) de_int) da_nil)))) (dg_name (i := 3) sc_law_checked.nd rfl (by first | exact Or.inl rfl | exact Or.inr rfl)) (dss_cons (ds_set (i := 12) sc_law_checked.nd rfl (by first | exact Or.inl rfl | exact Or.inr rfl) (de_call c_law_pick hr (by decide) (by rfl) (da_cons (de_var 0) (da_cons (de_lst (da_cons de_str (da_cons de_str (da_cons de_str (da_cons de_str (da_cons de_str (da_cons de_str da_nil))))))) da_nil))))
      (dss_cons (ds_set (i := 13) sc_law_checked.nd rfl (by first | exact Or.inl rfl | exact Or.inr rfl) (de_call c_law_name hr (by decide) (by rfl) (da_cons (de_var 0) (da_cons (de_var 1) da_nil))))
      (dss_cons (ds_expr (de_append (de_var 9) (de_tup (da_cons (de_var 13) (da_cons (de_var 12) da_nil)))))
      (dss_cons (ds_dput hr (de_var 7) (de_var 13) (de_var 12))
      (dss_one (ds_set (i := 5) sc_law_checked.nd rfl (by first | exact Or.inl rfl | exact Or.inr rfl) (de_add (de_var 5) (de_lc (own := [("end", 14)]) rfl sc_law_checked.nd (dpi_range (by rfl) T.range (de_dget hr (de_var 6) (de_var 12))) (blkOk_by (N := ["deck", "used", "most", "turn", "joints", "free", "many", "kinds", "joined", "stretches", "gates", "signals", "kind", "name", "end"]) (sc := defScope s_law_checked) (by decide +kernel)) (fun _ _ _ _ _ => (dg_name (i := 14) sc_law_checked.nd rfl (by first | exact Or.inl rfl | exact Or.inr rfl))) (fun _ _ _ _ _ => dpts_nil) (fun _ _ _ _ _ => (de_tup (da_cons (de_var 13) (da_cons (de_var 14) da_nil)))))))))))))
      (dss_cons (ds_set (i := 4) sc_law_checked.nd rfl (by first | exact Or.inl rfl | exact Or.inr rfl) (de_call c_law_joints hr (by decide) (by rfl) (da_cons (de_var 0) (da_cons (de_var 5) (da_cons (de_var 8) da_nil)))))
      (dss_cons (ds_setLc (i := 5) (own := [("end", 14)]) rfl sc_law_checked.nd rfl rfl (sw_true rfl rfl rfl (by decide +kernel)) (dpi_list (de_var 5)) (blkOk_by (N := ["deck", "used", "most", "turn", "joints", "free", "many", "kinds", "joined", "stretches", "gates", "signals", "kind", "name", "end"]) (sc := defScope s_law_checked) (by decide +kernel)) (fun _ _ _ _ _ => (dg_name (i := 14) sc_law_checked.nd rfl (by first | exact Or.inl rfl | exact Or.inr rfl))) (fun _ _ _ _ _ => (dpts_one (dt_cmp (dc_eq hr) (de_dget hr (de_var 7) (de_ix (de_var 14) de_int)) de_str))) (fun _ _ _ _ _ => (de_var 14)))
      (dss_cons (ds_for PassesOwn.never rfl (dpi_range (by rfl) T.range (de_call c_law_draw hr (by decide) (by rfl) (da_cons (de_var 0) (da_cons de_int da_nil)))) (dg_name (i := 3) sc_law_checked.nd rfl (by first | exact Or.inl rfl | exact Or.inr rfl)) (dss_one (ds_if (dt_cmp (dc_ne hr) (de_var 5) (de_lst da_nil)) (dss_one (ds_expr (de_append (de_var 10) (de_tup (da_cons (de_call c_law_name hr (by decide) (by rfl) (da_cons (de_var 0) (da_cons (de_var 1) da_nil))) (da_cons (de_popAt (de_var 5) (de_call c_law_draw hr (by decide) (by rfl) (da_cons (de_var 0) (da_cons (de_len (by rfl) T.len (da_cons (de_var 5) da_nil)) da_nil)))) da_nil)))))) dss_nil)))
      (dss_cons (ds_lock (n := 8) (ds_setLc (i := 5) (own := [("end", 14)]) rfl sc_law_checked.nd rfl rfl (sw_true rfl rfl rfl (by decide +kernel)) (dpi_keys (n := 8) (pe_var rfl (by first | exact Or.inl rfl | exact Or.inr (Or.inl rfl) | exact Or.inr (Or.inr rfl)))) (blkOk_by (N := ["deck", "used", "most", "turn", "joints", "free", "many", "kinds", "joined", "stretches", "gates", "signals", "kind", "name", "end"]) (sc := defScope s_law_checked) (by decide +kernel)) (fun _ _ _ _ _ => (dg_name (i := 14) sc_law_checked.nd rfl (by first | exact Or.inl rfl | exact Or.inr rfl))) (fun _ _ _ _ _ => (dpts_one (dt_cmp (dc_eq hr) (de_dget hr (de_var 7) (de_ix (de_var 14) de_int)) de_str))) (fun _ _ _ _ _ => (de_var 14))))
      (dss_cons (ds_for PassesOwn.never rfl (dpi_range (by rfl) T.range (de_call c_law_draw hr (by decide) (by rfl) (da_cons (de_var 0) (da_cons de_int da_nil)))) (dg_name (i := 3) sc_law_checked.nd rfl (by first | exact Or.inl rfl | exact Or.inr rfl)) (dss_one (ds_if (dt_cmp (dc_ne hr) (de_var 5) (de_lst da_nil)) (dss_cons (ds_set (i := 14) sc_law_checked.nd rfl (by first | exact Or.inl rfl | exact Or.inr rfl) (de_popAt (de_var 5) (de_call c_law_draw hr (by decide) (by rfl) (da_cons (de_var 0) (da_cons (de_len (by rfl) T.len (da_cons (de_var 5) da_nil)) da_nil)))))
      (dss_one (ds_expr (de_append (de_var 11) (de_tup (da_cons (de_call c_law_name hr (by decide) (by rfl) (da_cons (de_var 0) (da_cons (de_var 1) da_nil))) (da_cons (de_var 14) (da_cons (de_call c_law_over hr (by decide) (by rfl) (da_cons (de_var 0) (da_cons (de_var 7) (da_cons (de_dget hr (de_var 8) (de_var 14)) da_nil)))) da_nil)))))))) dss_nil)))
      (dss_one (ds_ret (de_tup (da_cons (de_bty call_tuple_of argl_tuple (by rfl) T.tuple (by decide +kernel) (da_cons (de_var 9) da_nil)) (da_cons (de_bty call_tuple_of argl_tuple (by rfl) T.tuple (by decide +kernel) (da_cons (de_var 4) da_nil)) (da_cons (de_bty call_tuple_of argl_tuple (by rfl) T.tuple (by decide +kernel) (da_cons (de_var 10) da_nil)) (da_cons (de_bty call_tuple_of argl_tuple (by rfl) T.tuple (by decide +kernel) (da_cons (de_var 11) da_nil)) da_nil))))))))))))))), fun ds m Q h => ?_⟩)
  · obtain ⟨d, u, us, k, rfl, _⟩ := h; rfl
  · obtain ⟨d, u, us, k, rfl, hd, hu, rfl, hk12, q⟩ := h
    dsimp only [dRet, dSeq, dNext, dIfS, dSet, dExpr, dAsg, dPar, dPar3, gD, dOp, dUn, dArgs, dCons, dNil, dC, dB, dNot, dCall, dMeth, dMeth0, dIf, dLst, dTup, dSl, dNoPart, dPart, dM1, dOr, dAnd, dDGet]
    refine dDisp_many fun pm hpm => ?_
    dsimp only [dNewK, dNewT]
    have EA : Ext m ((m.set pm (.dic [])).set pm (.dic manyD)) := (Ext.new hpm).set hpm
    have v0 : ∀ a ∈ [u], m.mu a ≠ none := fun a ha => by rw [List.mem_singleton.mp ha, hu]; exact fun z => by cases z
    have ndA := nd_add (o := .dic []) (by simp : [u].Nodup) v0 hpm
    have vA : ∀ a ∈ [u] ++ [pm], ((m.set pm (.dic [])).set pm (.dic manyD)).mu a ≠ none := fun a ha => by
      by_cases z : a = pm
      · subst z; rw [M.set_same]; exact fun z => by cases z
      · rw [M.set_ne z]; exact ndA.2 a ha
    have mA : ((m.set pm (.dic [])).set pm (.dic manyD)).mu pm = some (.dic manyD) := M.set_same
    generalize (m.set pm (.dic [])).set pm (.dic manyD) = m1 at EA vA mA ⊢
    intro pk hpk
    have ndB := nd_add (o := .dic (strKV [])) ndA.1 vA hpk
    have EB := Ext.new (o := .dic (strKV [])) hpk
    have kB : (m1.set pk (.dic (strKV []))).mu pk = _ := M.set_same
    have eqB : m1.set pk (.dic []) = m1.set pk (.dic (strKV [])) := rfl
    rw [eqB]
    generalize m1.set pk (.dic (strKV [])) = m2 at EB ndB kB ⊢
    refine ⟨slk (by simp), fun pf hpf => ?_⟩
    have ndC := nd_add (o := .lst []) ndB.1 ndB.2 hpf
    have EC := Ext.new (o := .lst []) hpf
    have fC : (m2.set pf (.lst [])).mu pf = _ := M.set_same
    generalize m2.set pf (.lst []) = m3 at EC ndC fC ⊢
    intro pj hpj
    have ndD := nd_add (o := .dit []) ndC.1 ndC.2 hpj
    have ED := Ext.new (o := .dit []) hpj
    have jD : (m3.set pj (.dit [])).mu pj = _ := M.set_same
    generalize m3.set pj (.dit []) = m4 at ED ndD jD ⊢
    refine ⟨slk (by simp), [.ref pm, .ref pk, .ref pf, .ref pj], .inl rfl, rfl, slk (by simp), fun ps hps => ?_⟩
    have ndE := nd_add (o := .lst []) ndD.1 ndD.2 hps
    have EE := Ext.new (o := .lst []) hps
    have sE : (m4.set ps (.lst [])).mu ps = _ := M.set_same
    generalize m4.set ps (.lst []) = m5 at EE ndE sE ⊢
    refine ⟨slk (by simp), fun pg hpg => ?_⟩
    have ndF := nd_add (o := .lst []) ndE.1 ndE.2 hpg
    have EF := Ext.new (o := .lst []) hpg
    have gF : (m5.set pg (.lst [])).mu pg = _ := M.set_same
    generalize m5.set pg (.lst []) = m6 at EF ndF gF ⊢
    refine ⟨slk (by simp), fun pi hpi => ?_⟩
    have ndG := nd_add (o := .lst []) ndF.1 ndF.2 hpi
    have EG := Ext.new (o := .lst []) hpi
    have iG : (m6.set pi (.lst [])).mu pi = _ := M.set_same
    generalize m6.set pi (.lst []) = m7 at EG ndG iG ⊢
    have nd := ndG.1
    have E7 := (((((EA.trans EB).trans EC).trans ED).trans EE).trans EF).trans EG
    have N : ∀ (i j : Nat) (a b : Addr), ([u, pm, pk, pf, pj, ps, pg, pi] : List Addr)[i]? = some a → ([u, pm, pk, pf, pj, ps, pg, pi] : List Addr)[j]? = some b → i ≠ j → a ≠ b := fun i j a b h1 h2 h3 => nd_ne nd h1 h2 h3
    have nupm : pm ≠ u := N 1 0 _ _ rfl rfl (by decide)
    have nupk : pk ≠ u := N 2 0 _ _ rfl rfl (by decide)
    have nupj : pj ≠ u := N 4 0 _ _ rfl rfl (by decide)
    have nups : ps ≠ u := N 5 0 _ _ rfl rfl (by decide)
    have nupg : pg ≠ u := N 6 0 _ _ rfl rfl (by decide)
    have nupi : pi ≠ u := N 7 0 _ _ rfl rfl (by decide)
    have nsm : pm ≠ ps := N 1 5 _ _ rfl rfl (by decide)
    have nsk : pk ≠ ps := N 2 5 _ _ rfl rfl (by decide)
    have nsj : pj ≠ ps := N 4 5 _ _ rfl rfl (by decide)
    have nsg : pg ≠ ps := N 6 5 _ _ rfl rfl (by decide)
    have nsi : pi ≠ ps := N 7 5 _ _ rfl rfl (by decide)
    have nkm : pm ≠ pk := N 1 2 _ _ rfl rfl (by decide)
    have nkj : pj ≠ pk := N 4 2 _ _ rfl rfl (by decide)
    have nkg : pg ≠ pk := N 6 2 _ _ rfl rfl (by decide)
    have nki : pi ≠ pk := N 7 2 _ _ rfl rfl (by decide)
    have njm : pm ≠ pj := N 1 4 _ _ rfl rfl (by decide)
    have njg : pg ≠ pj := N 6 4 _ _ rfl rfl (by decide)
    have nji : pi ≠ pj := N 7 4 _ _ rfl rfl (by decide)
    have ngi : pi ≠ pg := N 7 6 _ _ rfl rfl (by decide)
    have ngm : pm ≠ pg := N 1 6 _ _ rfl rfl (by decide)
    have nim : pm ≠ pi := N 1 7 _ _ rfl rfl (by decide)
    have fr : ∀ {x y : M} {p : Addr}, Ext x y → y.mu p = none → x.mu p = none := fun {x y p} hE hp => by
      cases e : x.mu p with
      | none => rfl
      | some o => rw [hE.old _ _ e] at hp; cases hp
    have frC : ∀ {y : M} {p : Addr} {o : DO}, Chg u m y → y.mu u = some o → y.mu p = none → m.mu p = none := fun {y p o} hE hu' hp => by
      cases e : m.mu p with
      | none => rfl
      | some o' => rw [hE.old _ _ (fun z => by subst z; rw [hu'] at hp; cases hp) e] at hp; cases hp
    have f_pk : m.mu pk = none := fr EA hpk
    have f_pj : m.mu pj = none := fr ((EA.trans EB).trans EC) hpj
    have f_ps : m.mu ps = none := fr (((EA.trans EB).trans EC).trans ED) hps
    have f_pg : m.mu pg = none := fr ((((EA.trans EB).trans EC).trans ED).trans EE) hpg
    have f_pi : m.mu pi = none := fr (((((EA.trans EB).trans EC).trans ED).trans EE).trans EF) hpi
    refine ⟨_, _, _, rfl, ?_⟩
    refine dFor_draw (n := (k : Int) + 1) (by omega) (by intro R hR; dsimp only [dRet, dSeq, dNext, dIfS, dSet, dExpr, dAsg, dPar, dPar3, gD, dOp, dUn, dArgs, dCons, dNil, dC, dB, dNot, dCall, dMeth, dMeth0, dIf, dLst, dTup, dSl, dNoPart, dPart, dM1, dOr, dAnd, dDGet]; exact dVar_at rfl (dVar_at rfl (aI (drw (hd.ext E7.gh) (by omega) (by omega) hR)))) (fun i δ m' => ∃ (kvs : List (Str × Str)) (es : List PL.End) (pf : Addr) (d3 d12 d13 d14 : Option D),
      δ = [some d, some (.ref u), some (.int k), d3, none, some (.ref pf), some (.ref pm), some (.ref pk), some (.ref pj), some (.ref ps), some (.ref pg), some (.ref pi), d12, d13, d14] ∧ Chg u m m' ∧
      m'.mu u = some (.lst ((kvs.map (·.1)).map D.str)) ∧ m'.mu pm = some (.dic manyD) ∧ m'.mu pk = some (.dic (strKV kvs)) ∧ m'.mu pj = some (.dit []) ∧ m'.mu ps = some (.lst (kvs.map strD)) ∧ m'.mu pg = some (.lst []) ∧ m'.mu pi = some (.lst []) ∧ m'.mu pf = some (.lst (es.map endD)) ∧
      (pf ≠ u ∧ pf ≠ pk ∧ pf ≠ pj ∧ pf ≠ ps ∧ pf ≠ pg ∧ pf ≠ pi ∧ m.mu pf = none) ∧ (kvs.map (·.1)).Nodup ∧ kvs.length = i ∧ (∀ p ∈ kvs, strOk' p) ∧ (∀ e ∈ es, KE kvs e) ∧ es.length ≤ 4 * i) ?_ ?_ ?_
    · refine ⟨[], [], pf, _, _, _, _, rfl, E7.chg u, E7.old _ _ hu, ?_, ?_, ?_, ?_, ?_, iG, ?_, ⟨N 3 0 _ _ rfl rfl (by decide), N 3 2 _ _ rfl rfl (by decide), N 3 4 _ _ rfl rfl (by decide), N 3 5 _ _ rfl rfl (by decide), N 3 6 _ _ rfl rfl (by decide), N 3 7 _ _ rfl rfl (by decide), fr (EA.trans EB) hpf⟩, by simp, rfl, by simp, by simp, by simp⟩
      · exact (((((EB.trans EC).trans ED).trans EE).trans EF).trans EG).old _ _ mA
      · exact ((((EC.trans ED).trans EE).trans EF).trans EG).old _ _ kB
      · exact ((EE.trans EF).trans EG).old _ _ jD
      · exact (EF.trans EG).old _ _ sE
      · exact EG.old _ _ gF
      · exact (((ED.trans EE).trans EF).trans EG).old _ _ fC
    · rintro i δ m' hi ⟨kvs, es, pf', d3, d12, d13, d14, rfl, hC, h1, h2, h3, h4, h5, h6, h7, h8, ⟨x1, x2, x3, x4, x5, x6, xm⟩, hnd, hkl, hst, hes, hesl⟩
      dsimp only [dRet, dSeq, dNext, dIfS, dSet, dExpr, dAsg, dPar, dPar3, gD, dOp, dUn, dArgs, dCons, dNil, dC, dB, dNot, dCall, dMeth, dMeth0, dIf, dLst, dTup, dSl, dNoPart, dPart, dM1, dOr, dAnd, dDGet]
      have hdk := hd.ext hC.gh
      refine dVar_at rfl ⟨slk (by simp), fun p hp => pk' (l := ["plain", "plain", "plain", "points", "points", "crossing"]) (hdk.ext rfl) M.set_same (by simp) (by simp) fun kind hkind => ?_⟩
      have hkS := kinds6 kind hkind
      have E1 := Ext.new (o := .lst ((["plain", "plain", "plain", "points", "points", "crossing"] : List Str).map D.str)) hp
      have a1 := E1.old _ _ h1; have a2 := E1.old _ _ h2; have a3 := E1.old _ _ h3; have a4 := E1.old _ _ h4; have a5 := E1.old _ _ h5; have a6 := E1.old _ _ h6; have a7 := E1.old _ _ h7; have a8 := E1.old _ _ h8
      have C1 := hC.ext E1
      have eq1 : m'.set p (.lst [.str "plain", .str "plain", .str "plain", .str "points", .str "points", .str "crossing"]) = m'.set p (.lst ((["plain", "plain", "plain", "points", "points", "crossing"] : List Str).map D.str)) := rfl
      rw [eq1]
      generalize m'.set p (.lst ((["plain", "plain", "plain", "points", "points", "crossing"] : List Str).map D.str)) = n1 at C1 a1 a2 a3 a4 a5 a6 a7 a8 ⊢
      refine dVar_at rfl (dVar_at rfl ⟨d, u, kvs.map (·.1), rfl, hd.ext C1.gh, a1, by rw [List.length_map]; omega, fun s n2 hs hn hC2 hu2 => ?_⟩)
      have b2 := hC2.old _ _ nupm a2; have b3 := hC2.old _ _ nupk a3; have b4 := hC2.old _ _ nupj a4; have b5 := hC2.old _ _ nups a5; have b6 := hC2.old _ _ nupg a6; have b7 := hC2.old _ _ nupi a7; have b8 := hC2.old _ _ x1 a8
      have C2 : Chg u m n2 := ⟨hC2.gh.trans C1.gh, fun x o z w => hC2.old x o z (C1.old x o z w)⟩
      refine dVar_at rfl ⟨⟨ps, _, rfl, b5⟩, dVar_at rfl (dVar_at rfl ⟨slk (by simp), ap b5 (by rw [List.length_map]; omega) ?_⟩)⟩
      have e5 : kvs.map strD ++ [D.tup [D.str s, D.str kind]] = (kvs ++ [(s, kind)]).map strD := by rw [List.map_append]; rfl
      rw [e5]
      have c1 : (n2.set ps (.lst ((kvs ++ [(s, kind)]).map strD))).mu u = _ := (M.set_ne nups.symm).trans hu2
      have c2 : (n2.set ps (.lst ((kvs ++ [(s, kind)]).map strD))).mu pm = _ := (M.set_ne nsm).trans b2
      have c3 : (n2.set ps (.lst ((kvs ++ [(s, kind)]).map strD))).mu pk = _ := (M.set_ne nsk).trans b3
      have c4 : (n2.set ps (.lst ((kvs ++ [(s, kind)]).map strD))).mu pj = _ := (M.set_ne nsj).trans b4
      have c5 : (n2.set ps (.lst ((kvs ++ [(s, kind)]).map strD))).mu ps = _ := M.set_same
      have c6 : (n2.set ps (.lst ((kvs ++ [(s, kind)]).map strD))).mu pg = _ := (M.set_ne nsg).trans b6
      have c7 : (n2.set ps (.lst ((kvs ++ [(s, kind)]).map strD))).mu pi = _ := (M.set_ne nsi).trans b7
      have c8 : (n2.set ps (.lst ((kvs ++ [(s, kind)]).map strD))).mu pf' = _ := (M.set_ne x4).trans b8
      have C3 : Chg u m (n2.set ps (.lst ((kvs ++ [(s, kind)]).map strD))) := ⟨C2.gh, fun x o z w => by rw [M.set_ne (neOf w f_ps)]; exact C2.old x o z w⟩
      generalize n2.set ps (.lst ((kvs ++ [(s, kind)]).map strD)) = n3 at c1 c2 c3 c4 c5 c6 c7 c8 C3 ⊢
      dsimp only [dDPut]
      refine dVar_at rfl (dVar_at rfl (dVar_at rfl ⟨pk, rfl, .inl ⟨strKV kvs, .inr s, c3, rfl, slk (by unfold strKV; rw [List.length_map]; omega), ?_⟩⟩))
      rw [putStr hn]
      have g1 : (n3.set pk (.dic (strKV (kvs ++ [(s, kind)])))).mu u = _ := (M.set_ne nupk.symm).trans c1
      have g2 : (n3.set pk (.dic (strKV (kvs ++ [(s, kind)])))).mu pm = _ := (M.set_ne nkm).trans c2
      have g3 : (n3.set pk (.dic (strKV (kvs ++ [(s, kind)])))).mu pk = _ := M.set_same
      have g4 : (n3.set pk (.dic (strKV (kvs ++ [(s, kind)])))).mu pj = _ := (M.set_ne nkj).trans c4
      have g5 : (n3.set pk (.dic (strKV (kvs ++ [(s, kind)])))).mu ps = _ := (M.set_ne nsk.symm).trans c5
      have g6 : (n3.set pk (.dic (strKV (kvs ++ [(s, kind)])))).mu pg = _ := (M.set_ne nkg).trans c6
      have g7 : (n3.set pk (.dic (strKV (kvs ++ [(s, kind)])))).mu pi = _ := (M.set_ne nki).trans c7
      have g8 : (n3.set pk (.dic (strKV (kvs ++ [(s, kind)])))).mu pf' = _ := (M.set_ne x2).trans c8
      have C4 : Chg u m (n3.set pk (.dic (strKV (kvs ++ [(s, kind)])))) := ⟨C3.gh, fun x o z w => by rw [M.set_ne (neOf w f_pk)]; exact C3.old x o z w⟩
      generalize n3.set pk (.dic (strKV (kvs ++ [(s, kind)]))) = n4 at g1 g2 g3 g4 g5 g6 g7 g8 C4 ⊢
      obtain ⟨n, hval, n0, n4', npl⟩ := many_val hkS
      refine dVar_at rfl ?_
      refine dLC_gen (I := fun _ => True) (Rel := fun _ o => ∃ e, KE (kvs ++ [(s, kind)]) e ∧ o = some (endD e)) trivial (fun _ _ _ _ => trivial) (iR_w (j := n) (by intro R hR; dsimp only [dDGet]; exact dVar_at rfl (dVar_at rfl ⟨pm, _, rfl, .inl ⟨manyD, .inr kind, g2, rfl, hval.symm⟩, hR⟩)) (by omega) (by omega)) (slk (by rw [rangeD_len]; omega)) (fun x hx m' hE' _ Ry Rn hy hn => ?_) (fun p m3 ys hp hE3 _ hm3 ho => ?_)
      · unfold rangeD at hx
        obtain ⟨j, hj, rfl⟩ := List.mem_map.mp hx
        have hj : j < n.toNat := List.mem_range.mp hj
        dsimp only [dRet, dSeq, dNext, dIfS, dSet, dExpr, dAsg, dPar, dPar3, gD, dOp, dUn, dArgs, dCons, dNil, dC, dB, dNot, dCall, dMeth, dMeth0, dIf, dLst, dTup, dSl, dNoPart, dPart, dM1, dOr, dAnd, dDGet]
        refine yesT ?_
        refine dVar_at rfl (dVar_at rfl ⟨slk (by simp), hy _ _ ⟨(s, (j : Int)), ⟨⟨hs, by unfold numOk; dsimp only; omega⟩, kind, List.mem_append_right _ List.mem_cons_self, hkS, fun z => ?_⟩, rfl⟩ (Ext.refl _)⟩)
        have := npl z
        show (j : Int) ≤ 1
        omega
      · obtain ⟨es2, rfl, hes2, hl2⟩ := ho.exL
        rw [rangeD_len] at hl2
        refine addL (hE3.old _ _ g8) hm3 (by simp only [List.length_map]; omega) fun p2 hp2 => ?_
        have e8 : es.map endD ++ es2.map endD = (es ++ es2).map endD := by rw [List.map_append]
        rw [e8]
        have E5 := hE3.trans (Ext.new (o := .lst ((es ++ es2).map endD)) hp2)
        have EN : ∀ a o, n4.mu a = some o → p2 ≠ a := fun a o z => (neOf (hE3.old _ _ z) hp2).symm
        refine ⟨kvs ++ [(s, kind)], es ++ es2, p2, _, _, _, _, rfl, C4.ext E5, by rw [E5.old _ _ g1]; simp, E5.old _ _ g2, E5.old _ _ g3, E5.old _ _ g4, E5.old _ _ g5, E5.old _ _ g6, E5.old _ _ g7, M.set_same, ⟨EN _ _ g1, EN _ _ g3, EN _ _ g4, EN _ _ g5, EN _ _ g6, EN _ _ g7, frC (C4.ext hE3) (hE3.old _ _ g1) hp2⟩, ?_, by rw [List.length_append, hkl]; rfl, ?_, ?_, by rw [List.length_append]; omega⟩
        · rw [List.map_append]
          exact List.nodup_append.mpr ⟨hnd, by simp, fun a ha b hb e => by
            have hb : b = s := by simpa using hb
            exact hn (by rw [← hb, ← e]; exact ha)⟩
        · intro x hx
          rcases List.mem_append.mp hx with hx | hx
          · exact hst x hx
          · rw [List.mem_singleton.mp hx]; exact ⟨hs, hkS⟩
        · intro x hx
          rcases List.mem_append.mp hx with hx | hx
          · exact (hes x hx).more
          · exact hes2 x hx
    · rintro r δ m' hr ⟨kvs, es, pf', d3, d12, d13, d14, rfl, hC, h1, h2, h3, h4, h5, h6, h7, h8, ⟨x1, x2, x3, x4, x5, x6, xm⟩, hnd, hkl, hst, hes, hesl⟩
      dsimp only [dRet, dSeq, dNext, dIfS, dSet, dExpr, dAsg, dPar, dPar3, gD, dOp, dUn, dArgs, dCons, dNil, dC, dB, dNot, dCall, dMeth, dMeth0, dIf, dLst, dTup, dSl, dNoPart, dPart, dM1, dOr, dAnd, dDGet]
      have hdk := hd.ext hC.gh
      refine dVar_at rfl (dVar_at rfl (dVar_at rfl ⟨KE kvs, d, pf', pj, es, rfl, hdk, x3, h8, h4, by omega, hes, fun e h => h.1, fun a m2 js es2 jkv hC2 ha y8 y4 ya hjs hjl hes2 hesl2 hjkv hjkl => ?_⟩))
      have y1 := hC2.old _ _ x1.symm nupj.symm h1
      have y3 := hC2.old _ _ x2.symm nkj.symm h3
      have y5 := hC2.old _ _ x4.symm nsj.symm h5
      have y6 := hC2.old _ _ x5.symm njg h6
      have y7 := hC2.old _ _ x6.symm nji h7
      have au := neOf h1 ha
      have ak := neOf h3 ha
      have aj := neOf h4 ha
      have as' := neOf h5 ha
      have ag := neOf h6 ha
      have ai := neOf h7 ha
      have C2 : Chg u m m2 := ⟨hC2.gh.trans hC.gh, fun x o z w => hC2.old _ _ (neOf w xm) (neOf w f_pj) (hC.old _ _ z w)⟩
      have f_a : m.mu a = none := frC hC h1 ha
      clear hC2 ha h1 h2 h3 h4 h5 h6 h7 h8 hC hdk
      have getK : ∀ {x : M} {e : PL.End}, x.mu pk = some (.dic (strKV kvs)) → KE kvs e → ∃ kind, GetD x pk (.str e.1) (some (.str kind)) := fun {x e} hx he => by
        obtain ⟨_, kind, hm, _⟩ := he
        exact ⟨kind, .inl ⟨_, .inr e.1, hx, rfl, (valStr hm hnd).symm⟩⟩
      refine dLC_gen (I := fun _ => True) (Rel := fun x o => ∃ e : PL.End, e ∈ es2 ∧ x = endD e ∧ (o = none ∨ o = some (endD e))) trivial (fun _ _ _ _ => trivial) (iL_w (xs := es2.map endD) (fun R hR => dVar_at rfl hR) y8) (slk (by rw [List.length_map]; omega)) (fun x hx m' hE' _ Ry Rn hy hn => ?_) (fun pq m3 ys hpq hE3 _ hm3 ho => ?_)
      · obtain ⟨e, he, rfl⟩ := List.mem_map.mp hx
        obtain ⟨kind, hg⟩ := getK (hE'.old _ _ y3) (hes2 e he)
        dsimp only [dRet, dSeq, dNext, dIfS, dSet, dExpr, dAsg, dPar, dPar3, gD, dOp, dUn, dArgs, dCons, dNil, dC, dB, dNot, dCall, dMeth, dMeth0, dIf, dLst, dTup, dSl, dNoPart, dPart, dM1, dOr, dAnd, dDGet]
        exact dVar_at rfl (dVar_at rfl (endD_ix0 ⟨pk, _, rfl, hg, eqT ⟨_, rfl, iff_T (fun _ => dVar_at rfl (hy _ _ ⟨e, he, rfl, .inr rfl⟩ (Ext.refl _))) fun _ => hn _ ⟨e, he, rfl, .inl rfl⟩ (Ext.refl _)⟩⟩))
      obtain ⟨es3, rfl, hes3⟩ := listOf (f := endD) (P := fun e => e ∈ es2) (ys := ys) (ho.all fun x hx y hxy => by
        obtain ⟨e, he, _, e2⟩ := hxy
        rcases e2 with e2 | e2
        · cases e2
        · cases e2; exact ⟨e, rfl, he⟩)
      have hl3 := ho.len
      rw [List.length_map, List.length_map] at hl3
      have C3 := C2.ext hE3
      have qu := (neOf y1 hpq).symm
      have qk := (neOf y3 hpq).symm
      have qj := (neOf y4 hpq).symm
      have qs := (neOf y5 hpq).symm
      have qg := (neOf y6 hpq).symm
      have qi := (neOf y7 hpq).symm
      have qa := (neOf ya hpq).symm
      have f_q : m.mu pq = none := frC C2 y1 hpq
      have y1 := hE3.old _ _ y1; have y3 := hE3.old _ _ y3; have y4 := hE3.old _ _ y4; have y5 := hE3.old _ _ y5; have y6 := hE3.old _ _ y6; have y7 := hE3.old _ _ y7; have ya := hE3.old _ _ ya
      refine dFor_draw (n := 5) (by decide) (by intro R hR; dsimp only [dRet, dSeq, dNext, dIfS, dSet, dExpr, dAsg, dPar, dPar3, gD, dOp, dUn, dArgs, dCons, dNil, dC, dB, dNot, dCall, dMeth, dMeth0, dIf, dLst, dTup, dSl, dNoPart, dPart, dM1, dOr, dAnd, dDGet]; exact dVar_at rfl (drw (hd.ext C3.gh) (by decide) (by decide) hR)) (fun i δ m' => ∃ (us : List Str) (ga : List (Str × PL.End)) (fs : List PL.End) (d3 d12 d13 d14 : Option D),
        δ = [some d, some (.ref u), some (.int k), d3, some (.ref a), some (.ref pq), some (.ref pm), some (.ref pk), some (.ref pj), some (.ref ps), some (.ref pg), some (.ref pi), d12, d13, d14] ∧ Chg u m m' ∧
        m'.mu u = some (.lst (us.map D.str)) ∧ m'.mu pk = some (.dic (strKV kvs)) ∧ m'.mu pj = some (.dit (joKV jkv)) ∧ m'.mu ps = some (.lst (kvs.map strD)) ∧ m'.mu pg = some (.lst (ga.map gaD)) ∧ m'.mu pi = some (.lst []) ∧ m'.mu a = some (.lst (js.map joD)) ∧ m'.mu pq = some (.lst (fs.map endD)) ∧
        us.length ≤ 12 + i ∧ ga.length ≤ i ∧ (∀ g ∈ ga, gaOk g) ∧ (∀ e ∈ fs, e ∈ es2) ∧ fs.length ≤ 48) ?_ ?_ ?_
      · exact ⟨_, [], es3, _, _, _, _, rfl, C3, y1, y3, y4, y5, y6, y7, ya, hm3, by rw [List.length_map]; omega, by simp, by simp, hes3, by omega⟩
      · rintro i δ m' hi ⟨us, ga, fs, d3, d12, d13, d14, rfl, hC, h1, h3, h4, h5, h6, h7, h8, h9, hul, hgl, hga, hfs, hfl⟩
        dsimp only [dRet, dSeq, dNext, dIfS, dSet, dExpr, dAsg, dPar, dPar3, gD, dOp, dUn, dArgs, dCons, dNil, dC, dB, dNot, dCall, dMeth, dMeth0, dIf, dLst, dTup, dSl, dNoPart, dPart, dM1, dOr, dAnd, dDGet]
        have fin : ∀ x ∈ fs.map endD, Fine x := fun x hx => by
          obtain ⟨e, he, rfl⟩ := List.mem_map.mp hx
          exact end_fine (hes2 e (hfs e he)).1
        refine dVar_at rfl ⟨slk (by simp), fun p hp => ne_nil ((Ext.new hp).old _ _ h9) M.set_same fin ⟨_, rfl, ?_⟩⟩
        have E1 := Ext.new (o := .lst []) hp
        have C1 := hC.ext E1
        have h1 := E1.old _ _ h1; have h3 := E1.old _ _ h3; have h4 := E1.old _ _ h4; have h5 := E1.old _ _ h5; have h6 := E1.old _ _ h6; have h7 := E1.old _ _ h7; have h8 := E1.old _ _ h8; have h9 := E1.old _ _ h9
        generalize m'.set p (.lst []) = n1 at C1 h1 h3 h4 h5 h6 h7 h8 h9 ⊢
        refine iff_T (fun hc => ?_) fun _ => ⟨us, ga, fs, _, _, _, _, rfl, C1, h1, h3, h4, h5, h6, h7, h8, h9, by omega, by omega, hga, hfs, hfl⟩
        have hfn : 0 < fs.length := by cases fs with | nil => cases hc | cons _ _ => simp
        refine dVar_at rfl ⟨⟨pg, _, rfl, h6⟩, dVar_at rfl (dVar_at rfl ⟨d, u, us, rfl, hd.ext C1.gh, h1, by omega, fun s n2 hs hn hC2 hu2 => ?_⟩)⟩
        have b3 := hC2.old _ _ nupk h3; have b4 := hC2.old _ _ nupj h4; have b5 := hC2.old _ _ nups h5; have b6 := hC2.old _ _ nupg h6; have b7 := hC2.old _ _ nupi h7; have b8 := hC2.old _ _ au.symm h8; have b9 := hC2.old _ _ qu h9
        have C2' : Chg u m n2 := ⟨hC2.gh.trans C1.gh, fun x o z w => hC2.old x o z (C1.old x o z w)⟩
        refine dVar_at rfl ⟨⟨pq, _, rfl, b9⟩, dVar_at rfl (dVar_at rfl ⟨.ref pq, fs.length, rfl, ⟨_, b9, (List.length_map ..).symm⟩, drw (hd.ext C2'.gh) (by omega) (by omega) fun r r0 r1 => popL b9 r0 (by rw [List.length_map]; omega) (by rw [List.length_map]; omega) fun y hy hk' => ?_⟩)⟩
        obtain ⟨e, he, rfl⟩ := List.mem_map.mp hy
        rw [erase_map]
        have c1 : (n2.set pq (.lst ((fs.eraseIdx r.toNat).map endD))).mu u = _ := (M.set_ne qu.symm).trans hu2
        have c3 : (n2.set pq (.lst ((fs.eraseIdx r.toNat).map endD))).mu pk = _ := (M.set_ne qk.symm).trans b3
        have c4 : (n2.set pq (.lst ((fs.eraseIdx r.toNat).map endD))).mu pj = _ := (M.set_ne qj.symm).trans b4
        have c5 : (n2.set pq (.lst ((fs.eraseIdx r.toNat).map endD))).mu ps = _ := (M.set_ne qs.symm).trans b5
        have c6 : (n2.set pq (.lst ((fs.eraseIdx r.toNat).map endD))).mu pg = _ := (M.set_ne qg.symm).trans b6
        have c7 : (n2.set pq (.lst ((fs.eraseIdx r.toNat).map endD))).mu pi = _ := (M.set_ne qi.symm).trans b7
        have c8 : (n2.set pq (.lst ((fs.eraseIdx r.toNat).map endD))).mu a = _ := (M.set_ne qa.symm).trans b8
        have c9 : (n2.set pq (.lst ((fs.eraseIdx r.toNat).map endD))).mu pq = _ := M.set_same
        have C3' : Chg u m (n2.set pq (.lst ((fs.eraseIdx r.toNat).map endD))) := ⟨C2'.gh, fun x o z w => by rw [M.set_ne (neOf w f_q)]; exact C2'.old x o z w⟩
        generalize n2.set pq (.lst ((fs.eraseIdx r.toNat).map endD)) = n3 at c1 c3 c4 c5 c6 c7 c8 c9 C3' ⊢
        refine ⟨slk (by simp), ap c6 (by rw [List.length_map]; omega) ⟨us ++ [s], ga ++ [(s, e)], fs.eraseIdx r.toNat, _, _, _, _, rfl, ⟨C3'.gh, fun x o z w => by rw [M.set_ne (neOf w f_pg)]; exact C3'.old x o z w⟩, (M.set_ne nupg.symm).trans c1, (M.set_ne nkg.symm).trans c3, (M.set_ne njg.symm).trans c4, (M.set_ne nsg.symm).trans c5, by rw [M.set_same, List.map_append]; rfl, (M.set_ne ngi).trans c7, (M.set_ne ag.symm).trans c8, (M.set_ne qg).trans c9, by rw [List.length_append]; show us.length + 1 ≤ _; omega, by rw [List.length_append]; show ga.length + 1 ≤ _; omega, ?_, fun x hx => hfs x (List.mem_of_mem_eraseIdx hx), Nat.le_trans (List.length_eraseIdx_le _ _) hfl⟩⟩
        intro x hx
        rcases List.mem_append.mp hx with hx | hx
        · exact hga x hx
        · rw [List.mem_singleton.mp hx]; exact ⟨hs, (hes2 e (hfs e he)).1⟩
      · rintro r2 δ m' hr2 ⟨us, ga, fs, d3, d12, d13, d14, rfl, hC, h1, h3, h4, h5, h6, h7, h8, h9, hul, hgl, hga, hfs, hfl⟩
        dsimp only [dRet, dSeq, dNext, dIfS, dSet, dExpr, dAsg, dPar, dPar3, gD, dOp, dUn, dArgs, dCons, dNil, dC, dB, dNot, dCall, dMeth, dMeth0, dIf, dLst, dTup, dSl, dNoPart, dPart, dM1, dOr, dAnd, dDGet]
        dsimp only [dLockS, dSet]
        refine ⟨pj, joKV jkv, rfl, h4, fun lu => ?_⟩
        have hkeys : (joKV jkv).map (fun p => D.tup (p.1.map kD)) = (jkv.map (·.1)).map endD := by unfold joKV; rw [List.map_map, List.map_map]; rfl
        have Lj : (m'.set pj (.lck (joKV jkv) lu)).mu pj = _ := M.set_same
        have L1 : (m'.set pj (.lck (joKV jkv) lu)).mu u = _ := (M.set_ne nupj.symm).trans h1
        have L3 : (m'.set pj (.lck (joKV jkv) lu)).mu pk = _ := (M.set_ne nkj.symm).trans h3
        have L5 : (m'.set pj (.lck (joKV jkv) lu)).mu ps = _ := (M.set_ne nsj.symm).trans h5
        have L6 : (m'.set pj (.lck (joKV jkv) lu)).mu pg = _ := (M.set_ne njg).trans h6
        have L7 : (m'.set pj (.lck (joKV jkv) lu)).mu pi = _ := (M.set_ne nji).trans h7
        have L8 : (m'.set pj (.lck (joKV jkv) lu)).mu a = _ := (M.set_ne aj.symm).trans h8
        have LC : Chg u m (m'.set pj (.lck (joKV jkv) lu)) := ⟨hC.gh, fun x o z w => by rw [M.set_ne (neOf w f_pj)]; exact hC.old x o z w⟩
        generalize m'.set pj (.lck (joKV jkv) lu) = L0 at Lj L1 L3 L5 L6 L7 L8 LC ⊢
        refine dLC_gen (I := fun _ => True) (xs := (joKV jkv).map fun p => D.tup (p.1.map kD)) (Rel := fun x o => ∃ e : PL.End, e ∈ jkv.map (·.1) ∧ x = endD e ∧ (o = none ∨ o = some (endD e))) trivial (fun _ _ _ _ => trivial) (fun R hR => ⟨pj, joKV jkv, lu, rfl, Lj, hR _ L0 (Ext.refl _) fun m'' hE => hE.old _ _ Lj⟩) (slk (by unfold joKV; rw [List.length_map, List.length_map]; omega)) (fun x hx m' hE' _ Ry Rn hy hn => ?_) (fun pr m4 ys hpr hE4 _ hm4 ho => ?_)
        · rw [hkeys] at hx
          obtain ⟨e, he, rfl⟩ := List.mem_map.mp hx
          obtain ⟨pp, hpp, rfl⟩ := List.mem_map.mp he
          obtain ⟨kind, hg⟩ := getK (hE'.old _ _ L3) (hjkv pp hpp).1
          dsimp only [dRet, dSeq, dNext, dIfS, dSet, dExpr, dAsg, dPar, dPar3, gD, dOp, dUn, dArgs, dCons, dNil, dC, dB, dNot, dCall, dMeth, dMeth0, dIf, dLst, dTup, dSl, dNoPart, dPart, dM1, dOr, dAnd, dDGet]
          exact dVar_at rfl (dVar_at rfl (endD_ix0 ⟨pk, _, rfl, hg, eqT ⟨_, rfl, iff_T (fun _ => dVar_at rfl (hy _ _ ⟨pp.1, he, rfl, .inr rfl⟩ (Ext.refl _))) fun _ => hn _ ⟨pp.1, he, rfl, .inl rfl⟩ (Ext.refl _)⟩⟩))
        obtain ⟨fs0, rfl, hfs0⟩ := listOf (f := endD) (P := fun e => e ∈ jkv.map (·.1)) (ys := ys) (ho.all fun x hx y hxy => by
          obtain ⟨e, he, _, e2⟩ := hxy
          rcases e2 with e2 | e2
          · cases e2
          · cases e2; exact ⟨e, rfl, he⟩)
        have hl4 := ho.len
        rw [hkeys, List.length_map, List.length_map, List.length_map] at hl4
        have ru := (neOf L1 hpr).symm
        have rk := (neOf L3 hpr).symm
        have rj := (neOf Lj hpr).symm
        have rs := (neOf L5 hpr).symm
        have rg := (neOf L6 hpr).symm
        have ri := (neOf L7 hpr).symm
        have ra := (neOf L8 hpr).symm
        have f_r : m.mu pr = none := frC LC L1 hpr
        refine ⟨hE4.old _ _ Lj, ?_⟩
        have C4 := LC.ext hE4
        have y1 : (m4.set pj (.dit (joKV jkv))).mu u = _ := (M.set_ne nupj.symm).trans (hE4.old _ _ L1)
        have y3 : (m4.set pj (.dit (joKV jkv))).mu pk = _ := (M.set_ne nkj.symm).trans (hE4.old _ _ L3)
        have y4 : (m4.set pj (.dit (joKV jkv))).mu pj = _ := M.set_same
        have y5 : (m4.set pj (.dit (joKV jkv))).mu ps = _ := (M.set_ne nsj.symm).trans (hE4.old _ _ L5)
        have y6 : (m4.set pj (.dit (joKV jkv))).mu pg = _ := (M.set_ne njg).trans (hE4.old _ _ L6)
        have y7 : (m4.set pj (.dit (joKV jkv))).mu pi = _ := (M.set_ne nji).trans (hE4.old _ _ L7)
        have y8 : (m4.set pj (.dit (joKV jkv))).mu a = _ := (M.set_ne aj.symm).trans (hE4.old _ _ L8)
        have y9 : (m4.set pj (.dit (joKV jkv))).mu pr = _ := (M.set_ne rj).trans hm4
        have C5 : Chg u m (m4.set pj (.dit (joKV jkv))) := ⟨C4.gh, fun x o z w => by rw [M.set_ne (neOf w f_pj)]; exact C4.old x o z w⟩
        generalize m4.set pj (.dit (joKV jkv)) = m5 at y1 y3 y4 y5 y6 y7 y8 y9 C5 ⊢
        refine dFor_draw (n := 11) (by decide) (by intro R hR; dsimp only [dRet, dSeq, dNext, dIfS, dSet, dExpr, dAsg, dPar, dPar3, gD, dOp, dUn, dArgs, dCons, dNil, dC, dB, dNot, dCall, dMeth, dMeth0, dIf, dLst, dTup, dSl, dNoPart, dPart, dM1, dOr, dAnd, dDGet]; exact dVar_at rfl (drw (hd.ext C5.gh) (by decide) (by decide) hR)) (fun i δ m' => ∃ (us : List Str) (ss : List (Str × PL.End × Option PL.Step)) (fs : List PL.End) (d3 d12 d13 d14 : Option D),
          δ = [some d, some (.ref u), some (.int k), d3, some (.ref a), some (.ref pr), some (.ref pm), some (.ref pk), some (.ref pj), some (.ref ps), some (.ref pg), some (.ref pi), d12, d13, d14] ∧ Chg u m m' ∧
          m'.mu u = some (.lst (us.map D.str)) ∧ m'.mu pk = some (.dic (strKV kvs)) ∧ m'.mu pj = some (.dit (joKV jkv)) ∧ m'.mu ps = some (.lst (kvs.map strD)) ∧ m'.mu pg = some (.lst (ga.map gaD)) ∧ m'.mu pi = some (.lst (ss.map siD)) ∧ m'.mu a = some (.lst (js.map joD)) ∧ m'.mu pr = some (.lst (fs.map endD)) ∧
          us.length ≤ 17 + i ∧ ss.length ≤ i ∧ (∀ g ∈ ss, siOk g) ∧ (∀ e ∈ fs, e ∈ jkv.map (·.1)) ∧ fs.length ≤ 32) ?_ ?_ ?_
        · exact ⟨us, [], fs0, _, _, _, _, rfl, C5, y1, y3, y4, y5, y6, y7, y8, y9, by omega, by simp, by simp, hfs0, by omega⟩
        · rintro i δ m' hi ⟨us, ss, fs, d3, d12, d13, d14, rfl, hC, h1, h3, h4, h5, h6, h7, h8, h9, hul, hgl, hss, hfs, hfl⟩
          dsimp only [dRet, dSeq, dNext, dIfS, dSet, dExpr, dAsg, dPar, dPar3, gD, dOp, dUn, dArgs, dCons, dNil, dC, dB, dNot, dCall, dMeth, dMeth0, dIf, dLst, dTup, dSl, dNoPart, dPart, dM1, dOr, dAnd, dDGet]
          have hKe : ∀ e ∈ jkv.map (·.1), KE kvs e := fun e he => by
            obtain ⟨pp, hpp, rfl⟩ := List.mem_map.mp he
            exact (hjkv pp hpp).1
          have fin : ∀ x ∈ fs.map endD, Fine x := fun x hx => by
            obtain ⟨e, he, rfl⟩ := List.mem_map.mp hx
            exact end_fine (hKe e (hfs e he)).1
          refine dVar_at rfl ⟨slk (by simp), fun p hp => ne_nil ((Ext.new hp).old _ _ h9) M.set_same fin ⟨_, rfl, ?_⟩⟩
          have E1 := Ext.new (o := .lst []) hp
          have C1 := hC.ext E1
          have h1 := E1.old _ _ h1; have h3 := E1.old _ _ h3; have h4 := E1.old _ _ h4; have h5 := E1.old _ _ h5; have h6 := E1.old _ _ h6; have h7 := E1.old _ _ h7; have h8 := E1.old _ _ h8; have h9 := E1.old _ _ h9
          generalize m'.set p (.lst []) = n1 at C1 h1 h3 h4 h5 h6 h7 h8 h9 ⊢
          refine iff_T (fun hc => ?_) fun _ => ⟨us, ss, fs, _, _, _, _, rfl, C1, h1, h3, h4, h5, h6, h7, h8, h9, by omega, by omega, hss, hfs, hfl⟩
          have hfn : 0 < fs.length := by cases fs with | nil => cases hc | cons _ _ => simp
          refine dVar_at rfl ⟨⟨pr, _, rfl, h9⟩, dVar_at rfl (dVar_at rfl ⟨.ref pr, fs.length, rfl, ⟨_, h9, (List.length_map ..).symm⟩, drw (hd.ext C1.gh) (by omega) (by omega) fun r r0 r1 => popL h9 r0 (by rw [List.length_map]; omega) (by rw [List.length_map]; omega) fun y hy hk' => ?_⟩)⟩
          obtain ⟨e, he, rfl⟩ := List.mem_map.mp hy
          rw [erase_map]
          have c1 : (n1.set pr (.lst ((fs.eraseIdx r.toNat).map endD))).mu u = _ := (M.set_ne ru.symm).trans h1
          have c3 : (n1.set pr (.lst ((fs.eraseIdx r.toNat).map endD))).mu pk = _ := (M.set_ne rk.symm).trans h3
          have c4 : (n1.set pr (.lst ((fs.eraseIdx r.toNat).map endD))).mu pj = _ := (M.set_ne rj.symm).trans h4
          have c5 : (n1.set pr (.lst ((fs.eraseIdx r.toNat).map endD))).mu ps = _ := (M.set_ne rs.symm).trans h5
          have c6 : (n1.set pr (.lst ((fs.eraseIdx r.toNat).map endD))).mu pg = _ := (M.set_ne rg.symm).trans h6
          have c7 : (n1.set pr (.lst ((fs.eraseIdx r.toNat).map endD))).mu pi = _ := (M.set_ne ri.symm).trans h7
          have c8 : (n1.set pr (.lst ((fs.eraseIdx r.toNat).map endD))).mu a = _ := (M.set_ne ra.symm).trans h8
          have c9 : (n1.set pr (.lst ((fs.eraseIdx r.toNat).map endD))).mu pr = _ := M.set_same
          have C3' : Chg u m (n1.set pr (.lst ((fs.eraseIdx r.toNat).map endD))) := ⟨C1.gh, fun x o z w => by rw [M.set_ne (neOf w f_r)]; exact C1.old x o z w⟩
          generalize n1.set pr (.lst ((fs.eraseIdx r.toNat).map endD)) = n3 at c1 c3 c4 c5 c6 c7 c8 c9 C3' ⊢
          refine dVar_at rfl ⟨⟨pi, _, rfl, c7⟩, dVar_at rfl (dVar_at rfl ⟨d, u, us, rfl, hd.ext C3'.gh, c1, by omega, fun s n2 hs hn hC2 hu2 => ?_⟩)⟩
          have b3 := hC2.old _ _ nupk c3; have b4 := hC2.old _ _ nupj c4; have b5 := hC2.old _ _ nups c5; have b6 := hC2.old _ _ nupg c6; have b7 := hC2.old _ _ nupi c7; have b8 := hC2.old _ _ au.symm c8; have b9 := hC2.old _ _ ru c9
          have C2' : Chg u m n2 := ⟨hC2.gh.trans C3'.gh, fun x o z w => hC2.old x o z (C3'.old x o z w)⟩
          obtain ⟨e', hv, hm'⟩ := getJo (hfs e he)
          refine dVar_at rfl (dVar_at rfl (dVar_at rfl (dVar_at rfl (dVar_at rfl ⟨pj, endD e', rfl, .inr ⟨joKV jkv, eKey e, b4, rfl, hv.symm⟩, d, pk, kvs, e', rfl, hd.ext C2'.gh, b3, hnd, (hjkv _ hm').2, fun o ho' => ?_⟩))))
          refine ⟨slk (by simp), ap b7 (by rw [List.length_map]; omega) ⟨us ++ [s], ss ++ [(s, e, o)], fs.eraseIdx r.toNat, _, _, _, _, rfl, ⟨C2'.gh, fun x o z w => by rw [M.set_ne (neOf w f_pi)]; exact C2'.old x o z w⟩, (M.set_ne nupi.symm).trans hu2, (M.set_ne nki.symm).trans b3, (M.set_ne nji.symm).trans b4, (M.set_ne nsi.symm).trans b5, (M.set_ne ngi.symm).trans b6, by rw [M.set_same, List.map_append]; rfl, (M.set_ne ai.symm).trans b8, (M.set_ne ri).trans b9, by rw [List.length_append]; show us.length + 1 ≤ _; omega, by rw [List.length_append]; show ss.length + 1 ≤ _; omega, ?_, fun x hx => hfs x (List.mem_of_mem_eraseIdx hx), Nat.le_trans (List.length_eraseIdx_le _ _) hfl⟩⟩
          intro x hx
          rcases List.mem_append.mp hx with hx | hx
          · exact hss x hx
          · rw [List.mem_singleton.mp hx]; exact ⟨hs, (hKe e (hfs e he)).1, ho'⟩
        · rintro r3 δ m' hr3 ⟨us, ss, fs, d3, d12, d13, d14, rfl, hC, h1, h3, h4, h5, h6, h7, h8, h9, hul, hgl', hss, hfs, hfl⟩
          dsimp only
          refine dVar_at rfl (tupL h5 (dVar_at rfl (tupL h8 (dVar_at rfl (tupL h6 (dVar_at rfl (tupL h7 ⟨slk (by simp), q ⟨kvs, js, ga, ss⟩ m' ⟨hst, hjs, hga, hss, ?_, ?_, ?_, ?_⟩ hC⟩)))))))
          · show kvs.length ≤ 12; omega
          · exact hjl
          · show ga.length ≤ 4; omega
          · show ss.length ≤ 10; omega


end
end PR

namespace PL
open PySem PySem.Spec PyProof.Rows L2 GA GxR DL
theorem outs4 {Rel : D → Option D → Prop} {a b c d : D} {ys : List D} (hn : ∀ x, ¬ Rel x none) (h : Outs Rel [a, b, c, d] ys) : ∃ a' b' c' d', ys = [a', b', c', d'] ∧ Rel a (some a') ∧ Rel b (some b') ∧ Rel c (some c') ∧ Rel d (some d') := by
  cases h with
  | skip h _ => exact (hn _ h).elim
  | keep h1 t =>
    cases t with
    | skip h _ => exact (hn _ h).elim
    | keep h2 t =>
      cases t with
      | skip h _ => exact (hn _ h).elim
      | keep h3 t =>
        cases t with
        | skip h _ => exact (hn _ h).elim
        | keep h4 t =>
          cases t
          exact ⟨_, _, _, _, rfl, h1, h2, h3, h4⟩
theorem subL {α : Type} {f : α → D} {l : List α} {ys : List D} (h : ∀ y ∈ ys, y ∈ l.map f) : ∃ l' : List α, ys = l'.map f ∧ ∀ a ∈ l', a ∈ l := listOf fun y hy => by
  obtain ⟨a, ha, e⟩ := List.mem_map.mp (h y hy)
  exact ⟨a, e.symm, ha⟩
def P0 : Pln := ⟨[], [], [], []⟩
theorem P0_ok : P0.Ok := ⟨(fun _ h => nomatch h), (fun _ h => nomatch h), (fun _ h => nomatch h), (fun _ h => nomatch h), Nat.zero_le _, Nat.zero_le _, Nat.zero_le _, Nat.zero_le _⟩
theorem P0_text : Txt.join "\n" P0.lines = "" := by decide +kernel
/-- the parts for which b holds -/
def Pln.part (p : Pln) (b0 b1 b2 b3 : Bool) : Pln := ⟨if b0 then p.st else [], if b1 then p.jo else [], if b2 then p.ga else [], if b3 then p.si else []⟩
theorem Pln.part_ok {p : Pln} (h : p.Ok) (b0 b1 b2 b3 : Bool) : (p.part b0 b1 b2 b3).Ok := by
  unfold Pln.part
  refine ⟨?_, ?_, ?_, ?_, ?_, ?_, ?_, ?_⟩
  · cases b0
    · intro s hs; cases hs
    · exact h.st
  · cases b1
    · intro s hs; cases hs
    · exact h.jo
  · cases b2
    · intro s hs; cases hs
    · exact h.ga
  · cases b3
    · intro s hs; cases hs
    · exact h.si
  · cases b0
    · exact Nat.zero_le _
    · exact h.n1
  · cases b1
    · exact Nat.zero_le _
    · exact h.n2
  · cases b2
    · exact Nat.zero_le _
    · exact h.n3
  · cases b3
    · exact Nat.zero_le _
    · exact h.n4
theorem Pln.part_d (p : Pln) (b0 b1 b2 b3 : Bool) : (p.part b0 b1 b2 b3).d = .tup [if b0 then .tup (p.st.map strD) else .tup [], if b1 then .tup (p.jo.map joD) else .tup [], if b2 then .tup (p.ga.map gaD) else .tup [], if b3 then .tup (p.si.map siD) else .tup []] := by
  cases b0 <;> cases b1 <;> cases b2 <;> cases b3 <;> rfl
theorem iEn_w {te : DTr} {δ : Sl} {m : M} {xs : List D} (h : ∀ R : DK, (R (.tup xs) m) → te δ m R) : WkS m (enumD 0 xs) (iEn te) δ := fun R hR => h _ ⟨xs, .inl rfl, hR _ m (Ext.refl m) fun _ _ => trivial⟩
def spLaw (K : PySem.W.Frag) (P1 P2 : Addr) : DSp := fun ds m Q => ∃ (aS : Addr) (ns : List Int), ds = [.ref aS] ∧ (∀ H, m.gh.inv H → SqL K H aS (ns.map V.int)) ∧ ns.length ≤ 63 ∧ Tab m P1 ∧ Tab m P2 ∧ ∀ m', Q (.bl true) m'
def spDeck (K : PySem.W.Frag) : DSp := fun ds m Q => ∃ (aS : Addr) (ns : List Int), ds = [.ref aS] ∧ (∀ H, m.gh.inv H → SqL K H aS (ns.map V.int)) ∧ ns.length ≤ 63 ∧ ∀ aD aC m', Ext m m' → m.mu aD = none → m.mu aC = none → aD ≠ aC → DeckAt m' aD aC → Q (.ref aD) m'
theorem dfn {P : Program} {w : World} {K : PySem.W.Frag} {mg : Str → Option Value} {base : Heap} {x : Str} {st : Stmt} {f : Addr} {fd : FuncData} {N ps : List Str} {k : Nat} {sp : DSp} (F : Fun K x x st f fd)
    (S : FnScope N ps (defScope st)) (hl : ∀ ds m Q, sp ds m Q → ds.length = ps.length)
    (hbody : ∀ (cdv : Value) (A : Around) (outer : List Env) (s : Shared) (H : Hp) (E : XK), Room k (A.deeper (envOfC x (defScope st) s.heap.objs.size f cdv)) →
      ∃ t, DSs (cxOf CX0 P w K mg base N x (defScope st) f cdv A outer s H E).nox (defBody st) t ∧ ∀ ds m Q, sp ds m Q → t { nx := fun _ m' => Q .non m', rt := Q } (startD N ds) m) : FnOk P w K mg base CX0 (k + 1) f fd ps (spUp K sp) :=
  F.ok S (fun vs H Q E ⟨ds, m, Q', r, rh, q, f⟩ => by rw [← r.length]; exact hl ds m Q' q) fun cdv A outer s H vs Q E hr hsp => by
    obtain ⟨ds, m, Q', r, rh, q, f⟩ := hsp
    obtain ⟨t, ht, h⟩ := hbody cdv A outer s H E hr
    exact ⟨_, ht, startD N ds, m, _, start_rel r, rh, h ds m Q' q, ⟨fun δ' m' q' σ' H' t' rs' rh' => f .non m' q' .non H' t' .non rh', f, fun _ _ z => z.elim, fun _ _ z => z.elim⟩⟩
end PL

namespace PR
open PySem PySem.Spec PyProof.Rows L2 GA GxR DL PL
def dd (x : Str) (st : Stmt) : He.DefD := ⟨(x, none), x, x, defArgs st, defBody st, defScope st, [], []⟩
def fn1 : List He.DefD := [dd "is_integer" s_is_integer, dd "is_tuple_of" s_is_tuple_of, dd "are_items" s_are_items, dd "is_name" s_is_name, dd "is_end_number" s_is_end_number, dd "is_end" s_is_end, dd "is_step" s_is_step, dd "is_stretch" s_is_stretch, dd "is_joint" s_is_joint, dd "is_gate" s_is_gate, dd "is_overlap" s_is_overlap, dd "is_signal" s_is_signal, dd "is_plan" s_is_plan, dd "end_text" s_end_text, dd "signal_text" s_signal_text, dd "plan_text" s_plan_text]
def fn2 : List He.DefD := [dd "_law_deck" s_law_deck, dd "_law_draw" s_law_draw, dd "_law_pick" s_law_pick, dd "_law_name" s_law_name, dd "_law_joints" s_law_joints, dd "_law_over" s_law_over, dd "_law_checked" s_law_checked, dd "_law_free" s_law_free, dd "_law_lines" s_law_lines, dd "_law_shuffled" s_law_shuffled, dd "_law_is_written" s_law_is_written, dd "law" (top 38)]
def fnL : List He.DefD := fn1 ++ fn2
def fa1 : List He.Fa := [.glo "is_integer", .glo "is_tuple_of", .glo "are_items", .glo "is_name", .glo "is_end_number", .glo "is_end", .glo "is_step", .glo "is_stretch", .glo "is_joint", .glo "is_gate", .glo "is_overlap", .glo "is_signal", .glo "is_plan", .glo "end_text", .glo "signal_text", .glo "plan_text", .glo "_law_deck", .glo "_law_draw", .glo "_law_pick", .glo "_law_name", .glo "_law_joints", .glo "_law_over", .glo "_law_checked", .glo "_law_free", .glo "_law_lines", .glo "_law_shuffled", .glo "_law_is_written", .glo "law"]
def fa2 : List He.Fa := [.glo "KINDS", .str "LETTERS" lettersS, .str "LETTERS_AND_DIGITS" lettersDS, .int "LONGEST_NAME" 8, .int "GREATEST_END" 3, .free "len", .free "isinstance", .free "all", .free "range", .free "str", .free "list", .free "tuple", .free "int", .free "bool", .free "max", .free "enumerate"]
def faL : List He.Fa := fa1 ++ fa2
def tfL : List He.Defn := [("is_name", none), ("are_items", none)]
def exL (K : PySem.W.Frag) : Bool := He.tupB K "KINDS" [.str "plain", .str "points", .str "crossing"]
abbrev R : PySem.W.OpenRow := PySem.W.OpenLaw.row PySem.Challenge.rw_clearline_k02_texts_of_plans
abbrev hkL : PySem.W.Hook := He.hookX 4 faL fnL [] tfL exL
def obL (s : PySem.W.SharedT) : He.AlX := He.obsX 4 faL fnL [] tfL exL (HandSHeadRun.getT s)
theorem obL_eq (s : PySem.W.SharedT) : obL s = hkL.obs s.abs := He.obsX_eq (HandSHeadRun.getT_eq s)
def loose1 : List Str := ["LineError", "BadPlan", "LETTERS", "LETTERS_AND_DIGITS", "LONGEST_NAME", "is_integer", "is_tuple_of", "are_items", "is_name", "KINDS", "GREATEST_END", "is_end_number", "is_end", "is_step", "is_stretch", "is_joint", "is_gate"]
def loose2 : List Str := ["is_overlap", "is_signal", "is_plan", "end_text", "signal_text", "plan_text", "_law_deck", "_law_draw", "_law_pick", "_law_name", "_law_joints", "_law_over", "_law_checked", "_law_free", "_law_lines", "_law_shuffled", "_law_is_written"]
def looseL : List Str := loose1 ++ loose2
theorem runL (w : World) : HandSHeadRun.RunEq R (PySem.W.view R.prog [38]) hkL obL 3000 looseL w := by
  intro os
  kernel_rfl
end PR

namespace PR
open PySem PySem.Spec PyProof.Rows L2 GA GxR DL PL
abbrev s_law : Stmt := top 38
theorem sc_law : FnScope ["script", "deck", "plan", "turn", "at", "mixed", "alone", "without", "part", "place"] ["script"] (defScope s_law) := ⟨rfl, rfl, rfl, by decide +kernel, rfl, by decide +kernel, by decide +kernel⟩
section
variable {P : Program} {w : World} {K : PySem.W.Frag} {mg : Str → Option Value} {base : Heap} {P1 P2 : Addr} (T : TxtL mg)
include T

theorem c_law {f : Addr} {fd : FuncData} (F : Fun K "law" "law" s_law f fd) (c_law_deck : DCal P w K mg base 1 "_law_deck" (spDeck K)) (c_plan_text : DCal P w K mg base 13 "plan_text" (spText (fun m => Tab m P1 ∧ Tab m P2))) (c_law_free : DCal P w K mg base 4 "_law_free" spFree) (c_law_checked : DCal P w K mg base 4 "_law_checked" spChecked)
    (c_law_is_written : DCal P w K mg base 14 "_law_is_written" (spWrit (fun m => Tab m P1 ∧ Tab m P2))) (c_law_shuffled : DCal P w K mg base 2 "_law_shuffled" spShuf) : FnOk P w K mg base CX0 15 f fd ["script"] (spUp K (spLaw K P1 P2)) := by
  refine dfn F sc_law (fun ds m Q h => ?_) (fun cdv A outer s H E hr => ⟨_, (dss_cons (ds_set (i := 1) sc_law.nd rfl (by first | exact Or.inl rfl | exact Or.inr rfl) (de_call c_law_deck hr (by decide) (by rfl) (da_cons (de_var 0) da_nil))) (dss_hide (dss_cons (ds_if (dt_cmp (dc_ne hr) (de_call c_plan_text hr (by decide) (by rfl) (da_cons (de_tup (da_cons (de_tup da_nil) (da_cons (de_tup da_nil) (da_cons (de_tup da_nil) (da_cons (de_tup da_nil) da_nil))))) da_nil)) de_str) (dss_one (ds_ret de_bl)) dss_nil)
      (dss_cons (ds_for PassesOwn.never rfl (dpi_tup (de_tup (da_cons (de_call c_law_free hr (by decide) (by rfl) (da_cons (de_var 1) da_nil)) (da_cons (de_call c_law_checked hr (by decide) (by rfl) (da_cons (de_var 1) (da_cons (de_lst da_nil) (da_cons de_int da_nil)))) (da_cons (de_call c_law_free hr (by decide) (by rfl) (da_cons (de_var 1) da_nil)) da_nil))))) (dg_name (i := 2) sc_law.nd rfl (by first | exact Or.inl rfl | exact Or.inr rfl)) (dss_cons (ds_if (dt_not (dt_val (de_call c_law_is_written hr (by decide) (by rfl) (da_cons (de_var 2) da_nil)))) (dss_one (ds_ret de_bl)) dss_nil)
      (dss_cons (ds_for PassesOwn.never rfl (dpi_range (by rfl) T.range de_int) (dg_name (i := 3) sc_law.nd rfl (by first | exact Or.inl rfl | exact Or.inr rfl)) (dss_cons (ds_set (i := 5) sc_law.nd rfl (by first | exact Or.inl rfl | exact Or.inr rfl) (de_bty call_tuple_of argl_tuple (by rfl) T.tuple (by decide +kernel) (da_cons (de_lc (own := [("part", 8)]) rfl sc_law.nd (dpi_tup (de_var 2)) (blkOk_by (N := ["script", "deck", "plan", "turn", "at", "mixed", "alone", "without", "part", "place"]) (sc := defScope s_law) (by decide +kernel)) (fun _ _ _ _ _ => (dg_name (i := 8) sc_law.nd rfl (by first | exact Or.inl rfl | exact Or.inr rfl))) (fun _ _ _ _ _ => dpts_nil) (fun _ _ _ _ _ => (de_call c_law_shuffled hr (by decide) (by rfl) (da_cons (de_var 1) (da_cons (de_var 8) da_nil))))) da_nil)))
      (dss_one (ds_if (dt_not (dt_val (de_call c_law_is_written hr (by decide) (by rfl) (da_cons (de_var 5) da_nil)))) (dss_one (ds_ret de_bl)) dss_nil))))
      (dss_one (ds_for PassesOwn.never rfl (dpi_range (by rfl) T.range de_int) (dg_name (i := 4) sc_law.nd rfl (by first | exact Or.inl rfl | exact Or.inr rfl)) (dss_cons (ds_set (i := 6) sc_law.nd rfl (by first | exact Or.inl rfl | exact Or.inr rfl) (de_bty call_tuple_of argl_tuple (by rfl) T.tuple (by decide +kernel) (da_cons (de_lc (own := [("place", 9), ("part", 8)]) rfl sc_law.nd (dpi_enum (by rfl) T.enumerate (de_var 2)) (blkOk_by (N := ["script", "deck", "plan", "turn", "at", "mixed", "alone", "without", "part", "place"]) (sc := defScope s_law) (by decide +kernel)) (fun _ _ _ _ _ => (dg_tup rfl (dgs_cons (pg_name (i := 9) sc_law.nd rfl (by first | exact Or.inl rfl | exact Or.inr rfl)) (dgs_cons (pg_name (i := 8) sc_law.nd rfl (by first | exact Or.inl rfl | exact Or.inr rfl)) dgs_nil)))) (fun _ _ _ _ _ => dpts_nil) (fun _ _ _ _ _ => (de_ifE (dt_cmp (dc_eq hr) (de_var 9) (de_var 4)) (de_var 8) (de_tup da_nil)))) da_nil)))
      (dss_cons (ds_set (i := 7) sc_law.nd rfl (by first | exact Or.inl rfl | exact Or.inr rfl) (de_bty call_tuple_of argl_tuple (by rfl) T.tuple (by decide +kernel) (da_cons (de_lc (own := [("place", 9), ("part", 8)]) rfl sc_law.nd (dpi_enum (by rfl) T.enumerate (de_var 2)) (blkOk_by (N := ["script", "deck", "plan", "turn", "at", "mixed", "alone", "without", "part", "place"]) (sc := defScope s_law) (by decide +kernel)) (fun _ _ _ _ _ => (dg_tup rfl (dgs_cons (pg_name (i := 9) sc_law.nd rfl (by first | exact Or.inl rfl | exact Or.inr rfl)) (dgs_cons (pg_name (i := 8) sc_law.nd rfl (by first | exact Or.inl rfl | exact Or.inr rfl)) dgs_nil)))) (fun _ _ _ _ _ => dpts_nil) (fun _ _ _ _ _ => (de_ifE (dt_cmp (dc_eq hr) (de_var 9) (de_var 4)) (de_tup da_nil) (de_var 8)))) da_nil)))
      (dss_one (ds_if (dt_w (dw_or (dt_not (dt_val (de_call c_law_is_written hr (by decide) (by rfl) (da_cons (de_var 6) da_nil)))) (dw_or1 (dt_not (dt_val (de_call c_law_is_written hr (by decide) (by rfl) (da_cons (de_var 7) da_nil))))))) (dss_one (ds_ret de_bl)) dss_nil)))))))))
      (dss_one (ds_ret de_bl)))))), fun ds m Q h => ?_⟩)
  · obtain ⟨aS, ns, rfl, _⟩ := h; rfl
  · obtain ⟨aS, ns, rfl, hS, hl, hT1, hT2, q⟩ := h
    dsimp only [dRet, dSeq, dNext, dIfS, dSet, dExpr, dAsg, dPar, dPar3, gD, dOp, dUn, dArgs, dCons, dNil, dC, dB, dNot, dCall, dMeth, dMeth0, dIf, dLst, dTup, dSl, dNoPart, dPart, dM1, dOr, dAnd, dDGet]
    refine dVar_at rfl ⟨aS, ns, rfl, hS, hl, fun aD aC m1 E1 f1 f2 _ hd => ⟨aD, aC, hd, fun o1 o2 ne => ?_⟩⟩
    have hD0 : Dk (PL.hide m1 aD aC) (.ref aD) := Dk.hide o1 o2 ne
    have hK0 : Tab (PL.hide m1 aD aC) P1 ∧ Tab (PL.hide m1 aD aC) P2 := ⟨Tab.hide (hT1.gh E1.gh) o1 o2, Tab.hide (hT2.gh E1.gh) o1 o2⟩
    generalize PL.hide m1 aD aC = m2 at hD0 hK0 ⊢
    have hD : ∀ m' : M, m'.gh = m2.gh → Dk m' (.ref aD) := fun m' e => hD0.ext e
    have hK : ∀ m' : M, m'.gh = m2.gh → Tab m' P1 ∧ Tab m' P2 := fun m' e => ⟨hK0.1.gh e, hK0.2.gh e⟩
    clear hD0 hK0
    dsimp only [dRet, dSeq, dNext, dIfS, dSet, dExpr, dAsg, dPar, dPar3, gD, dOp, dUn, dArgs, dCons, dNil, dC, dB, dNot, dCall, dMeth, dMeth0, dIf, dLst, dTup, dSl, dNoPart, dPart, dM1, dOr, dAnd, dDGet]
    refine ⟨slk (by simp), slk (by simp), slk (by simp), slk (by simp), slk (by simp), P0, rfl, P0_ok, hK _ rfl, fun m3 E3 => neT ⟨_, rfl, ifF (by simp [P0_text]) ?_⟩⟩
    dsimp only [dFor, iT, dTup, dCons, dNil, dCall, dLst, dC]
    refine dVar_at rfl ⟨_, rfl, hD _ E3.gh, fun p1 m4 hp1 E4 => dVar_at rfl ⟨slk (by simp), fun u hu => ⟨_, u, [], 12, rfl, hD _ (E4.gh.trans E3.gh), M.set_same, rfl, by decide, fun p2 m5 hp2 C5 => dVar_at rfl ⟨_, rfl, hD _ ?_, fun p3 m6 hp3 E6 => ?_⟩⟩⟩⟩
    · exact C5.gh.trans (E4.gh.trans E3.gh)
    have g6 : m6.gh = m2.gh := E6.gh.trans (C5.gh.trans (E4.gh.trans E3.gh))
    refine ⟨slk (by simp), [p1.d, p2.d, p3.d], .inl rfl, fun i δ m' => (∃ d2 d3 d4 d5 d6 d7 d8 d9 : Option D, δ = [some (.ref aS), some (.ref aD), d2, d3, d4, d5, d6, d7, d8, d9]) ∧ m'.gh = m2.gh, ⟨⟨_, _, _, _, _, _, _, _, rfl⟩, g6⟩, fun _ _ _ _ => trivial, ?_, ?_⟩
    · rintro i x δ m' hx ⟨⟨d2, d3, d4, d5, d6, d7, d8, d9, rfl⟩, hg⟩
      obtain ⟨p, rfl, hp⟩ : ∃ p : Pln, x = p.d ∧ p.Ok := by
        match i, hx with
        | 0, hx => cases hx; exact ⟨p1, rfl, hp1⟩
        | 1, hx => cases hx; exact ⟨p2, rfl, hp2⟩
        | 2, hx => cases hx; exact ⟨p3, rfl, hp3⟩
        | i + 3, hx => simp at hx
      dsimp only [dRet, dSeq, dNext, dIfS, dSet, dExpr, dAsg, dPar, dPar3, gD, dOp, dUn, dArgs, dCons, dNil, dC, dB, dNot, dCall, dMeth, dMeth0, dIf, dLst, dTup, dSl, dNoPart, dPart, dM1, dOr, dAnd, dDGet]
      refine dVar_at rfl ⟨p, rfl, hp, hK _ hg, fun m7 E7 => ⟨_, rfl, ifF rfl ?_⟩⟩
      have g7 : m7.gh = m2.gh := E7.gh.trans hg
      refine dFor_draw (n := 4) (by decide) (fun R hR => hR 3 (by decide) (by decide)) (fun i δ m' => (∃ d3 d4 d5 d6 d7 d8 d9 : Option D, δ = [some (.ref aS), some (.ref aD), some p.d, d3, d4, d5, d6, d7, d8, d9]) ∧ m'.gh = m2.gh) ⟨⟨_, _, _, _, _, _, _, rfl⟩, g7⟩ ?_ ?_
      · rintro i δ m' hi ⟨⟨d3, d4, d5, d6, d7, d8, d9, rfl⟩, hg⟩
        dsimp only [dRet, dSeq, dNext, dIfS, dSet, dExpr, dAsg, dPar, dPar3, gD, dOp, dUn, dArgs, dCons, dNil, dC, dB, dNot, dCall, dMeth, dMeth0, dIf, dLst, dTup, dSl, dNoPart, dPart, dM1, dOr, dAnd, dDGet]
        refine dLC_gen (I := fun _ => True) (xs := [.tup (p.st.map strD), .tup (p.jo.map joD), .tup (p.ga.map gaD), .tup (p.si.map siD)]) (Rel := fun x o => ∃ xs ys, x = D.tup xs ∧ o = some (D.tup ys) ∧ ∀ L : List D, xs = L → (∀ y ∈ ys, y ∈ L) ∧ ys.length = L.length) trivial (fun _ _ _ _ => trivial) (iT_w fun R hR => dVar_at rfl hR) (slk (by simp)) (fun x hx m' hE' _ Ry Rn hy hn => ?_) (fun pp m8 ys hpp hE8 _ hm8 ho => ?_)
        · obtain ⟨l, rfl, hl⟩ : ∃ l, x = D.tup l ∧ l.length ≤ 1000 := by
            have := hp.n1; have := hp.n2; have := hp.n3; have := hp.n4
            simp only [List.mem_cons, List.not_mem_nil, or_false] at hx
            rcases hx with rfl | rfl | rfl | rfl
            · exact ⟨_, rfl, by rw [List.length_map]; omega⟩
            · exact ⟨_, rfl, by rw [List.length_map]; omega⟩
            · exact ⟨_, rfl, by rw [List.length_map]; omega⟩
            · exact ⟨_, rfl, by rw [List.length_map]; omega⟩
          dsimp only [dRet, dSeq, dNext, dIfS, dSet, dExpr, dAsg, dPar, dPar3, gD, dOp, dUn, dArgs, dCons, dNil, dC, dB, dNot, dCall, dMeth, dMeth0, dIf, dLst, dTup, dSl, dNoPart, dPart, dM1, dOr, dAnd, dDGet]
          refine yesT ?_
          exact dVar_at rfl (dVar_at rfl ⟨_, l, rfl, hD _ (hE'.gh.trans hg), hl, fun ys m4 h1 h2 hE => hy _ _ ⟨l, ys, rfl, rfl, fun L e => by subst e; exact ⟨h1, h2⟩⟩ hE⟩)
        · obtain ⟨a', b', c', d', rfl, ⟨xa, ya, ea, ea', ha⟩, ⟨xb, yb, eb, eb', hb⟩, ⟨xc, yc, ec, ec', hc⟩, ⟨xd, yd, ed, ed', hd'⟩⟩ := outs4 (fun x h => by obtain ⟨_, _, _, e, _⟩ := h; cases e) ho
          cases ea; cases ea'; cases eb; cases eb'; cases ec; cases ec'; cases ed; cases ed'
          obtain ⟨sa, la⟩ := ha _ rfl
          obtain ⟨sb, lb⟩ := hb _ rfl
          obtain ⟨sc, lc⟩ := hc _ rfl
          obtain ⟨sd, ld⟩ := hd' _ rfl
          obtain ⟨ia, rfl, ma⟩ := subL sa
          obtain ⟨ib, rfl, mb⟩ := subL sb
          obtain ⟨ic, rfl, mc⟩ := subL sc
          obtain ⟨id', rfl, md⟩ := subL sd
          simp only [List.length_map] at la lb lc ld
          have g8 : m8.gh = m2.gh := hE8.gh.trans hg
          have hp' : (Pln.mk ia ib ic id').Ok := ⟨fun s h => hp.st s (ma s h), fun s h => hp.jo s (mb s h), fun s h => hp.ga s (mc s h), fun s h => hp.si s (md s h), by show ia.length ≤ 12; have := hp.n1; omega, by show ib.length ≤ 16; have := hp.n2; omega, by show ic.length ≤ 4; have := hp.n3; omega, by show id'.length ≤ 10; have := hp.n4; omega⟩
          exact tupL hm8 (dVar_at rfl ⟨Pln.mk ia ib ic id', rfl, hp', hK _ g8, fun m9 E9 => ⟨_, rfl, ifF rfl ⟨⟨_, _, _, _, _, _, _, rfl⟩, E9.gh.trans g8⟩⟩⟩)
      · rintro r δ m' hr ⟨⟨d3, d4, d5, d6, d7, d8, d9, rfl⟩, hg⟩
        dsimp only
        refine dFor_draw (n := 5) (by decide) (fun R hR => hR 4 (by decide) (by decide)) (fun i δ m' => (∃ d3 d4 d5 d6 d7 d8 d9 : Option D, δ = [some (.ref aS), some (.ref aD), some p.d, d3, d4, d5, d6, d7, d8, d9]) ∧ m'.gh = m2.gh) ⟨⟨_, _, _, _, _, _, _, rfl⟩, hg⟩ ?_ ?_
        · rintro i δ m' hi ⟨⟨d3, d4, d5, d6, d7, d8, d9, rfl⟩, hg⟩
          dsimp only [dRet, dSeq, dNext, dIfS, dSet, dExpr, dAsg, dPar, dPar3, gD, dOp, dUn, dArgs, dCons, dNil, dC, dB, dNot, dCall, dMeth, dMeth0, dIf, dLst, dTup, dSl, dNoPart, dPart, dM1, dOr, dAnd, dDGet]
          refine dLC_gen (I := fun _ => True) (xs := enumD 0 [.tup (p.st.map strD), .tup (p.jo.map joD), .tup (p.ga.map gaD), .tup (p.si.map siD)]) (Rel := fun x o => ∃ (j : Int) (a : D), x = D.tup [.int j, a] ∧ o = some (if decide (j = (i : Int)) = true then a else D.tup [])) trivial (fun _ _ _ _ => trivial) (iEn_w fun R hR => dVar_at rfl hR) (slk (by simp [enumD])) (fun x hx m' hE' _ Ry Rn hy hn => ?_) (fun pp m8 ys hpp hE8 _ hm8 ho => ?_)
          · obtain ⟨j, a, rfl⟩ : ∃ (j : Int) (a : D), x = D.tup [.int j, a] := by
              simp only [enumD, List.mem_cons, List.not_mem_nil, or_false] at hx
              rcases hx with rfl | rfl | rfl | rfl <;> exact ⟨_, _, rfl⟩
            dsimp only [dRet, dSeq, dNext, dIfS, dSet, dExpr, dAsg, dPar, dPar3, gD, dOp, dUn, dArgs, dCons, dNil, dC, dB, dNot, dCall, dMeth, dMeth0, dIf, dLst, dTup, dSl, dNoPart, dPart, dM1, dOr, dAnd, dDGet]
            refine ⟨[.int j, a], .inl rfl, rfl, yesT ?_⟩
            refine dVar_at rfl (dVar_at rfl (eqI ⟨_, rfl, iff_T (fun hc => dVar_at rfl (hy _ _ ⟨j, a, rfl, by rw [if_pos hc]⟩ (Ext.refl _))) fun hc => ⟨slk (by simp), hy _ _ ⟨j, a, rfl, by rw [if_neg (by rw [hc]; exact Bool.false_ne_true)]⟩ (Ext.refl _)⟩⟩))
          · obtain ⟨a', b', c', d', rfl, ⟨ja, xa, ea, ea'⟩, ⟨jb, xb, eb, eb'⟩, ⟨jc, xc, ec, ec'⟩, ⟨jd, xd, ed, ed'⟩⟩ := outs4 (fun x h => by obtain ⟨_, _, _, e⟩ := h; cases e) ho
            cases ea; cases ea'; cases eb; cases eb'; cases ec; cases ec'; cases ed; cases ed'
            have g8 : m8.gh = m2.gh := hE8.gh.trans hg
            have hpa := Pln.part_ok hp (decide (((0 : Nat) : Int) = (i : Int))) (decide (((0 + 1 : Nat) : Int) = (i : Int))) (decide (((0 + 1 + 1 : Nat) : Int) = (i : Int))) (decide (((0 + 1 + 1 + 1 : Nat) : Int) = (i : Int)))
            have epa := Pln.part_d p (decide (((0 : Nat) : Int) = (i : Int))) (decide (((0 + 1 : Nat) : Int) = (i : Int))) (decide (((0 + 1 + 1 : Nat) : Int) = (i : Int))) (decide (((0 + 1 + 1 + 1 : Nat) : Int) = (i : Int)))
            refine tupL hm8 ?_
            rw [← epa]
            generalize (decide (((0 : Nat) : Int) = (i : Int))) = b0 at hpa epa ⊢
            generalize (decide (((0 + 1 : Nat) : Int) = (i : Int))) = b1 at hpa epa ⊢
            generalize (decide (((0 + 1 + 1 : Nat) : Int) = (i : Int))) = b2 at hpa epa ⊢
            generalize (decide (((0 + 1 + 1 + 1 : Nat) : Int) = (i : Int))) = b3 at hpa epa ⊢
            clear epa
            have hpn := Pln.part_ok hp (!decide (((0 : Nat) : Int) = (i : Int))) (!decide (((0 + 1 : Nat) : Int) = (i : Int))) (!decide (((0 + 1 + 1 : Nat) : Int) = (i : Int))) (!decide (((0 + 1 + 1 + 1 : Nat) : Int) = (i : Int)))
            have epn := Pln.part_d p (!decide (((0 : Nat) : Int) = (i : Int))) (!decide (((0 + 1 : Nat) : Int) = (i : Int))) (!decide (((0 + 1 + 1 : Nat) : Int) = (i : Int))) (!decide (((0 + 1 + 1 + 1 : Nat) : Int) = (i : Int)))
            refine dLC_gen (I := fun _ => True) (xs := enumD 0 [.tup (p.st.map strD), .tup (p.jo.map joD), .tup (p.ga.map gaD), .tup (p.si.map siD)]) (Rel := fun x o => ∃ (j : Int) (a : D), x = D.tup [.int j, a] ∧ o = some (if (!decide (j = (i : Int))) = true then a else D.tup [])) trivial (fun _ _ _ _ => trivial) (iEn_w fun R hR => dVar_at rfl hR) (slk (by simp [enumD])) (fun x hx m' hE' _ Ry Rn hy hn => ?_) (fun pp2 m9 ys hpp2 hE9 _ hm9 ho2 => ?_)
            · obtain ⟨j, a, rfl⟩ : ∃ (j : Int) (a : D), x = D.tup [.int j, a] := by
                simp only [enumD, List.mem_cons, List.not_mem_nil, or_false] at hx
                rcases hx with rfl | rfl | rfl | rfl <;> exact ⟨_, _, rfl⟩
              dsimp only [dRet, dSeq, dNext, dIfS, dSet, dExpr, dAsg, dPar, dPar3, gD, dOp, dUn, dArgs, dCons, dNil, dC, dB, dNot, dCall, dMeth, dMeth0, dIf, dLst, dTup, dSl, dNoPart, dPart, dM1, dOr, dAnd, dDGet]
              refine ⟨[.int j, a], .inl rfl, rfl, yesT ?_⟩
              refine dVar_at rfl (dVar_at rfl (eqI ⟨_, rfl, iff_T (fun hc => ⟨slk (by simp), hy _ _ ⟨j, a, rfl, by rw [if_neg (by rw [hc]; exact Bool.false_ne_true)]⟩ (Ext.refl _)⟩) fun hc => dVar_at rfl (hy _ _ ⟨j, a, rfl, by rw [if_pos (by rw [hc]; rfl)]⟩ (Ext.refl _))⟩))
            · obtain ⟨a', b', c', d', rfl, ⟨ja, xa, ea, ea'⟩, ⟨jb, xb, eb, eb'⟩, ⟨jc, xc, ec, ec'⟩, ⟨jd, xd, ed, ed'⟩⟩ := outs4 (fun x h => by obtain ⟨_, _, _, e⟩ := h; cases e) ho2
              cases ea; cases ea'; cases eb; cases eb'; cases ec; cases ec'; cases ed; cases ed'
              have g9 : m9.gh = m2.gh := hE9.gh.trans g8
              refine tupL hm9 ?_
              rw [← epn]
              exact dVar_at rfl ⟨_, rfl, hpa, hK _ g9, fun m10 E10 => ⟨_, rfl, ifF rfl (dVar_at rfl ⟨_, rfl, hpn, hK _ (E10.gh.trans g9), fun m11 E11 => ⟨_, rfl, ifF rfl ⟨⟨_, _, _, _, _, _, _, rfl⟩, E11.gh.trans (E10.gh.trans g9)⟩⟩⟩)⟩⟩
        · rintro r δ m' hr ⟨⟨d3, d4, d5, d6, d7, d8, d9, rfl⟩, hg⟩
          exact ⟨⟨_, _, _, _, _, _, _, _, rfl⟩, hg⟩
    · rintro δ m' ⟨⟨d2, d3, d4, d5, d6, d7, d8, d9, rfl⟩, hg⟩
      exact q m'

end
end PR

namespace PR
open PySem PySem.Spec PyProof.Rows L2 GA GxR DL PL
theorem funC_of {K : PySem.W.Frag} {x : Str} {st : Stmt} {fd : FuncData} (F : L2.FunD K x x (defArgs st) (defBody st) (defScope st) [] [] (He.fAd K (x, none)) fd) : FunC K x st (He.fAd K (x, none)) fd (He.codeOf K (x, none)) := by
  obtain ⟨oc, od, dV, kV, doc, pm, an, cdv, ct, osl, e, l, c, hd, _⟩ := F.ex
  obtain ⟨c0, rfl⟩ := He.codeIn_ref c
  rcases hd with ⟨_, e2⟩ | ⟨e2, _⟩
  · subst e2
    have h : He.codeOf K (x, none) = c0 := He.codeOf_eq l (by rw [e])
    rw [h]
    exact ⟨⟨oc, od, kV, doc, pm, an, ct, osl, e, l, c⟩, F.kp⟩
  · exact absurd rfl e2
/-- what stands beside the store as the law begins -/
def lawGh (P1 P2 : Addr) (own3 : Addr → Prop) (S : Hp → Prop) (hs : ∀ H H', S H → (∀ a, own3 a → H' a = H a) → S H') (ht : ∀ H, S H → ∀ a, own3 a → H a ≠ none) : Gh where
  inv := fun H => TabG H P1 ∧ TabG H P2 ∧ S H
  own := fun a => a = P1 ∨ a = P2 ∨ own3 a
  stable := fun H H' ⟨⟨p1, e1, t1⟩, ⟨p2, e2, t2⟩, h3⟩ e => ⟨⟨p1, (e P1 (.inl rfl)).trans e1, t1⟩, ⟨p2, (e P2 (.inr (.inl rfl))).trans e2, t2⟩, hs H H' h3 fun a ha => e a (.inr (.inr ha))⟩
  there := fun H ⟨⟨p1, e1, t1⟩, ⟨p2, e2, t2⟩, h3⟩ a ha => by
    rcases ha with rfl | rfl | ha
    · rw [e1]; exact fun z => by cases z
    · rw [e2]; exact fun z => by cases z
    · exact ht H h3 a ha
theorem lawGh_tabs {P1 P2 : Addr} {own3 : Addr → Prop} {S : Hp → Prop} {hs : ∀ H H', S H → (∀ a, own3 a → H' a = H a) → S H'} {ht : ∀ H, S H → ∀ a, own3 a → H a ≠ none} (hn : ∀ H a, S H → own3 a → ∀ ps, H a ≠ some (.tbl ps)) :
    Tab ⟨fun _ => none, lawGh P1 P2 own3 S hs ht⟩ P1 ∧ Tab ⟨fun _ => none, lawGh P1 P2 own3 S hs ht⟩ P2 := by
  have tr : ∀ (P : Addr) (H H2 : Hp), TabG H P → Tabbed P H H2 → ∀ P', TabG H P' → TabG H2 P' := fun P H H2 _ t P' h => by
    by_cases z : P' = P
    · subst z; exact t.1
    · obtain ⟨ps, e, tt⟩ := h
      exact ⟨ps, (t.2 _ z).trans e, tt⟩
  refine ⟨⟨.inl rfl, fun H i => i.1, fun H H2 i t => ⟨tr P1 H H2 i.1 t P1 i.1, tr P1 H H2 i.1 t P2 i.2.1, hs H H2 i.2.2 fun a ha => t.2 a fun z => ?_⟩⟩, ⟨.inr (.inl rfl), fun H i => i.2.1, fun H H2 i t => ⟨tr P2 H H2 i.2.1 t P1 i.1, tr P2 H H2 i.2.1 t P2 i.2.1, hs H H2 i.2.2 fun a ha => t.2 a fun z => ?_⟩⟩⟩
  · subst z
    obtain ⟨ps, e, _⟩ := i.1
    exact hn H _ i.2.2 ha ps e
  · subst z
    obtain ⟨ps, e, _⟩ := i.2.1
    exact hn H _ i.2.2 ha ps e
def spL (K : PySem.W.Frag) (P1 P2 : Addr) : Sp := fun vs H Q _ => ∃ (aS : Addr) (ns : List Int), vs = [.ref aS] ∧ ns.length ≤ 63 ∧ SqL K H aS (ns.map V.int) ∧ H P1 = some (.tbl #[]) ∧ H P2 = some (.tbl #[]) ∧ ∀ H', Q (.bl true) H'
theorem law_up {K : PySem.W.Frag} {P1 P2 : Addr} {vs : List V} {H : Hp} {Q : VK} {E : XK} (h : spL K P1 P2 vs H Q E) : spUp K (spLaw K P1 P2) vs H Q E := by
  obtain ⟨aS, ns, rfl, hl, hS, h1, h2, q⟩ := h
  have t1 : TabG H P1 := ⟨#[], h1, trivial⟩
  have t2 : TabG H P2 := ⟨#[], h2, trivial⟩
  have fit : Fits K H (fun d _ => d = .bl true) Q := fun d m e v H' _ r _ => by subst e; cases r; exact q H'
  rcases hS with hR | hK
  · have key : ∀ (H : Hp) (a : Addr), Rd H aS (.lst (ns.map V.int)) → a = aS → ∀ ps, H a ≠ some (.tbl ps) := fun H a r e ps z => by
      subst e
      rcases r with r | ⟨o, r⟩ <;> (rw [r] at z; cases z)
    have hs : ∀ H H' : Hp, Rd H aS (.lst (ns.map V.int)) → (∀ a, a = aS → H' a = H a) → Rd H' aS (.lst (ns.map V.int)) := fun H H' r e => by
      rcases r with r | ⟨o, r⟩
      · exact .inl ((e aS rfl).trans r)
      · exact .inr ⟨o, (e aS rfl).trans r⟩
    have ht : ∀ H : Hp, Rd H aS (.lst (ns.map V.int)) → ∀ a, a = aS → H a ≠ none := fun H r a e z => by
      subst e
      rcases r with r | ⟨o, r⟩ <;> (rw [r] at z; cases z)
    have T := lawGh_tabs (P1 := P1) (P2 := P2) (own3 := fun a => a = aS) (S := fun H => Rd H aS (.lst (ns.map V.int))) (hs := hs) (ht := ht) key
    refine ⟨[.ref aS], ⟨fun _ => none, lawGh P1 P2 (fun a => a = aS) (fun H => Rd H aS (.lst (ns.map V.int))) hs ht⟩, fun d _ => d = .bl true, .cons (.ref aS) .nil, ⟨⟨t1, t2, hR⟩, fun _ _ => rfl, fun a o e => by cases e⟩, ⟨aS, ns, rfl, fun H i => .inl i.2.2, hl, T.1, T.2, fun _ => rfl⟩, fit⟩
  · have hs : ∀ H H' : Hp, True → (∀ a, False → H' a = H a) → True := fun _ _ _ _ => trivial
    have ht : ∀ H : Hp, True → ∀ a, False → H a ≠ none := fun _ _ _ z => z.elim
    have T := lawGh_tabs (P1 := P1) (P2 := P2) (own3 := fun _ => False) (S := fun _ => True) (hs := hs) (ht := ht) fun _ _ _ z => z.elim
    exact ⟨[.ref aS], ⟨fun _ => none, lawGh P1 P2 (fun _ => False) (fun _ => True) hs ht⟩, fun d _ => d = .bl true, .cons (.ref aS) .nil, ⟨⟨t1, t2, trivial⟩, fun _ _ => rfl, fun a o e => by cases e⟩, ⟨aS, ns, rfl, fun H i => .inr hK, hl, T.1, T.2, fun _ => rfl⟩, fit⟩
end PR

namespace PR
open PySem PySem.Spec PyProof.Rows L2 GA GxR DL PL
theorem factsL {l : PySem.W.OpenLaw} {w : World} {K : PySem.W.Frag} {h : Heap} {mg : Str → Option Value} {f : Addr} (X : K.In h) (G : h.Ns mainGlobals mg) (hfa : mg ("law" : Str) = some (.ref f)) (c : He.SaysX faL fnL [] tfL exL w h K) : LamX.LawAtS l w K CX0 15 63 "script" mg f h := by
  have D := c.t.d
  obtain ⟨fd_is_integer, E_is_integer⟩ := D.def_ 0 (d := dd "is_integer" s_is_integer) rfl
  have F_is_integer : Fun K "is_integer" "is_integer" s_is_integer (He.fAd K ("is_integer", none)) fd_is_integer := He5.fun_of E_is_integer
  have m_is_integer : mg "is_integer" = some (.ref (He.fAd K ("is_integer", none))) := He.glo_ok X G (D.fact 0 (f := .glo "is_integer") rfl)
  obtain ⟨fd_is_tuple_of, E_is_tuple_of⟩ := D.def_ 1 (d := dd "is_tuple_of" s_is_tuple_of) rfl
  have F_is_tuple_of : Fun K "is_tuple_of" "is_tuple_of" s_is_tuple_of (He.fAd K ("is_tuple_of", none)) fd_is_tuple_of := He5.fun_of E_is_tuple_of
  have m_is_tuple_of : mg "is_tuple_of" = some (.ref (He.fAd K ("is_tuple_of", none))) := He.glo_ok X G (D.fact 1 (f := .glo "is_tuple_of") rfl)
  obtain ⟨fd_are_items, E_are_items⟩ := D.def_ 2 (d := dd "are_items" s_are_items) rfl
  have F_are_items : FunC K "are_items" s_are_items (He.fAd K ("are_items", none)) fd_are_items (He.codeOf K ("are_items", none)) := funC_of E_are_items
  have m_are_items : mg "are_items" = some (.ref (He.fAd K ("are_items", none))) := He.glo_ok X G (D.fact 2 (f := .glo "are_items") rfl)
  obtain ⟨fd_is_name, E_is_name⟩ := D.def_ 3 (d := dd "is_name" s_is_name) rfl
  have F_is_name : FunC K "is_name" s_is_name (He.fAd K ("is_name", none)) fd_is_name (He.codeOf K ("is_name", none)) := funC_of E_is_name
  have m_is_name : mg "is_name" = some (.ref (He.fAd K ("is_name", none))) := He.glo_ok X G (D.fact 3 (f := .glo "is_name") rfl)
  obtain ⟨fd_is_end_number, E_is_end_number⟩ := D.def_ 4 (d := dd "is_end_number" s_is_end_number) rfl
  have F_is_end_number : Fun K "is_end_number" "is_end_number" s_is_end_number (He.fAd K ("is_end_number", none)) fd_is_end_number := He5.fun_of E_is_end_number
  have m_is_end_number : mg "is_end_number" = some (.ref (He.fAd K ("is_end_number", none))) := He.glo_ok X G (D.fact 4 (f := .glo "is_end_number") rfl)
  obtain ⟨fd_is_end, E_is_end⟩ := D.def_ 5 (d := dd "is_end" s_is_end) rfl
  have F_is_end : Fun K "is_end" "is_end" s_is_end (He.fAd K ("is_end", none)) fd_is_end := He5.fun_of E_is_end
  have m_is_end : mg "is_end" = some (.ref (He.fAd K ("is_end", none))) := He.glo_ok X G (D.fact 5 (f := .glo "is_end") rfl)
  obtain ⟨fd_is_step, E_is_step⟩ := D.def_ 6 (d := dd "is_step" s_is_step) rfl
  have F_is_step : Fun K "is_step" "is_step" s_is_step (He.fAd K ("is_step", none)) fd_is_step := He5.fun_of E_is_step
  have m_is_step : mg "is_step" = some (.ref (He.fAd K ("is_step", none))) := He.glo_ok X G (D.fact 6 (f := .glo "is_step") rfl)
  obtain ⟨fd_is_stretch, E_is_stretch⟩ := D.def_ 7 (d := dd "is_stretch" s_is_stretch) rfl
  have F_is_stretch : Fun K "is_stretch" "is_stretch" s_is_stretch (He.fAd K ("is_stretch", none)) fd_is_stretch := He5.fun_of E_is_stretch
  have m_is_stretch : mg "is_stretch" = some (.ref (He.fAd K ("is_stretch", none))) := He.glo_ok X G (D.fact 7 (f := .glo "is_stretch") rfl)
  obtain ⟨fd_is_joint, E_is_joint⟩ := D.def_ 8 (d := dd "is_joint" s_is_joint) rfl
  have F_is_joint : Fun K "is_joint" "is_joint" s_is_joint (He.fAd K ("is_joint", none)) fd_is_joint := He5.fun_of E_is_joint
  have m_is_joint : mg "is_joint" = some (.ref (He.fAd K ("is_joint", none))) := He.glo_ok X G (D.fact 8 (f := .glo "is_joint") rfl)
  obtain ⟨fd_is_gate, E_is_gate⟩ := D.def_ 9 (d := dd "is_gate" s_is_gate) rfl
  have F_is_gate : Fun K "is_gate" "is_gate" s_is_gate (He.fAd K ("is_gate", none)) fd_is_gate := He5.fun_of E_is_gate
  have m_is_gate : mg "is_gate" = some (.ref (He.fAd K ("is_gate", none))) := He.glo_ok X G (D.fact 9 (f := .glo "is_gate") rfl)
  obtain ⟨fd_is_overlap, E_is_overlap⟩ := D.def_ 10 (d := dd "is_overlap" s_is_overlap) rfl
  have F_is_overlap : Fun K "is_overlap" "is_overlap" s_is_overlap (He.fAd K ("is_overlap", none)) fd_is_overlap := He5.fun_of E_is_overlap
  have m_is_overlap : mg "is_overlap" = some (.ref (He.fAd K ("is_overlap", none))) := He.glo_ok X G (D.fact 10 (f := .glo "is_overlap") rfl)
  obtain ⟨fd_is_signal, E_is_signal⟩ := D.def_ 11 (d := dd "is_signal" s_is_signal) rfl
  have F_is_signal : Fun K "is_signal" "is_signal" s_is_signal (He.fAd K ("is_signal", none)) fd_is_signal := He5.fun_of E_is_signal
  have m_is_signal : mg "is_signal" = some (.ref (He.fAd K ("is_signal", none))) := He.glo_ok X G (D.fact 11 (f := .glo "is_signal") rfl)
  obtain ⟨fd_is_plan, E_is_plan⟩ := D.def_ 12 (d := dd "is_plan" s_is_plan) rfl
  have F_is_plan : Fun K "is_plan" "is_plan" s_is_plan (He.fAd K ("is_plan", none)) fd_is_plan := He5.fun_of E_is_plan
  have m_is_plan : mg "is_plan" = some (.ref (He.fAd K ("is_plan", none))) := He.glo_ok X G (D.fact 12 (f := .glo "is_plan") rfl)
  obtain ⟨fd_end_text, E_end_text⟩ := D.def_ 13 (d := dd "end_text" s_end_text) rfl
  have F_end_text : Fun K "end_text" "end_text" s_end_text (He.fAd K ("end_text", none)) fd_end_text := He5.fun_of E_end_text
  have m_end_text : mg "end_text" = some (.ref (He.fAd K ("end_text", none))) := He.glo_ok X G (D.fact 13 (f := .glo "end_text") rfl)
  obtain ⟨fd_signal_text, E_signal_text⟩ := D.def_ 14 (d := dd "signal_text" s_signal_text) rfl
  have F_signal_text : Fun K "signal_text" "signal_text" s_signal_text (He.fAd K ("signal_text", none)) fd_signal_text := He5.fun_of E_signal_text
  have m_signal_text : mg "signal_text" = some (.ref (He.fAd K ("signal_text", none))) := He.glo_ok X G (D.fact 14 (f := .glo "signal_text") rfl)
  obtain ⟨fd_plan_text, E_plan_text⟩ := D.def_ 15 (d := dd "plan_text" s_plan_text) rfl
  have F_plan_text : Fun K "plan_text" "plan_text" s_plan_text (He.fAd K ("plan_text", none)) fd_plan_text := He5.fun_of E_plan_text
  have m_plan_text : mg "plan_text" = some (.ref (He.fAd K ("plan_text", none))) := He.glo_ok X G (D.fact 15 (f := .glo "plan_text") rfl)
  obtain ⟨fd_law_deck, E_law_deck⟩ := D.def_ 16 (d := dd "_law_deck" s_law_deck) rfl
  have F_law_deck : Fun K "_law_deck" "_law_deck" s_law_deck (He.fAd K ("_law_deck", none)) fd_law_deck := He5.fun_of E_law_deck
  have m_law_deck : mg "_law_deck" = some (.ref (He.fAd K ("_law_deck", none))) := He.glo_ok X G (D.fact 16 (f := .glo "_law_deck") rfl)
  obtain ⟨fd_law_draw, E_law_draw⟩ := D.def_ 17 (d := dd "_law_draw" s_law_draw) rfl
  have F_law_draw : Fun K "_law_draw" "_law_draw" s_law_draw (He.fAd K ("_law_draw", none)) fd_law_draw := He5.fun_of E_law_draw
  have m_law_draw : mg "_law_draw" = some (.ref (He.fAd K ("_law_draw", none))) := He.glo_ok X G (D.fact 17 (f := .glo "_law_draw") rfl)
  obtain ⟨fd_law_pick, E_law_pick⟩ := D.def_ 18 (d := dd "_law_pick" s_law_pick) rfl
  have F_law_pick : Fun K "_law_pick" "_law_pick" s_law_pick (He.fAd K ("_law_pick", none)) fd_law_pick := He5.fun_of E_law_pick
  have m_law_pick : mg "_law_pick" = some (.ref (He.fAd K ("_law_pick", none))) := He.glo_ok X G (D.fact 18 (f := .glo "_law_pick") rfl)
  obtain ⟨fd_law_name, E_law_name⟩ := D.def_ 19 (d := dd "_law_name" s_law_name) rfl
  have F_law_name : Fun K "_law_name" "_law_name" s_law_name (He.fAd K ("_law_name", none)) fd_law_name := He5.fun_of E_law_name
  have m_law_name : mg "_law_name" = some (.ref (He.fAd K ("_law_name", none))) := He.glo_ok X G (D.fact 19 (f := .glo "_law_name") rfl)
  obtain ⟨fd_law_joints, E_law_joints⟩ := D.def_ 20 (d := dd "_law_joints" s_law_joints) rfl
  have F_law_joints : Fun K "_law_joints" "_law_joints" s_law_joints (He.fAd K ("_law_joints", none)) fd_law_joints := He5.fun_of E_law_joints
  have m_law_joints : mg "_law_joints" = some (.ref (He.fAd K ("_law_joints", none))) := He.glo_ok X G (D.fact 20 (f := .glo "_law_joints") rfl)
  obtain ⟨fd_law_over, E_law_over⟩ := D.def_ 21 (d := dd "_law_over" s_law_over) rfl
  have F_law_over : Fun K "_law_over" "_law_over" s_law_over (He.fAd K ("_law_over", none)) fd_law_over := He5.fun_of E_law_over
  have m_law_over : mg "_law_over" = some (.ref (He.fAd K ("_law_over", none))) := He.glo_ok X G (D.fact 21 (f := .glo "_law_over") rfl)
  obtain ⟨fd_law_checked, E_law_checked⟩ := D.def_ 22 (d := dd "_law_checked" s_law_checked) rfl
  have F_law_checked : Fun K "_law_checked" "_law_checked" s_law_checked (He.fAd K ("_law_checked", none)) fd_law_checked := He5.fun_of E_law_checked
  have m_law_checked : mg "_law_checked" = some (.ref (He.fAd K ("_law_checked", none))) := He.glo_ok X G (D.fact 22 (f := .glo "_law_checked") rfl)
  obtain ⟨fd_law_free, E_law_free⟩ := D.def_ 23 (d := dd "_law_free" s_law_free) rfl
  have F_law_free : Fun K "_law_free" "_law_free" s_law_free (He.fAd K ("_law_free", none)) fd_law_free := He5.fun_of E_law_free
  have m_law_free : mg "_law_free" = some (.ref (He.fAd K ("_law_free", none))) := He.glo_ok X G (D.fact 23 (f := .glo "_law_free") rfl)
  obtain ⟨fd_law_lines, E_law_lines⟩ := D.def_ 24 (d := dd "_law_lines" s_law_lines) rfl
  have F_law_lines : Fun K "_law_lines" "_law_lines" s_law_lines (He.fAd K ("_law_lines", none)) fd_law_lines := He5.fun_of E_law_lines
  have m_law_lines : mg "_law_lines" = some (.ref (He.fAd K ("_law_lines", none))) := He.glo_ok X G (D.fact 24 (f := .glo "_law_lines") rfl)
  obtain ⟨fd_law_shuffled, E_law_shuffled⟩ := D.def_ 25 (d := dd "_law_shuffled" s_law_shuffled) rfl
  have F_law_shuffled : Fun K "_law_shuffled" "_law_shuffled" s_law_shuffled (He.fAd K ("_law_shuffled", none)) fd_law_shuffled := He5.fun_of E_law_shuffled
  have m_law_shuffled : mg "_law_shuffled" = some (.ref (He.fAd K ("_law_shuffled", none))) := He.glo_ok X G (D.fact 25 (f := .glo "_law_shuffled") rfl)
  obtain ⟨fd_law_is_written, E_law_is_written⟩ := D.def_ 26 (d := dd "_law_is_written" s_law_is_written) rfl
  have F_law_is_written : Fun K "_law_is_written" "_law_is_written" s_law_is_written (He.fAd K ("_law_is_written", none)) fd_law_is_written := He5.fun_of E_law_is_written
  have m_law_is_written : mg "_law_is_written" = some (.ref (He.fAd K ("_law_is_written", none))) := He.glo_ok X G (D.fact 26 (f := .glo "_law_is_written") rfl)
  obtain ⟨fd_law, E_law⟩ := D.def_ 27 (d := dd "law" s_law) rfl
  have F_law : Fun K "law" "law" s_law (He.fAd K ("law", none)) fd_law := He5.fun_of E_law
  have m_law : mg "law" = some (.ref (He.fAd K ("law", none))) := He.glo_ok X G (D.fact 27 (f := .glo "law") rfl)
  have m_KINDS : mg "KINDS" = some (.ref (He.ga K "KINDS")) := He.glo_ok X G (D.fact 28 (f := .glo "KINDS") rfl)
  obtain ⟨tl, m_LETTERS⟩ := He.str_ok X G (D.fact 29 (f := .str "LETTERS" lettersS) rfl)
  obtain ⟨td, m_LD⟩ := He.str_ok X G (D.fact 30 (f := .str "LETTERS_AND_DIGITS" lettersDS) rfl)
  obtain ⟨t8, m_LONGEST⟩ := He.int_ok X G (D.fact 31 (f := .int "LONGEST_NAME" 8) rfl)
  obtain ⟨t3, m_GREATEST⟩ := He.int_ok X G (D.fact 32 (f := .int "GREATEST_END" 3) rfl)
  have z_len : mg "len" = none := He.free_ok X G (D.fact 33 (f := .free "len") rfl)
  have z_isinstance : mg "isinstance" = none := He.free_ok X G (D.fact 34 (f := .free "isinstance") rfl)
  have z_all : mg "all" = none := He.free_ok X G (D.fact 35 (f := .free "all") rfl)
  have z_range : mg "range" = none := He.free_ok X G (D.fact 36 (f := .free "range") rfl)
  have z_str : mg "str" = none := He.free_ok X G (D.fact 37 (f := .free "str") rfl)
  have z_list : mg "list" = none := He.free_ok X G (D.fact 38 (f := .free "list") rfl)
  have z_tuple : mg "tuple" = none := He.free_ok X G (D.fact 39 (f := .free "tuple") rfl)
  have z_int : mg "int" = none := He.free_ok X G (D.fact 40 (f := .free "int") rfl)
  have z_bool : mg "bool" = none := He.free_ok X G (D.fact 41 (f := .free "bool") rfl)
  have z_max : mg "max" = none := He.free_ok X G (D.fact 42 (f := .free "max") rfl)
  have z_enumerate : mg "enumerate" = none := He.free_ok X G (D.fact 43 (f := .free "enumerate") rfl)
  have T : Txt K mg tl td t8 t3 (He.ga K "KINDS") := ⟨z_len, z_isinstance, z_all, z_range, z_str, z_list, z_tuple, z_int, z_bool, m_LETTERS, m_LD, m_LONGEST, m_GREATEST, m_KINDS, fun H => .ktup (He.tupB_ok c.more H) (.cons (.str _) (.cons (.str _) (.cons (.str _) .nil)))⟩
  have T' : TxtL mg := ⟨z_len, z_isinstance, z_range, z_str, z_list, z_tuple, z_int, z_max, z_enumerate⟩
  have e := hfa.symm.trans m_law
  cases e
  have hb := FunD.bindsA (ps := ["script"]) E_law fun _ _ _ _ _ _ us hl => match us, hl with | [_], _ => rfl
  refine ⟨fd_law, [He.cT K ("is_name", none), He.cT K ("are_items", none)], spL K (He.cT K ("is_name", none)).2 (He.cT K ("are_items", none)).2, ?_, ?_, ?_, fun s v => hb s [v] rfl, ?_, ?_⟩
  · intro p hp
    simp only [List.mem_cons, List.not_mem_nil, or_false] at hp
    rcases hp with rfl | rfl
    · exact c.empty _ (.head _)
    · exact c.empty _ (.tail _ (.head _))
  · intro p hp
    simp only [List.mem_cons, List.not_mem_nil, or_false] at hp
    rcases hp with rfl | rfl
    · exact c.out _ (.head _)
    · exact c.out _ (.tail _ (.head _))
  · intro p hp
    simp only [List.mem_cons, List.not_mem_nil, or_false] at hp
    rcases hp with rfl | rfl
    · exact PySem.W.codeHd_of_K X (c.hd _ (.head _))
    · exact PySem.W.codeHd_of_K X (c.hd _ (.tail _ (.head _)))
  · intro H a ns hl _ hT hS
    exact ⟨a, ns, rfl, hl, hS, hT _ (.head _), hT _ (.tail _ (.head _)), fun _ => rfl⟩
  · intro base _ _ TB
    have TB1 : GxR.TabB base mg (He.codeOf K ("is_name", none)) (He.cT K ("is_name", none)).2 := let z := TB _ (.head _); ⟨z.code, z.bm, z.gP⟩
    have TB2 : GxR.TabB base mg (He.codeOf K ("are_items", none)) (He.cT K ("are_items", none)).2 := let z := TB _ (.tail _ (.head _)); ⟨z.code, z.bm, z.gP⟩
    have Ok1 : ∀ m : M, (Tab m (He.cT K ("is_name", none)).2 ∧ Tab m (He.cT K ("are_items", none)).2) → Tab m (He.cT K ("is_name", none)).2 := fun m z => z.1
    have Ok2 : ∀ m : M, (Tab m (He.cT K ("is_name", none)).2 ∧ Tab m (He.cT K ("are_items", none)).2) → Tab m (He.cT K ("are_items", none)).2 := fun m z => z.2
    have hOk : ∀ a b : M, (Tab a (He.cT K ("is_name", none)).2 ∧ Tab a (He.cT K ("are_items", none)).2) → b.gh = a.gh → (Tab b (He.cT K ("is_name", none)).2 ∧ Tab b (He.cT K ("are_items", none)).2) := fun a b z e => ⟨z.1.gh e, z.2.gh e⟩
    have c1 := c_is_integer (P := l.prog) (w := w) (base := base) T (fun m => Tab m (He.cT K ("is_name", none)).2 ∧ Tab m (He.cT K ("are_items", none)).2) F_is_integer m_is_integer
    have c2 := c_is_tuple_of (P := l.prog) (w := w) (base := base) T F_is_tuple_of m_is_tuple_of
    have c3 := c_is_name (P := l.prog) (w := w) (base := base) T (fun m => Tab m (He.cT K ("is_name", none)).2 ∧ Tab m (He.cT K ("are_items", none)).2) F_is_name m_is_name TB1 Ok1
    have c4 := c_is_end_number T _ F_is_end_number m_is_end_number c1
    have c5 := c_is_end T _ F_is_end m_is_end c2 c3 c4
    have c6 := c_is_step T _ F_is_step m_is_step c2 c5 c4
    have c7 := c_is_stretch T _ F_is_stretch m_is_stretch c2 c3
    have c8 := c_is_joint T _ F_is_joint m_is_joint c2 c5
    have c9 := c_is_gate T _ F_is_gate m_is_gate c2 c3 c5
    have i6 := c_are_items T _ F_are_items m_are_items (c6.at m_is_step) TB2 Ok2
    have c10 := c_is_overlap T _ F_is_overlap m_is_overlap m_is_step i6
    have c11 := c_is_signal T _ F_is_signal m_is_signal c2 c9 c10
    have i7 := c_are_items T _ F_are_items m_are_items (c7.at m_is_stretch) TB2 Ok2
    have i8 := c_are_items T _ F_are_items m_are_items (c8.at m_is_joint) TB2 Ok2
    have i9 := c_are_items T _ F_are_items m_are_items (c9.at m_is_gate) TB2 Ok2
    have i11 := c_are_items T _ F_are_items m_are_items (c11.at m_is_signal) TB2 Ok2
    have c12 := c_is_plan T _ F_is_plan m_is_plan c2 m_is_stretch i7 m_is_joint i8 m_is_gate i9 m_is_signal i11
    have c13 := c_end_text (P := l.prog) (w := w) (base := base) T F_end_text m_end_text
    have c14 := c_signal_text T F_signal_text m_signal_text c13
    have c15 := c_plan_text T _ F_plan_text m_plan_text c13 c12 c14
    have d1 := c_law_deck (P := l.prog) (w := w) (base := base) T' F_law_deck m_law_deck
    have d2 := PL.DCal.draw (c_law_draw (P := l.prog) (w := w) (base := base) T' F_law_draw m_law_draw)
    have d3 := c_law_pick T' F_law_pick m_law_pick d2
    have d4 := c_law_name T' F_law_name m_law_name d2 d3
    have d5 := c_law_joints T' F_law_joints m_law_joints d2 d3
    have d6 := c_law_over T' F_law_over m_law_over d2
    have d7 := c_law_checked T' F_law_checked m_law_checked d2 d3 d4 d6 d5
    have d8 := c_law_free T' F_law_free m_law_free d2 d3 d4
    have d9 := c_law_lines (P := l.prog) (w := w) (base := base) T' F_law_lines m_law_lines
    have d10 := c_law_shuffled T' F_law_shuffled m_law_shuffled d2
    have d11 := c_law_is_written T' _ hOk F_law_is_written m_law_is_written d9 c15.1 c15.2
    exact (c_law T' F_law d1 c15.1 d8 d7 d11 d10).imp fun vs H Q E z => law_up z
end PR

open PySem PySem.W PySem.Calls PyProof.Rows
set_option maxRecDepth 100000 in
set_option maxHeartbeats 0 in
theorem PySem.Challenge.cw_clearline_k02_texts_of_plans_holds : PySem.Challenge.rw_clearline_k02_texts_of_plans.Holds := by
  w_on; o_law
  refine HandSHeadRun.head_any (r := OpenLaw.row PySem.Challenge.rw_clearline_k02_texts_of_plans) (q := view (OpenLaw.row PySem.Challenge.rw_clearline_k02_texts_of_plans).prog [38]) (H := PR.hkL) (ob := PR.obL) (M := 3000) (loose := PR.looseL) (d := HandSHeadRun.topDef (OpenLaw.row PySem.Challenge.rw_clearline_k02_texts_of_plans).prog 38) (kwd := []) PR.obL_eq
    (by kernel_rfl) (fun s => by kernel_rfl) PR.runL (by kernel_rfl) (by kernel_rfl) (by kernel_rfl) (by rfl) (by first | assumption | decide +kernel) (by decide +kernel) ⟨rfl, rfl, rfl, rfl, rfl, by decide +kernel⟩ ?hw ?hc
  case hw => w_witness2
  case hc =>
    refine LamX.walk_ofTsE (l := PySem.Challenge.rw_clearline_k02_texts_of_plans) (n := 63) (k := 15) (x := "script") (CX := fun _ => L2.CX0) rfl (by decide) (by kernel_rfl) ⟨rfl, by decide, by decide⟩ ?F (fun _ _ _ _ _ z => z)
    intro w mg fa h Y G hmg0
    obtain ⟨K, KX, c⟩ := Y
    have hmg : mg ("law" : PySem.Str) = some (.ref fa) := by
      have e : (HandSHeadRun.topDef (OpenLaw.row PySem.Challenge.rw_clearline_k02_texts_of_plans).prog 38).name = ("law" : PySem.Str) := by kernel_rfl
      rw [← e]
      exact hmg0
    exact ⟨K, KX, PR.factsL KX G hmg c⟩
