import PyProof.Rows.All
import Wide.All
import OpenK.AllK
import Wide.FinOn
import HandS.ForMost
import HandS.GenList
import HandS.AnyAll
import HandS.FStr
import HandS.Replace
import HandS.SortKw
import KE.KSortTupG
import KE.KSortKeySt
import KE.KDictZip
import PyProof.ListNew
import PyProof.ListRange
import HandS.HeadWalk
import HandS.HeadHook4
import HandS.Defaults
import PySem.Challenge.RW_sortpost_k01_sort
import HandS.More
import HandS.Star
import HandS.CallRecv
import HandS.IsInst
import HandS.ReplaceList
import HandS.Conv
import PyProof.StrOps2
import HandS.Deep
import HandS.Head0
import HandS.Head1
import HandS.Head2
import HandS.HeadEnd
import HandS.EndTab
import KE.KNestM
section
set_option Elab.async false
set_option linter.all false
set_option maxRecDepth 100000
set_option maxHeartbeats 4000000
/-! all, any of a generator expression over anything that is walked, its element any expression (calls of defs, too). -/
namespace GxA
open PySem PySem.Spec PyProof.Rows L2 GenW GxR

theorem over_loopC {A : Around} {elt : Expr} {gs : List Comprehension} {sc : Scope} {ps : Pos} {it acc : Value} {env : Env} : A.over (.compLoop (.GeneratorExp elt gs sc ps) 0 it acc env) [] = A.deeper env := by
  first
    | rfl
    | (obtain ⟨hd, d, fr, gs, u⟩ := A; simp [Around.over, Around.deeper, marksOver, frameCount, unitsOf, envsOf, guardsOf, pushEnvs, pushGuards, Code.envs, Code.env?, Code.isFrame, Code.guards, Code.isGuard, Code.weight, Code.frames, Code.isCreation, Code.isCaller, Code.cUnits])
theorem over_startC {A : Around} {elt : Expr} {gs : List Comprehension} {sc : Scope} {ps : Pos} {it acc : Value} {env : Env} : A.over (.compStart (.GeneratorExp elt gs sc ps) 0 it acc env) [] = A.deeper env := by
  first
    | rfl
    | (obtain ⟨hd, d, fr, gs, u⟩ := A; simp [Around.over, Around.deeper, marksOver, frameCount, unitsOf, envsOf, guardsOf, pushEnvs, pushGuards, Code.envs, Code.env?, Code.isFrame, Code.guards, Code.isGuard, Code.weight, Code.frames, Code.isCreation, Code.isCaller, Code.cUnits])

/-- the context of a generator expression's frame -/
abbrev gblk (X : Cx) (s : Shared) (H : Hp) (cenv : Env) (fp : List Addr) : Cx :=
  { X with A := X.A.in1.in1.deeper cenv, s_0 := s, H_0 := H, env := cenv, outer := X.stack, stack := cenv :: X.stack, ex := fp, fn := fun _ => false, calm := true, pn := [], xe := fun _ _ => False }
abbrev gEnv (X : Cx) (scope : Scope) (cl : List (Str × Addr)) (C : Addr) (code : Value) : Env := genEnv scope cl C code builtinsNs X.env

section
variable {X : Cx} {pins : List (Addr × Obj)} {σ : L2.St} {H : Hp} {s : Shared}
theorem inv_gens {g' : Array GenState} {t' : Nat} (I : Inv X pins σ H s) (hb : AllBare g') : Inv X pins σ H { s with gens := g', toks := t' } :=
  ⟨I.ok, I.os, hb, I.base, I.loc, I.cell, I.free, I.freeC, I.pin, I.hok, I.len⟩

theorem gstart {scope : Scope} {own : List (Str × Nat)} {fp : List Addr} {code : Value} {h' : Heap} {g' : Array GenState} {tk : Nat} {m : Str → Option Value} (I : Inv X pins σ H s) (hh : X.A.handled = none) (ok : BlkOk X.N X.env.scope scope own)
    (nc : ∀ y ∈ scope.names, y.2 ≠ .cell) (hN : X.N.Nodup) (hfp : ∀ b ∈ fp, FpOk X pins H b ∧ b < s.heap.objs.size) (kp : ∀ b o, s.heap.get? b = some o → h'.get? b = some o) (hns : h'.Ns s.heap.objs.size m) (hg : AllBare g') :
    Inv (gblk X s H (gEnv X scope (cloFrom X.env.cells scope.names []) s.heap.objs.size code) fp) [] (wipe σ (own.map (·.2))) H { s with heap := h', gens := g', toks := tk } := by
  have hfree : ∀ y ∈ scope.names, y.2 = .free → ∃ c, X.env.cells.lookup y.1 = some c := fun y hy e => by
    rcases ok.free y hy e with k | k
    · exact I.ok.has _ (.inl k)
    · exact I.ok.has _ (.inr k)
  generalize hcenv : gEnv X scope (cloFrom X.env.cells scope.names []) s.heap.objs.size code = cenv
  have hL : cenv.locals = s.heap.objs.size := by rw [← hcenv]; rfl
  have hcl : cenv.cells = cloFrom X.env.cells scope.names [] := by rw [← hcenv]; rfl
  have hsc : cenv.scope = scope := by rw [← hcenv]; rfl
  have cm : ∀ {y c}, (y, c) ∈ cloFrom X.env.cells scope.names [] → X.env.cells.lookup y = some c ∧ c < s.heap.objs.size := fun {y c} hm => by
    rcases cloFrom_mem hm with hm | ⟨h1, rfl⟩
    · cases hm
    · obtain ⟨c, hc⟩ := hfree _ h1 rfl
      rw [hc]
      obtain ⟨w, z⟩ := I.cell _ _ hc
      exact ⟨rfl, z.lt⟩
  have mem : ∀ {y c}, cenv.cells.lookup y = some c → X.env.cells.lookup y = some c ∧ c < s.heap.objs.size := fun {y c} e => by
    rw [hcl] at e
    exact cm (PySem.mem_of_lookup e)
  have look : ∀ {y}, scope.names.lookup y = some .free → ∃ c, cenv.cells.lookup y = some c ∧ X.env.cells.lookup y = some c := fun {y} hl => by
    have hy : (y, NameKind.free) ∈ scope.names := PySem.mem_of_lookup hl
    obtain ⟨c', e'⟩ := mem_lookup (cloFrom_has (cells := X.env.cells) (acc := []) hy)
    rw [← hcl] at e'
    exact ⟨c', e', (mem e').1⟩
  have okB : (gblk X s H cenv fp).Ok := by
    refine ⟨I.ok.mod, by show cenv.scope.kind = _; rw [hsc]; exact ok.kind, by show cenv.globals = _; rw [← hcenv]; exact I.ok.glob, by show cenv.builtins = _; rw [← hcenv]; rfl, by show s.heap.objs.size ≤ cenv.locals; rw [hL]; exact Nat.le_refl _,
      fun y z c e1 e2 => I.ok.inj y z c (mem e1).1 (mem e2).1, fun y hy => ?_, fun y c z => ?_, fun _ => hh, Around.frames_deeper (A := X.A.in1.in1) I.ok.frames, .inr ⟨rfl, by show cenv.frame = some cenv.locals; rw [← hcenv]; rfl⟩, fun b hb => ⟨?_, fun y c e z => ?_⟩, I.bs, Nat.le_trans I.ok.bsz I.sz, fun b o e hb => ?_, fun b hb z => ?_, I.stack, I.stkFree⟩
    · show ∃ c, cenv.cells.lookup y = some c
      rcases hy with hy | hy
      · have hy : cenv.scope.names.lookup y = some .cell := hy
        rw [hsc] at hy
        exact absurd rfl (nc _ (PySem.mem_of_lookup hy))
      · have hy : cenv.scope.names.lookup y = some .free := hy
        rw [hsc] at hy
        obtain ⟨c, h1, _⟩ := look hy
        exact ⟨c, h1⟩
    · exact absurd (show false = true from z) (by decide)
    · show b ≠ cenv.locals
      rw [hL]; exact Nat.ne_of_lt (hfp b hb).2
    · exact (hfp b hb).1.2.2.2.2.1 y c (mem e).1 z
    · rcases (hfp b hb).1.2.2.2.1 with z | z
      · exact I.ok.noex b o e z
      · exact absurd (Nat.lt_of_lt_of_le (Heap.lt_size e) (Nat.le_trans I.ok.bsz z)) (Nat.lt_irrefl _)
    · rcases List.mem_cons.mp (I.stkSub b z) with z | z
      · exact (hfp b hb).1.2.1 z
      · exact (hfp b hb).1.2.2.1 z
  refine ⟨okB, rfl, hg, Un.kept kp, ⟨m, ?_, fun i y av e1 e2 e3 => ?_⟩, fun y c e => ?_, ?_, fun y c e => ?_, fun p hp => ?_, I.hok.kept kp, by rw [wipe_length]; exact I.len⟩
  · show Heap.Ns _ cenv.locals _
    rw [hL]
    exact hns
  · obtain ⟨e2, hne⟩ := wipe_some e2
    have e3 : Vis cenv.scope y := e3
    rw [hsc] at e3
    have no : ∀ k, scope.names.lookup y = some k → ¬ (k = .local ∨ k = .cell) := fun k e hh => by
      rcases ok.own _ (PySem.mem_of_lookup e) hh with e' | e'
      · obtain ⟨p, hp, hpy⟩ := List.mem_map.mp e'
        have e3 := ok.ix p hp
        have : p.1 = y := hpy
        rw [this] at e3
        exact hne (List.mem_map.mpr ⟨p, hp, nodup_ix hN e3 e1⟩)
      · exact e' (List.mem_of_getElem? e1)
    have e4 : scope.names.lookup y = some .free := by
      rcases e3 with e3 | e3 | e3
      · exact absurd (.inl rfl) (no _ e3)
      · exact absurd (.inr rfl) (no _ e3)
      · exact e3
    obtain ⟨m0, hn, hl⟩ := I.loc
    have hvis : Vis X.env.scope y := (ok.free _ (PySem.mem_of_lookup e4) rfl).elim (fun k => .inr (.inl k)) (fun k => .inr (.inr k))
    obtain ⟨w, r, q⟩ := hl i y av e1 e2 hvis
    refine ⟨w, r, .inr ⟨.inr ?_, ?_⟩⟩
    · show cenv.scope.names.lookup y = some .free
      rw [hsc]; exact e4
    obtain ⟨c, h1, h2⟩ := look e4
    rcases q with ⟨k, _⟩ | ⟨_, c', e', z⟩
    · have k : X.env.scope.names.lookup y = some .local := k
      rcases ok.free _ (PySem.mem_of_lookup e4) rfl with k' | k' <;> rw [show X.env.scope.names.lookup y = _ from k'] at k <;> cases k
    · rw [h2] at e'; cases e'
      exact ⟨c, h1, z.keeps kp⟩
  · obtain ⟨h1, _⟩ := mem e
    obtain ⟨w, z⟩ := I.cell y c h1
    exact ⟨w, z.keeps kp⟩
  · show H cenv.locals = none
    rw [hL]; exact I.hok.fresh (Nat.le_refl _)
  · exact I.freeC y c (mem e).1
  · exact absurd (show p ∈ ([] : List (Addr × Obj)) ++ [] from hp) (by simp)
end

/-! ### the turns -/
theorem bne_not {b c : Bool} (h : ¬ b = c) : b = !c := by cases b <;> cases c <;> simp_all
/-- what stands while the generator sleeps or wakes -/
def Rdy (Xg : Cx) (ip : List (Addr × Obj)) (σw : L2.St) (fp : List Addr) (tn : Nat → Heap → Prop) (i : Nat) (R : Hp → Prop) (s : Shared) : Prop :=
  ∃ H', Inv Xg ip σw H' s ∧ tn i s.heap ∧ (∀ b ∈ fp, H' b = none) ∧ R H'
/-- it is through: the heap, what is wanted -/
def Dn (Xg : Cx) (ip : List (Addr × Obj)) (σw : L2.St) (R : Hp → Prop) (s : Shared) : Prop := ∃ H', Inv Xg ip σw H' s ∧ R H'
theorem Rdy.gens {Xg : Cx} {ip : List (Addr × Obj)} {σw : L2.St} {fp : List Addr} {tn : Nat → Heap → Prop} {i : Nat} {R : Hp → Prop} {s s' : Shared} (h : Rdy Xg ip σw fp tn i R s) (e1 : s'.heap = s.heap) (e2 : s'.os = s.os) (hb : AllBare s'.gens) : Rdy Xg ip σw fp tn i R s' := by
  obtain ⟨H', I, st, n, r⟩ := h
  obtain ⟨hh, g, d, t, o⟩ := s'
  have e1 : hh = s.heap := e1
  have e2 : o = s.os := e2
  subst e1 e2
  exact ⟨H', ⟨I.ok, I.os, hb, I.base, I.loc, I.cell, I.free, I.freeC, I.pin, I.hok, I.len⟩, st, n, r⟩
theorem Dn.gens {Xg : Cx} {ip : List (Addr × Obj)} {σw : L2.St} {R : Hp → Prop} {s s' : Shared} (h : Dn Xg ip σw R s) (k : ∀ b u, s.heap.get? b = some u → s'.heap.get? b = some u) (e2 : s'.os = s.os) (hb : AllBare s'.gens) : Dn Xg ip σw R s' := by
  obtain ⟨H', I, r⟩ := h
  obtain ⟨hh, g, d, t, o⟩ := s'
  have e2 : o = s.os := e2
  subst e2
  have I2 := I.kept (t' := t) (h' := hh) k
  exact ⟨H', ⟨I2.ok, I2.os, hb, I2.base, I2.loc, I2.cell, I2.free, I2.freeC, I2.pin, I2.hok, I2.len⟩, r⟩
def GYp (Xg : Cx) (ip : List (Addr × Obj)) (σw : L2.St) (fp : List Addr) (tn : Nat → Heap → Prop) (W : Nat → Nat → Hp → Prop) (c : Bool) (Qf : Hp → Prop) : Protocol := fun n s₀ v s kap =>
  AllBare s.gens ∧ ∃ b : Bool, v = .bool b ∧ ((b = c ∧ ∃ i, Rdy Xg ip σw fp tn i (fun H' => ∃ m, m < n ∧ W i m H') s ∧ ∀ s'' : Shared, s''.heap = s.heap → s''.os = s.os → AllBare s''.gens → kap (.send .none) s'') ∨ (b = !c ∧ Dn Xg ip σw Qf s))
def GRp (Xg : Cx) (ip : List (Addr × Obj)) (σw : L2.St) (Qe : Hp → Prop) : GenEnd := fun n s₀ r s =>
  ((r = .ok (.ret .none) ∨ r = .ok .next) ∧ (AllBare s.gens ∧ Dn Xg ip σw Qe s)) ∨ ∃ e, r = .error e ∧ False
/-- one turn, as the reading says it -/
def GTurn (J : It) (g : TG) (te : TE) (vs : List Nat) (σw : L2.St) (c : Bool) (Qe Qf : Hp → Prop) (W : Nat → Nat → Hp → Prop) : Prop := ∀ i m H, W i m H →
  (J.stop i H ∧ Qe H) ∨ (J.go i H ∧ ∃ Nx : Hp → Prop, (∀ H', Nx H' → ∃ m', m' < m ∧ W (i + 1) m' H') ∧ ∀ x H', J.yld i H x H' → g x σw H' fun σ2 H2 => wipe σ2 vs = σw ∧ te σ2 H2 fun y H3 => ∃ b : Bool, y = .bl b ∧ if b = c then Nx H3 else Qf H3)

section
variable {X : Cx} {s₁ : Shared} {H₁ : Hp} {cenv : Env} {fp : List Addr} {ip : List (Addr × Obj)} {σw : L2.St} {tn : Nat → Heap → Prop} {J : It} {W : Nat → Nat → Hp → Prop} {c : Bool} {Qe Qf : Hp → Prop} {g : TG} {te : TE} {vs : List Nat} {elt tg iter : Expr} {scope : Scope} {pos : Pos} {it : Addr}
theorem gseg_loop (hfip : ∀ b ∈ fp, ∀ p ∈ ip, p.1 ≠ b) (hco : cenv.scope.isCoroutine = false) (T : Turn X.prog X.w X.K tg J fp it tn) (pg : PG (gblk X s₁ H₁ cenv fp) tg g) (pe : PE (gblk X s₁ H₁ cenv fp) elt te) (turn : GTurn J g te vs σw c Qe Qf W) :
    ∀ (n i : Nat) (s₀ s : Shared), Rdy (gblk X s₁ H₁ cenv fp) ip σw fp tn i (fun H' => ∃ m, m < n + 1 ∧ W i m H') s →
      Seg (model X.prog X.w) X.A.in1.in1 (GRp (gblk X s₁ H₁ cenv fp) ip σw Qe) (GYp (gblk X s₁ H₁ cenv fp) ip σw fp tn W c Qf) (n + 1) s₀
        (.compLoop (.GeneratorExp elt [⟨tg, iter, [], 0⟩] scope pos) 0 (.ref it) .none cenv)
        ((model X.prog X.w).den (.compLoop (.GeneratorExp elt [⟨tg, iter, [], 0⟩] scope pos) 0 (.ref it) .none cenv)) [] s := by
  have eo : X.A.in1.in1.over (.compLoop (.GeneratorExp elt [⟨tg, iter, [], 0⟩] scope pos) 0 (.ref it) .none cenv) [] = (gblk X s₁ H₁ cenv fp).A := over_loopC
  have stat : ∀ {σ' : L2.St} {H' : Hp} {s' : Shared}, Inv (gblk X s₁ H₁ cenv fp) ip σ' H' s' → (∀ b ∈ fp, H' b = none) → ∀ b ∈ fp, FpOk (gblk X s₁ H₁ cenv fp) ip H' b := fun {σ' H' s'} I' hn b hb =>
    ⟨hn b hb, (I'.ok.exf b hb).1, I'.ok.exfs b hb, .inl hb, fun x c e => (I'.ok.exf b hb).2 x c e, fun p hp => hfip b hb p (by simpa using hp)⟩
  intro n
  induction n with
  | zero => ?z
  | succ n ih => ?s
  all_goals
    intro i s₀ s ⟨H5, I5, st5, n5, m, hm, w5⟩
    show Seg _ X.A.in1.in1 _ _ _ s₀ _ ((compTurn (.GeneratorExp elt [⟨tg, iter, [], 0⟩] scope pos) 0 (.ref it) .none cenv).onRaise (leaving cenv)) [] s
    rw [compTurn_gen, Sem.onRaise_eq_wrap]
    refine seg_bind_wrap (wpAny_standAt ?_)
    rcases turn i m H5 w5 with ⟨stop, qq⟩ | ⟨go, Nx, hNx, step⟩
    · refine seg_bind_wrap ?_
      rw [eo]
      refine thnF (T.done (gblk X s₁ H₁ cenv fp) rfl rfl rfl rfl i ip s _ H5 (fun _ _ => False) I5 (stat I5 n5) st5 stop) fun r s6 ⟨hr, I6⟩ => ?_
      subst hr
      exact seg_end (.ok .next) (.inl ⟨.inr rfl, I6.bare, H5, I6, qq⟩)
    · refine seg_bind_wrap ?_
      rw [eo]
      refine thnF (T.item (gblk X s₁ H₁ cenv fp) rfl rfl rfl rfl i ip s _ H5 (fun _ _ => False) I5 (stat I5 n5) st5 go) fun r s6 ⟨u, hr, h6⟩ => ?_
      subst hr
      refine seg_bind_wrap ?_
      rw [eo]
      refine thnF h6 fun _ s7 ⟨x, H7, I7, r7, y7, st7, n7⟩ => ?_
      have I7' := I7.pinned (stat I7 n7) (T.obj _ _ st7)
      refine seg_bind_wrap ?_
      rw [eo]
      refine thnF (pg.run _ s7 _ H7 x u _ I7' r7 (step x H7 y7)) fun _ s8 ⟨σ8, H8, I8, hw8, q8⟩ => ?_
      refine seg_bind_wrap ?_
      rw [eo]
      refine wpAny_tests_nil ?_
      simp only [if_true]
      have hy : ∀ v, yieldOut cenv v = yieldValue v := fun v => by simp only [yieldOut, hco, Bool.false_eq_true, if_false]
      simp only [hy]
      rw [Sem.bind_eq_wrap', Sem.bind_eq_wrap', Sem.wrap_wrap, Sem.wrap_wrap]
      refine seg_wrap ?_
      rw [eo]
      refine thnF (pe.run _ s8 σ8 H8 _ I8 q8) fun z s10 ⟨yv, H10, I10, r10, b, hyb, nx⟩ => ?_
      subst hyb
      obtain rfl : z = Value.bool b := r10
      have pin' : ∀ b ∈ fp, ∀ o, s7.heap.get? b = some o → s10.heap.get? b = some o ∧ H10 b = none := fun b hb o e =>
        let z := I10.pin (b, o) (List.mem_append_right _ (List.mem_append_right _ (mem_pinsAt hb e)))
        ⟨z.1, z.2.1⟩
      have hl : σw.length = σ8.length := by rw [← hw8, wipe_length]
      have I11 : Inv (gblk X s₁ H₁ cenv fp) ip σw H10 s10 := (I10.unpinned (pins := ip)).weak hl (fun j v e => by
        rw [← hw8] at e
        exact (wipe_some e).1)
      have st11 : tn (i + 1) s10.heap := T.keep _ _ _ st7 fun b hb o e => (pin' b hb o e).1
      have n11 : ∀ b ∈ fp, H10 b = none := fun b hb => by
        obtain ⟨o, e, _⟩ := T.obj _ _ st7 b hb
        exact (pin' b hb o e).2
      refine seg_at (seg_yield rfl rfl rfl ⟨I11.bare, b, rfl, ?_⟩)
      by_cases hbc : b = c
      · rw [if_pos hbc] at nx
        obtain ⟨m', hm', w'⟩ := hNx H10 nx
        refine .inl ⟨hbc, i + 1, ⟨H10, I11, st11, n11, m', by omega, w'⟩, fun s'' e1 e2 hb'' => ?_⟩
        first
          | exact absurd hm' (by omega)
          | exact seg_again rfl (ih (i + 1) s'' s'' (Rdy.gens ⟨H10, I11, st11, n11, m', by omega, w'⟩ e1 e2 hb''))
      · rw [if_neg hbc] at nx
        exact .inr ⟨bne_not hbc, H10, I11, nx⟩

theorem gseg_start (hfip : ∀ b ∈ fp, ∀ p ∈ ip, p.1 ≠ b) (hco : cenv.scope.isCoroutine = false) (T : Turn X.prog X.w X.K tg J fp it tn) (pg : PG (gblk X s₁ H₁ cenv fp) tg g) (pe : PE (gblk X s₁ H₁ cenv fp) elt te) (turn : GTurn J g te vs σw c Qe Qf W) (n : Nat) (s₀ s : Shared)
    (h : Rdy (gblk X s₁ H₁ cenv fp) ip σw fp tn 0 (fun H' => ∃ m, m < n + 1 ∧ W 0 m H') s) :
      Seg (model X.prog X.w) X.A.in1.in1 (GRp (gblk X s₁ H₁ cenv fp) ip σw Qe) (GYp (gblk X s₁ H₁ cenv fp) ip σw fp tn W c Qf) (n + 1) s₀
        (.compStart (.GeneratorExp elt [⟨tg, iter, [], 0⟩] scope pos) 0 (.ref it) .none cenv)
        ((model X.prog X.w).den (.compStart (.GeneratorExp elt [⟨tg, iter, [], 0⟩] scope pos) 0 (.ref it) .none cenv)) [] s := by
  have loop := gseg_loop (iter := iter) (scope := scope) (pos := pos) hfip hco T pg pe turn n 0 s₀ s h
  obtain ⟨H', I, st, n0, r⟩ := id h
  show Seg _ X.A.in1.in1 _ _ _ s₀ _ ((compStart (.GeneratorExp elt [⟨tg, iter, [], 0⟩] scope pos) 0 (.ref it) .none cenv).onRaise (leaving cenv)) [] s
  unfold compStart
  rw [Sem.onRaise_eq_wrap]
  show Seg _ X.A.in1.in1 _ _ _ s₀ _ ((ask >>= _).wrap _ _ _ _) [] s
  refine seg_bind_wrap (wpAny_askSetting ?_)
  split
  · exact seg_again rfl loop
  · first
      | exact seg_bind_wrap (wpAny_rule (seg_bind_wrap (wpAny_standAt (seg_bind_wrap (T.self _ 0 s _ _ st (seg_again rfl loop))))))
      | (refine seg_bind_wrap (wpAny_rule ?_); show Seg _ X.A.in1.in1 _ _ _ s₀ _ ((standAt iter.pos >>= _).wrap _ _ _ _) [] s; exact seg_bind_wrap (wpAny_standAt (seg_bind_wrap (T.self _ 0 s _ _ st (seg_again rfl loop)))))
end

theorem all_drain {X : Cx} {ip : List (Addr × Obj)} {Xg : Cx} {σw : L2.St} {fp : List Addr} {tn : Nat → Heap → Prop} {W : Nat → Nat → Hp → Prop} {Qe Qf : Hp → Prop} {a : Addr} {g : Nat} {go : Obj} {R : Result → Shared → Prop}
    (hh : X.A.handled = none) (hd : X.A.depth < recursionLimit) (hip : (a, go) ∈ ip) (hgen : ∀ h : Heap, h.get? a = some go → h.IsGen a g)
    (hE1 : ∀ s', AllBare s'.gens → Dn Xg ip σw Qe s' → R (.ok (.ret (.bool true))) s') (hE2 : ∀ s', AllBare s'.gens → Dn Xg ip σw Qf s' → R (.ok (.ret (.bool false))) s') :
    ∀ (n : Nat) (s : Shared), s.heap.IsGen a g → s.heap.NoLimit →
      (∃ gs, s.gens[g]? = some gs ∧ gs.Goes (model X.prog X.w) X.A.in1.in1 (GRp Xg ip σw Qe) (GYp Xg ip σw fp tn W true Qf) (n + 1) (.send .none) (s.setGen g .running)) →
      codeAny (model X.prog X.w) X.A (.builtin "all.loop" ⟨[.ref a], []⟩) R s := by
  have goes : ∀ {gs : GenState} {B : Around} {n : Nat} {r : Resume} {s : Shared}, gs.Goes (model X.prog X.w) B (GRp Xg ip σw Qe) (GYp Xg ip σw fp tn W true Qf) n r s →
      gs.Goes (model X.prog X.w) B (fun n s₀ r s1 => ((r = .ok (.ret .none) ∨ r = .ok .next) ∧ (AllBare s1.gens ∧ Dn Xg ip σw Qe s1)) ∨ ∃ e, r = .error e ∧ False) (GYp Xg ip σw fp tn W true Qf) n r s := fun h => h
  intro n
  induction n with
  | zero => ?z
  | succ n ih => ?s
  all_goals
    intro s hg hl ⟨gs, hgs, hgo⟩
    have hgl : g < s.gens.size := (Array.getElem?_eq_some_iff.mp hgs).1
    refine codeAny_builtin F.entry_all_loop ?_
    rw [Around.under_plainId F.plain_all_loop _]
    show wpAny _ X.A.in1 (pyNext (.ref a) >>= _) _ _ s
    refine wpAny_bind (wpAny_gsz (n := g + 1) hgl (next_genG (A := X.A.in1) (Er := fun _ _ => False) (F := fun _ _ s1 => AllBare s1.gens ∧ Dn Xg ip σw Qe s1) hh hl hd hg hgs (goes hgo) (fun v s₁ gs' hbare hv => ?_) (fun s₁ hp h' hk => ?_) fun e s₁ he => ?_))
    · intro hsz
      obtain ⟨hb1, b, rfl, hv⟩ := hv
      refine wpAny_bind (wpAny_holding (wpAny_truthy_bool ?_))
      refine wpAny_bind (wpAny_letGo ?_)
      have hb2 : AllBare (s₁.setGen g gs').gens := allBare_setGen hb1 hbare
      rcases hv with ⟨hbc, i, hR, hk⟩ | ⟨hbc, hD⟩
      · subst hbc
        simp only [if_true, Bool.false_eq_true, if_false]
        have hsz1 : g < s₁.gens.size := by
          have q : (s₁.setGen g gs').gens.size = s₁.gens.size := setGen_size _ _ _
          have hsz' : g + 1 ≤ (s₁.setGen g gs').gens.size := hsz
          omega
        have hR' := hR
        obtain ⟨H', I, st, nn, m, hm, w⟩ := hR'
        first
          | exact absurd hm (Nat.not_lt_zero _)
          | (refine wpAny_pure ⟨plainId_quiet F.plain_all_loop _, ih _ (hgen _ (I.pin (a, go) (List.mem_append_right _ hip)).1) I.nolimit ⟨gs', setGen_at hsz1, ?_⟩⟩
             exact hk _ rfl rfl (allBare_setGen (s := s₁.setGen g gs') hb2 rfl))
      · subst hbc
        simp only [if_true, Bool.false_eq_true, if_false, Bool.not_true, Bool.not_false]
        refine wpAny_bind (wpAny_rule (wpAny_pure ?_))
        exact hE2 _ hb2 (Dn.gens hD (fun _ _ q => q) rfl hb2)
    · intro hsz
      obtain ⟨hb1, hD⟩ := hp
      have hb2 : AllBare (s₁.setGen g .finished).gens := allBare_setGen hb1 rfl
      refine wpAny_bind (wpAny_rule (wpAny_pure ?_))
      exact hE1 _ hb2 (Dn.gens hD hk rfl hb2)
    · exact he.elim

theorem any_drain {X : Cx} {ip : List (Addr × Obj)} {Xg : Cx} {σw : L2.St} {fp : List Addr} {tn : Nat → Heap → Prop} {W : Nat → Nat → Hp → Prop} {Qe Qf : Hp → Prop} {a : Addr} {g : Nat} {go : Obj} {R : Result → Shared → Prop}
    (hh : X.A.handled = none) (hd : X.A.depth < recursionLimit) (hip : (a, go) ∈ ip) (hgen : ∀ h : Heap, h.get? a = some go → h.IsGen a g)
    (hE1 : ∀ s', AllBare s'.gens → Dn Xg ip σw Qe s' → R (.ok (.ret (.bool false))) s') (hE2 : ∀ s', AllBare s'.gens → Dn Xg ip σw Qf s' → R (.ok (.ret (.bool true))) s') :
    ∀ (n : Nat) (s : Shared), s.heap.IsGen a g → s.heap.NoLimit →
      (∃ gs, s.gens[g]? = some gs ∧ gs.Goes (model X.prog X.w) X.A.in1.in1 (GRp Xg ip σw Qe) (GYp Xg ip σw fp tn W false Qf) (n + 1) (.send .none) (s.setGen g .running)) →
      codeAny (model X.prog X.w) X.A (.builtin "any.loop" ⟨[.ref a], []⟩) R s := by
  have goes : ∀ {gs : GenState} {B : Around} {n : Nat} {r : Resume} {s : Shared}, gs.Goes (model X.prog X.w) B (GRp Xg ip σw Qe) (GYp Xg ip σw fp tn W false Qf) n r s →
      gs.Goes (model X.prog X.w) B (fun n s₀ r s1 => ((r = .ok (.ret .none) ∨ r = .ok .next) ∧ (AllBare s1.gens ∧ Dn Xg ip σw Qe s1)) ∨ ∃ e, r = .error e ∧ False) (GYp Xg ip σw fp tn W false Qf) n r s := fun h => h
  intro n
  induction n with
  | zero => ?z
  | succ n ih => ?s
  all_goals
    intro s hg hl ⟨gs, hgs, hgo⟩
    have hgl : g < s.gens.size := (Array.getElem?_eq_some_iff.mp hgs).1
    refine codeAny_builtin F.entry_any_loop ?_
    rw [Around.under_plainId F.plain_any_loop _]
    show wpAny _ X.A.in1 (pyNext (.ref a) >>= _) _ _ s
    refine wpAny_bind (wpAny_gsz (n := g + 1) hgl (next_genG (A := X.A.in1) (Er := fun _ _ => False) (F := fun _ _ s1 => AllBare s1.gens ∧ Dn Xg ip σw Qe s1) hh hl hd hg hgs (goes hgo) (fun v s₁ gs' hbare hv => ?_) (fun s₁ hp h' hk => ?_) fun e s₁ he => ?_))
    · intro hsz
      obtain ⟨hb1, b, rfl, hv⟩ := hv
      refine wpAny_bind (wpAny_holding (wpAny_truthy_bool ?_))
      refine wpAny_bind (wpAny_letGo ?_)
      have hb2 : AllBare (s₁.setGen g gs').gens := allBare_setGen hb1 hbare
      rcases hv with ⟨hbc, i, hR, hk⟩ | ⟨hbc, hD⟩
      · subst hbc
        simp only [if_true, Bool.false_eq_true, if_false]
        have hsz1 : g < s₁.gens.size := by
          have q : (s₁.setGen g gs').gens.size = s₁.gens.size := setGen_size _ _ _
          have hsz' : g + 1 ≤ (s₁.setGen g gs').gens.size := hsz
          omega
        have hR' := hR
        obtain ⟨H', I, st, nn, m, hm, w⟩ := hR'
        first
          | exact absurd hm (Nat.not_lt_zero _)
          | (refine wpAny_pure ⟨plainId_quiet F.plain_any_loop _, ih _ (hgen _ (I.pin (a, go) (List.mem_append_right _ hip)).1) I.nolimit ⟨gs', setGen_at hsz1, ?_⟩⟩
             exact hk _ rfl rfl (allBare_setGen (s := s₁.setGen g gs') hb2 rfl))
      · subst hbc
        simp only [if_true, Bool.false_eq_true, if_false, Bool.not_true, Bool.not_false]
        refine wpAny_bind (wpAny_rule (wpAny_pure ?_))
        exact hE2 _ hb2 (Dn.gens hD (fun _ _ q => q) rfl hb2)
    · intro hsz
      obtain ⟨hb1, hD⟩ := hp
      have hb2 : AllBare (s₁.setGen g .finished).gens := allBare_setGen hb1 rfl
      refine wpAny_bind (wpAny_rule (wpAny_pure ?_))
      exact hE1 _ hb2 (Dn.gens hD hk rfl hb2)
    · exact he.elim

/-- all(elt for tg in iter) (c: True), any(..) (c: False); behind it the def's table may have grown -/
def tGenC (c : Bool) (P : Addr) (wi : TI) (g : TG) (te : TE) (vs : List Nat) : TE := fun σ H Q => wi σ H fun J H1 => TabG H1 P ∧ ∀ H2, Tabbed P H1 H2 →
  ∃ W : Nat → Nat → Hp → Prop, (∃ m, W 0 m H2) ∧ GTurn J g te vs (wipe σ vs) c (Q (.bl c)) (Q (.bl (!c))) W

theorem pe_allG {X : Cx} {cc P : Addr} {elt tg iter : Expr} {scope : Scope} {own : List (Str × Nat)} {p pos gpos : Pos} {wi : TI} {g : TG} {te : TE} {k : Nat} (hr : Room (k + 1) X.A) (hgl : Gl X "all") (hm : X.mg "all" = none) (TB : TabB X.base X.mg cc P) (hcode : X.env.code = .ref cc) (hN : X.N.Nodup)
    (hi : PI X tg iter wi) (ok : BlkOk X.N X.env.scope scope own) (nc : ∀ y ∈ scope.names, y.2 ≠ .cell) (hco : scope.isCoroutine = false) (hdot : scope.names.lookup (".0" : Str) = some NameKind.local)
    (hg : ∀ (s : Shared) (H : Hp) (cl : List (Str × Addr)) (C : Addr) (code : Value) (fp : List Addr), PG (gblk X s H (gEnv X scope cl C code) fp) tg g) (he : ∀ (s : Shared) (H : Hp) (cl : List (Str × Addr)) (C : Addr) (code : Value) (fp : List Addr), PE (gblk X s H (gEnv X scope cl C code) fp) elt te)
    (hs : ∀ v, genFold iter X.env v = pure v := by intro _; rfl) (hb : bootBuiltins "all" = some (.builtin "all") := by decide +kernel)
    (he' : starEach [.GeneratorExp elt [⟨tg, iter, [], 0⟩] scope gpos] X.env = (false, eval (.GeneratorExp elt [⟨tg, iter, [], 0⟩] scope gpos) X.env) :: starEach [] X.env := by rfl) :
    PE X (.Call (.Name "all" p) [.GeneratorExp elt [⟨tg, iter, [], 0⟩] scope gpos] [] pos) (tGenC true P wi g te (own.map (·.2))) := by
  refine ⟨fun pins s σ H Q I h => ?_⟩
  have hfree : ∀ y ∈ scope.names, y.2 = .free → ∃ c, X.env.cells.lookup y.1 = some c := fun y hy e => by
    rcases ok.free y hy e with k | k
    · exact I.ok.has _ (.inl k)
    · exact I.ok.has _ (.inr k)
  refine wpAny_Call_Name_kw (ld_blt I hgl hm hb ?_)
  refine PyProof.Rows.callWith_builtin1 ?_ he' (by rfl)
  rw [he']
  show wpAny _ _ (spliced ((false, eval (.GeneratorExp elt [⟨tg, iter, [], 0⟩] scope gpos) X.env) :: backTo pos (starEach [] X.env))) _ _ s
  refine Calls.spliced_cons (wpAny_GeneratorExp_make hco (closure_ok hfree) nc hdot ok.kind (by have := hr.dp; omega) (thn (hi.run pins s σ H _ I h) fun xv s1 hx => thn hx fun itv s2 h2 => ?_) hs)
  obtain ⟨it, fp, tn, J, H1, e, I2, T, st2, f2, ⟨ps, hP, ht⟩, q⟩ := h2
  subst e
  refine ⟨I2.nolimit, ?_⟩
  have hPs : s2.heap.get? P = some { cls := .none, data := .fields ps } := I2.hok P _ hP
  have cd : PySem.W.CodeHd s2.heap cc P := TB.code.keeps fun b u e => I2.bk b u e
  have hh : X.A.handled = none := hr.hd
  have cont : ∀ (code : Value) (h3 : Heap) (tk : Nat) (more : Array Value), (∀ b o, b ≠ P → s2.heap.get? b = some o → h3.get? b = some o) → h3.get? P = some { cls := .none, data := .fields (ps ++ more) } → TriplesOk (ps ++ more).toList →
      wpAny (model X.prog X.w) X.A (builtinsFor X.env.globals X.env.builtins) (fun bi s₄ =>
        ∀ h', h'.Ns s₄.heap.objs.size (fun y => if y = ".0" then some (.ref it) else none) → Heap.SameBut s₄.heap.objs.size (s₄.heap.push { cls := .type "frame", data := .dict #[] }) h' →
          wpAny (model X.prog X.w) X.A (spliced (backTo pos (starEach [] X.env))) (fun us s' => wpAny (model X.prog X.w) X.A (call (.builtin "all") (.ref h'.objs.size :: us)) (EP X pins σ Q) X.xe s') X.xe { s₄ with
            gens := s₄.gens.push (.fresh (.compStart (.GeneratorExp elt [⟨tg, iter, [], 0⟩] scope gpos) 0 (.ref it) .none (genEnv scope (cloFrom X.env.cells scope.names []) s₄.heap.objs.size code bi X.env))),
            toks := s₄.toks + 1 + 1 + 1,
            heap := h'.push { cls := .type "generator", data := .fields #[.int s₄.gens.size 0, .str "<genexpr>" (s₄.toks + 1), .str (X.env.qual ++ "<genexpr>") (s₄.toks + 1 + 1)] } }) X.xe { s2 with heap := h3, toks := tk } := by
    intro code h3 tk more k3 hP3 ht3
    have J3 : Inv X pins σ (upd H1 P (.tbl (ps ++ more))) ({ s2 with heap := h3, toks := tk } : Shared) := inv_tab (more := more) (h' := h3) (g' := s2.gens) (d' := s2.drawn) (t' := tk) I2 hP k3 hP3 I2.bare
    obtain ⟨W, ⟨m0, w0⟩, turn⟩ := q _ ⟨⟨ps ++ more, upd_same, ht3⟩, fun b hb => upd_ne hb⟩
    obtain ⟨bm, ob, e1, e2, e3, e4, e5, e6, e7, e8⟩ := TB.bm
    refine wpAny_builtinsFor (m := X.mg) (by rw [I2.ok.glob]; exact J3.mod.glob.keeps J3.bk) e1 e2 (J3.bk _ _ e5) e6 e7 e8 ?_
    intro h' hn' hs'
    have hsz : h'.objs.size = h3.objs.size + 1 := by rw [hs'.1, Heap.size_push]
    generalize hgo : ({ cls := .type "generator", data := .fields #[.int s2.gens.size 0, .str "<genexpr>" (tk + 1), .str (X.env.qual ++ "<genexpr>") (tk + 1 + 1)] } : Obj) = go
    have keep' : ∀ b o, h3.get? b = some o → h'.get? b = some o := fun b o e => hs'.extBut b o (Nat.ne_of_lt (Heap.lt_size e)) (Heap.get?_push_of_some _ e)
    have keep5 : ∀ b o, h3.get? b = some o → (h'.push go).get? b = some o := fun b o e => Heap.get?_push_of_some _ (keep' b o e)
    have hgf : go.isFreed = false := by rw [← hgo]; rfl
    have hpush : (h'.push go).get? h'.objs.size = some go := Heap.get?_push_size _ hgf
    have hgen : ∀ hh : Heap, hh.get? h'.objs.size = some go → hh.IsGen h'.objs.size s2.gens.size := fun hh e => by
      rw [← hgo] at e
      exact ⟨_, _, _, e, rfl, rfl, rfl⟩
    have nP : ∀ b ∈ fp, b ≠ P := fun b hb z => by
      have := (f2 b hb).1
      rw [z, hP] at this
      cases this
    have lt3 : ∀ b ∈ fp, b < h3.objs.size := fun b hb => by
      obtain ⟨o, e, _⟩ := T.obj _ _ st2 b hb
      exact Heap.lt_size (k3 b o (nP b hb) e)
    have f3 : ∀ b ∈ fp, FpOk X pins (upd H1 P (.tbl (ps ++ more))) b ∧ b < h3.objs.size := fun b hb =>
      ⟨⟨by rw [upd_ne (nP b hb)]; exact (f2 b hb).1, (f2 b hb).2⟩, lt3 b hb⟩
    have st3 : tn 0 h3 := T.keep _ _ _ st2 fun b hb o e => k3 b o (nP b hb) e
    have bare5 : AllBare (s2.gens.push (.fresh (.compStart (.GeneratorExp elt [⟨tg, iter, [], 0⟩] scope gpos) 0 (.ref it) .none (genEnv scope (cloFrom X.env.cells scope.names []) h3.objs.size code builtinsNs X.env)))) := I2.bare.push rfl
    have I5 := gstart (s := ({ s2 with heap := h3, toks := tk } : Shared)) (code := code) (h' := h'.push go) (tk := tk + 1 + 1 + 1) J3 hh ok nc hN f3 keep5 (hn'.push _) bare5
    have hns : ∀ b ∈ frs X.stack, b ≠ h'.objs.size := fun b hb z => by
      rcases List.mem_cons.mp (J3.stkSub b hb) with y | y
      · have := J3.lt
        rw [← y, z] at this
        have h9 : (h'.objs.size : Nat) < h3.objs.size := this
        omega
      · exact J3.nofs (a := b) (by rw [z]; show h3.objs.size ≤ h'.objs.size; omega) y
    have I6 := I5.pins_of (pins' := [(h'.objs.size, go)]) fun p hp => by
      rw [List.mem_singleton.mp hp]
      refine ⟨hpush, J3.hok.fresh (show h3.objs.size ≤ h'.objs.size by omega), ?_, fun hb => hns _ hb rfl, fun v z => ?_⟩
      · show h'.objs.size ≠ h3.objs.size
        omega
      · rw [← hgo] at z
        cases z
    have hfip : ∀ b ∈ fp, ∀ p ∈ [(h'.objs.size, go)], p.1 ≠ b := fun b hb p hp => by
      rw [List.mem_singleton.mp hp]
      have := lt3 b hb
      intro z
      have z : h'.objs.size = b := z
      rw [← z] at this
      have h9 : (h'.objs.size : Nat) < h3.objs.size := this
      omega
    have pg := hg ({ s2 with heap := h3, toks := tk } : Shared) (upd H1 P (.tbl (ps ++ more))) (cloFrom X.env.cells scope.names []) h3.objs.size code fp
    have pe := he ({ s2 with heap := h3, toks := tk } : Shared) (upd H1 P (.tbl (ps ++ more))) (cloFrom X.env.cells scope.names []) h3.objs.size code fp
    have back : ∀ {R : Hp → Prop} {s' : Shared}, Dn (gblk X ({ s2 with heap := h3, toks := tk } : Shared) (upd H1 P (.tbl (ps ++ more))) (gEnv X scope (cloFrom X.env.cells scope.names []) h3.objs.size code) fp) [(h'.objs.size, go)] (wipe σ (own.map (·.2))) R s' → ∃ H', Inv X pins σ H' s' ∧ R H' := fun {R s'} ⟨H', Ig, r⟩ =>
      ⟨H', J3.call' (ch := fp) Ig.os Ig.base Ig.hok Ig.bare fun b hb => ⟨(f3 b hb).1.2.2.2.1, (f3 b hb).1.2.1, (f3 b hb).1.2.2.2.2.1, (f3 b hb).1.2.2.2.2.2⟩, r⟩
    refine Calls.spliced_nil ?_
    refine call_function_tree F.kind_all F.plain_all F.entry_all (F.args_all1 _) ?_
    unfold Builtin.«all»
    refine wpAny_bind (m := oneArg "all" _) (wpAny_pure ?_)
    refine wpAny_bind (wpAny_pyIter_gen (s := ({ s2 with heap := h'.push go, gens := _, toks := _ } : Shared)) (hgen _ hpush) ?_)
    refine wpAny_pure ⟨plainId_quiet F.plain_all_loop _, all_drain (Xg := gblk X ({ s2 with heap := h3, toks := tk } : Shared) (upd H1 P (.tbl (ps ++ more))) (gEnv X scope (cloFrom X.env.cells scope.names []) h3.objs.size code) fp) (σw := wipe σ (own.map (·.2))) (fp := fp) (Qe := Q (.bl true)) (Qf := Q (.bl (!true))) (tn := tn) (W := W) hh (by have := hr.dp; omega) (List.mem_singleton.mpr rfl) hgen (fun s' hb hD => ?_) (fun s' hb hD => ?_) m0 _ (hgen _ hpush) I6.nolimit ⟨_, Array.getElem?_push_size .., rfl, ?_⟩⟩
    · obtain ⟨H', I7, r⟩ := back hD
      exact ⟨.bl _, H', I7, rfl, r⟩
    · obtain ⟨H', I7, r⟩ := back hD
      exact ⟨.bl _, H', I7, rfl, r⟩
    · refine gseg_start (X := X) hfip hco T pg pe turn m0 _ _ ?_
      exact Rdy.gens ⟨_, I6, T.keep _ _ _ st3 (fun b _ o e => keep5 b o e), fun b hb => (f3 b hb).1.1, m0, Nat.lt_succ_self _, w0⟩ rfl rfl (allBare_setGen (s := ({ s2 with heap := h'.push go, gens := _, toks := _ } : Shared)) bare5 rfl)
  cases hf : codeAmong gpos ps.toList with
  | none =>
    refine wpAny_genexprCodeX hcode (cd.code hPs ht) (cd.tab hPs) hf fun c' h' tk hx hge hlt hco' _ htab' _ => ?_
    obtain ⟨o1, vs, f1, tf, fl, tg, inF, tx, tt, op, _, _, _, _, _, _, _, _, _, htr, _⟩ := hco'
    exact cont _ h' tk _ (fun b o hb e => hx b o hb e) htab'.2 htr
  | some cv =>
    refine wpAny_genexprCode_hit hcode (cd.code hPs ht) hf ?_
    exact cont cv s2.heap s2.toks #[] (fun _ _ _ e => e) (by rw [hPs]; simp) (by simpa using ht)

theorem pe_anyG {X : Cx} {cc P : Addr} {elt tg iter : Expr} {scope : Scope} {own : List (Str × Nat)} {p pos gpos : Pos} {wi : TI} {g : TG} {te : TE} {k : Nat} (hr : Room (k + 1) X.A) (hgl : Gl X "any") (hm : X.mg "any" = none) (TB : TabB X.base X.mg cc P) (hcode : X.env.code = .ref cc) (hN : X.N.Nodup)
    (hi : PI X tg iter wi) (ok : BlkOk X.N X.env.scope scope own) (nc : ∀ y ∈ scope.names, y.2 ≠ .cell) (hco : scope.isCoroutine = false) (hdot : scope.names.lookup (".0" : Str) = some NameKind.local)
    (hg : ∀ (s : Shared) (H : Hp) (cl : List (Str × Addr)) (C : Addr) (code : Value) (fp : List Addr), PG (gblk X s H (gEnv X scope cl C code) fp) tg g) (he : ∀ (s : Shared) (H : Hp) (cl : List (Str × Addr)) (C : Addr) (code : Value) (fp : List Addr), PE (gblk X s H (gEnv X scope cl C code) fp) elt te)
    (hs : ∀ v, genFold iter X.env v = pure v := by intro _; rfl) (hb : bootBuiltins "any" = some (.builtin "any") := by decide +kernel)
    (he' : starEach [.GeneratorExp elt [⟨tg, iter, [], 0⟩] scope gpos] X.env = (false, eval (.GeneratorExp elt [⟨tg, iter, [], 0⟩] scope gpos) X.env) :: starEach [] X.env := by rfl) :
    PE X (.Call (.Name "any" p) [.GeneratorExp elt [⟨tg, iter, [], 0⟩] scope gpos] [] pos) (tGenC false P wi g te (own.map (·.2))) := by
  refine ⟨fun pins s σ H Q I h => ?_⟩
  have hfree : ∀ y ∈ scope.names, y.2 = .free → ∃ c, X.env.cells.lookup y.1 = some c := fun y hy e => by
    rcases ok.free y hy e with k | k
    · exact I.ok.has _ (.inl k)
    · exact I.ok.has _ (.inr k)
  refine wpAny_Call_Name_kw (ld_blt I hgl hm hb ?_)
  refine PyProof.Rows.callWith_builtin1 ?_ he' (by rfl)
  rw [he']
  show wpAny _ _ (spliced ((false, eval (.GeneratorExp elt [⟨tg, iter, [], 0⟩] scope gpos) X.env) :: backTo pos (starEach [] X.env))) _ _ s
  refine Calls.spliced_cons (wpAny_GeneratorExp_make hco (closure_ok hfree) nc hdot ok.kind (by have := hr.dp; omega) (thn (hi.run pins s σ H _ I h) fun xv s1 hx => thn hx fun itv s2 h2 => ?_) hs)
  obtain ⟨it, fp, tn, J, H1, e, I2, T, st2, f2, ⟨ps, hP, ht⟩, q⟩ := h2
  subst e
  refine ⟨I2.nolimit, ?_⟩
  have hPs : s2.heap.get? P = some { cls := .none, data := .fields ps } := I2.hok P _ hP
  have cd : PySem.W.CodeHd s2.heap cc P := TB.code.keeps fun b u e => I2.bk b u e
  have hh : X.A.handled = none := hr.hd
  have cont : ∀ (code : Value) (h3 : Heap) (tk : Nat) (more : Array Value), (∀ b o, b ≠ P → s2.heap.get? b = some o → h3.get? b = some o) → h3.get? P = some { cls := .none, data := .fields (ps ++ more) } → TriplesOk (ps ++ more).toList →
      wpAny (model X.prog X.w) X.A (builtinsFor X.env.globals X.env.builtins) (fun bi s₄ =>
        ∀ h', h'.Ns s₄.heap.objs.size (fun y => if y = ".0" then some (.ref it) else none) → Heap.SameBut s₄.heap.objs.size (s₄.heap.push { cls := .type "frame", data := .dict #[] }) h' →
          wpAny (model X.prog X.w) X.A (spliced (backTo pos (starEach [] X.env))) (fun us s' => wpAny (model X.prog X.w) X.A (call (.builtin "any") (.ref h'.objs.size :: us)) (EP X pins σ Q) X.xe s') X.xe { s₄ with
            gens := s₄.gens.push (.fresh (.compStart (.GeneratorExp elt [⟨tg, iter, [], 0⟩] scope gpos) 0 (.ref it) .none (genEnv scope (cloFrom X.env.cells scope.names []) s₄.heap.objs.size code bi X.env))),
            toks := s₄.toks + 1 + 1 + 1,
            heap := h'.push { cls := .type "generator", data := .fields #[.int s₄.gens.size 0, .str "<genexpr>" (s₄.toks + 1), .str (X.env.qual ++ "<genexpr>") (s₄.toks + 1 + 1)] } }) X.xe { s2 with heap := h3, toks := tk } := by
    intro code h3 tk more k3 hP3 ht3
    have J3 : Inv X pins σ (upd H1 P (.tbl (ps ++ more))) ({ s2 with heap := h3, toks := tk } : Shared) := inv_tab (more := more) (h' := h3) (g' := s2.gens) (d' := s2.drawn) (t' := tk) I2 hP k3 hP3 I2.bare
    obtain ⟨W, ⟨m0, w0⟩, turn⟩ := q _ ⟨⟨ps ++ more, upd_same, ht3⟩, fun b hb => upd_ne hb⟩
    obtain ⟨bm, ob, e1, e2, e3, e4, e5, e6, e7, e8⟩ := TB.bm
    refine wpAny_builtinsFor (m := X.mg) (by rw [I2.ok.glob]; exact J3.mod.glob.keeps J3.bk) e1 e2 (J3.bk _ _ e5) e6 e7 e8 ?_
    intro h' hn' hs'
    have hsz : h'.objs.size = h3.objs.size + 1 := by rw [hs'.1, Heap.size_push]
    generalize hgo : ({ cls := .type "generator", data := .fields #[.int s2.gens.size 0, .str "<genexpr>" (tk + 1), .str (X.env.qual ++ "<genexpr>") (tk + 1 + 1)] } : Obj) = go
    have keep' : ∀ b o, h3.get? b = some o → h'.get? b = some o := fun b o e => hs'.extBut b o (Nat.ne_of_lt (Heap.lt_size e)) (Heap.get?_push_of_some _ e)
    have keep5 : ∀ b o, h3.get? b = some o → (h'.push go).get? b = some o := fun b o e => Heap.get?_push_of_some _ (keep' b o e)
    have hgf : go.isFreed = false := by rw [← hgo]; rfl
    have hpush : (h'.push go).get? h'.objs.size = some go := Heap.get?_push_size _ hgf
    have hgen : ∀ hh : Heap, hh.get? h'.objs.size = some go → hh.IsGen h'.objs.size s2.gens.size := fun hh e => by
      rw [← hgo] at e
      exact ⟨_, _, _, e, rfl, rfl, rfl⟩
    have nP : ∀ b ∈ fp, b ≠ P := fun b hb z => by
      have := (f2 b hb).1
      rw [z, hP] at this
      cases this
    have lt3 : ∀ b ∈ fp, b < h3.objs.size := fun b hb => by
      obtain ⟨o, e, _⟩ := T.obj _ _ st2 b hb
      exact Heap.lt_size (k3 b o (nP b hb) e)
    have f3 : ∀ b ∈ fp, FpOk X pins (upd H1 P (.tbl (ps ++ more))) b ∧ b < h3.objs.size := fun b hb =>
      ⟨⟨by rw [upd_ne (nP b hb)]; exact (f2 b hb).1, (f2 b hb).2⟩, lt3 b hb⟩
    have st3 : tn 0 h3 := T.keep _ _ _ st2 fun b hb o e => k3 b o (nP b hb) e
    have bare5 : AllBare (s2.gens.push (.fresh (.compStart (.GeneratorExp elt [⟨tg, iter, [], 0⟩] scope gpos) 0 (.ref it) .none (genEnv scope (cloFrom X.env.cells scope.names []) h3.objs.size code builtinsNs X.env)))) := I2.bare.push rfl
    have I5 := gstart (s := ({ s2 with heap := h3, toks := tk } : Shared)) (code := code) (h' := h'.push go) (tk := tk + 1 + 1 + 1) J3 hh ok nc hN f3 keep5 (hn'.push _) bare5
    have hns : ∀ b ∈ frs X.stack, b ≠ h'.objs.size := fun b hb z => by
      rcases List.mem_cons.mp (J3.stkSub b hb) with y | y
      · have := J3.lt
        rw [← y, z] at this
        have h9 : (h'.objs.size : Nat) < h3.objs.size := this
        omega
      · exact J3.nofs (a := b) (by rw [z]; show h3.objs.size ≤ h'.objs.size; omega) y
    have I6 := I5.pins_of (pins' := [(h'.objs.size, go)]) fun p hp => by
      rw [List.mem_singleton.mp hp]
      refine ⟨hpush, J3.hok.fresh (show h3.objs.size ≤ h'.objs.size by omega), ?_, fun hb => hns _ hb rfl, fun v z => ?_⟩
      · show h'.objs.size ≠ h3.objs.size
        omega
      · rw [← hgo] at z
        cases z
    have hfip : ∀ b ∈ fp, ∀ p ∈ [(h'.objs.size, go)], p.1 ≠ b := fun b hb p hp => by
      rw [List.mem_singleton.mp hp]
      have := lt3 b hb
      intro z
      have z : h'.objs.size = b := z
      rw [← z] at this
      have h9 : (h'.objs.size : Nat) < h3.objs.size := this
      omega
    have pg := hg ({ s2 with heap := h3, toks := tk } : Shared) (upd H1 P (.tbl (ps ++ more))) (cloFrom X.env.cells scope.names []) h3.objs.size code fp
    have pe := he ({ s2 with heap := h3, toks := tk } : Shared) (upd H1 P (.tbl (ps ++ more))) (cloFrom X.env.cells scope.names []) h3.objs.size code fp
    have back : ∀ {R : Hp → Prop} {s' : Shared}, Dn (gblk X ({ s2 with heap := h3, toks := tk } : Shared) (upd H1 P (.tbl (ps ++ more))) (gEnv X scope (cloFrom X.env.cells scope.names []) h3.objs.size code) fp) [(h'.objs.size, go)] (wipe σ (own.map (·.2))) R s' → ∃ H', Inv X pins σ H' s' ∧ R H' := fun {R s'} ⟨H', Ig, r⟩ =>
      ⟨H', J3.call' (ch := fp) Ig.os Ig.base Ig.hok Ig.bare fun b hb => ⟨(f3 b hb).1.2.2.2.1, (f3 b hb).1.2.1, (f3 b hb).1.2.2.2.2.1, (f3 b hb).1.2.2.2.2.2⟩, r⟩
    refine Calls.spliced_nil ?_
    refine call_function_tree F.kind_any F.plain_any F.entry_any (F.args_any1 _) ?_
    unfold Builtin.«any»
    refine wpAny_bind (m := oneArg "any" _) (wpAny_pure ?_)
    refine wpAny_bind (wpAny_pyIter_gen (s := ({ s2 with heap := h'.push go, gens := _, toks := _ } : Shared)) (hgen _ hpush) ?_)
    refine wpAny_pure ⟨plainId_quiet F.plain_any_loop _, any_drain (Xg := gblk X ({ s2 with heap := h3, toks := tk } : Shared) (upd H1 P (.tbl (ps ++ more))) (gEnv X scope (cloFrom X.env.cells scope.names []) h3.objs.size code) fp) (σw := wipe σ (own.map (·.2))) (fp := fp) (Qe := Q (.bl false)) (Qf := Q (.bl (!false))) (tn := tn) (W := W) hh (by have := hr.dp; omega) (List.mem_singleton.mpr rfl) hgen (fun s' hb hD => ?_) (fun s' hb hD => ?_) m0 _ (hgen _ hpush) I6.nolimit ⟨_, Array.getElem?_push_size .., rfl, ?_⟩⟩
    · obtain ⟨H', I7, r⟩ := back hD
      exact ⟨.bl _, H', I7, rfl, r⟩
    · obtain ⟨H', I7, r⟩ := back hD
      exact ⟨.bl _, H', I7, rfl, r⟩
    · refine gseg_start (X := X) hfip hco T pg pe turn m0 _ _ ?_
      exact Rdy.gens ⟨_, I6, T.keep _ _ _ st3 (fun b _ o e => keep5 b o e), fun b hb => (f3 b hb).1.1, m0, Nat.lt_succ_self _, w0⟩ rfl rfl (allBare_setGen (s := ({ s2 with heap := h'.push go, gens := _, toks := _ } : Shared)) bare5 rfl)
  cases hf : codeAmong gpos ps.toList with
  | none =>
    refine wpAny_genexprCodeX hcode (cd.code hPs ht) (cd.tab hPs) hf fun c' h' tk hx hge hlt hco' _ htab' _ => ?_
    obtain ⟨o1, vs, f1, tf, fl, tg, inF, tx, tt, op, _, _, _, _, _, _, _, _, _, htr, _⟩ := hco'
    exact cont _ h' tk _ (fun b o hb e => hx b o hb e) htab'.2 htr
  | some cv =>
    refine wpAny_genexprCode_hit hcode (cd.code hPs ht) hf ?_
    exact cont cv s2.heap s2.toks #[] (fun _ _ _ e => e) (by rw [hPs]; simp) (by simpa using ht)
end GxA
end

section
set_option Elab.async false
set_option linter.all false
set_option maxRecDepth 100000
set_option maxHeartbeats 4000000
/-! for c in 'signs': t = t.replace(c, f' {c} ') -/
namespace RpX
open PySem PySem.Spec PyProof.Rows L2
section
variable {X : Cx} {pins : List (Addr × Obj)} {σ : L2.St} {H : Hp} {s : Shared}
/-- a local name stored: the state behind it, its frame known -/
theorem store_inv {i : Nat} {x : Str} {v : V} {u : Value} {m : Str → Option Value} {h' : Heap} (I : Inv X pins σ H s) (hN : X.N.Nodup) (hi : X.N[i]? = some x) (hk : X.env.scope.names.lookup x = some .local) (r : RelV v u) (hn : s.heap.Ns X.env.locals m)
    (hn' : h'.Ns X.env.locals (fun y => if y = x then some u else m y)) (hs : Heap.SameBut X.env.locals s.heap h') : Inv X pins (σ.set i (some v)) H { s with heap := h' } := by
  have hiσ : i < σ.length := by rw [I.len]; exact (List.getElem?_eq_some_iff.mp hi).1
  have cne := I.cne
  obtain ⟨m0, hn0, hl⟩ := id I.loc
  have em : m0 = m := by rw [hn0.eq_nsMap, hn.eq_nsMap]
  subst em
  obtain ⟨oL, _, _, hoL, _⟩ := id hn
  have tracked : HOk X.prog X.w H h' := fun b ob e => by
    refine (I.hok b ob e).stay (fun c w' hc q => (hs.2 c ?_).trans q) (fun _ q => q) fun _ _ q => q
    rintro rfl
    have hfree := I.free
    rcases hc with rfl | hc
    · rw [hfree] at e; cases e
    · rw [hfree] at hc; cases hc
  refine ⟨I.ok, I.os, I.bare, ⟨fun b o e n hb hx => ?_, fun b o e n hb hx => ?_, I.base.free, fun b o e hx => ?_, I.base.tups, I.base.frzs, I.base.tbls⟩, ⟨_, hn', fun j y v' e1 e2 e3 => ?_⟩, fun y c e => ?_, I.free, I.freeC, fun p hp => ?_, tracked, by simpa using I.len⟩
  · exact (hs.2 b (Nat.ne_of_lt (Nat.lt_of_lt_of_le (Heap.lt_size e) I.ok.above))).trans (I.base.keep b o e n hb hx)
  · obtain ⟨sl, e1⟩ := I.base.slot b o e n hb hx
    exact ⟨sl, (hs.2 b (Nat.ne_of_lt (Nat.lt_of_lt_of_le (Heap.lt_size e) I.ok.above))).trans e1⟩
  · obtain ⟨o', e1⟩ := I.base.there b o e hx
    exact ⟨o', (hs.2 b (Nat.ne_of_lt (Nat.lt_of_lt_of_le (Heap.lt_size e) I.ok.above))).trans e1⟩
  · by_cases hj : j = i
    · subst hj
      rw [hi] at e1; cases e1
      rw [List.getElem?_set_self hiσ] at e2
      cases e2
      exact ⟨u, r, .inl ⟨hk, by simp⟩⟩
    · rw [List.getElem?_set_ne (Ne.symm hj)] at e2
      obtain ⟨u', r', q⟩ := hl j y v' e1 e2 e3
      refine ⟨u', r', ?_⟩
      rcases q with ⟨k, e⟩ | ⟨k, c, e, z⟩
      · refine .inl ⟨k, ?_⟩
        have : y ≠ x := fun e => hj (nodup_ix hN e1 (e ▸ hi))
        simp [this, e]
      · exact .inr ⟨k, c, e, z.sameBut hs (cne y c e)⟩
  · obtain ⟨w', z⟩ := I.cell y c e
    exact ⟨w', z.sameBut hs (cne y c e)⟩
  · obtain ⟨e, n, ne, nf, d⟩ := I.pin p hp
    exact ⟨(hs.2 p.1 ne).trans e, n, ne, nf, d⟩
end
def pad (c : Nat) : Str := Str.empty ++ " " ++ ⟨#[c]⟩ ++ " "
theorem one_ne_pad (c : Nat) : ((⟨#[c]⟩ : Str) == pad c) = false := by
  refine beq_eq_false_iff_ne.mpr fun e => ?_
  have h : (1 : Nat) = 3 := congrArg Str.length e
  omega
/-- the text with a blank on both sides of each of the signs -/
def padAll (x : Str) : List Nat → Str
  | [] => x
  | c :: r => padAll (Txt.replace x ⟨#[c]⟩ (pad c)) r
section
variable {X : Cx} {pins : List (Addr × Obj)} {σ : L2.St} {H : Hp} {s : Shared} {ix ir : Nat} {sx rx : Str} {p1 p2 p3 apos pos spos fp jp c1 c2 : Pos} {j1 j2 : Nat}
/-- the turn's statement: the sign's token is younger than nothing and older than all to come -/
theorem repl_stmt {c t : Nat} {x : Str} {m : Str → Option Value} (hN : X.N.Nodup) (hir : X.N[ir]? = some rx) (hix : X.N[ix]? = some sx) (hkr : X.env.scope.names.lookup rx = some .local) (hkx : X.env.scope.names.lookup sx = some .local)
    (I : Inv X pins σ H s) (hx : σ[ir]? = some (some (.str x))) (hn : s.heap.Ns X.env.locals m) (hm : m sx = some (.str ⟨#[c]⟩ t)) (ht : 1 ≤ t) (hts : t < s.toks) (hb : x.length + (x.length + 1) * (pad c).length ≤ 16777216)
    (hst : starEach [.Name sx p2, .JoinedStr [.Constant (.str " ") j1 c1, .FormattedValue (.Name sx p3) (-1) none fp, .Constant (.str " ") j2 c2] jp] X.env =
      [(false, eval (.Name sx p2) X.env), (false, eval (.JoinedStr [.Constant (.str " ") j1 c1, .FormattedValue (.Name sx p3) (-1) none fp, .Constant (.str " ") j2 c2] jp) X.env)] := by rfl)
    (hbase : attributeBase (.Name rx p1) "replace" X.env (eval (.Name rx p1) X.env) = eval (.Name rx p1) X.env := by rfl) (hline : (apos.endLine == pos.line) = true := by rfl)
    (hd : (sx == ("__debug__" : Str)) = false := by decide) (hdr : (rx == ("__debug__" : Str)) = false := by decide) (hcr : (rx == ("__classdict__" : Str)) = false := by decide) :
    wpAny (model X.prog X.w) X.A (eval (.Call (.Attribute (.Name rx p1) "replace" apos) [.Name sx p2, .JoinedStr [.Constant (.str " ") j1 c1, .FormattedValue (.Name sx p3) (-1) none fp, .Constant (.str " ") j2 c2] jp] [] pos) X.env)
      (fun v s' => RelV (.str (Txt.replace x ⟨#[c]⟩ (pad c))) v ∧ ∃ k, s' = { s with toks := k }) X.xe s := by
  refine PySem.Call_method2 hbase hst hline (raw_name hir (.inl hkr) I hx (fun v r => ?_) hdr hcr)
  obtain ⟨tx, e⟩ := r
  subst e
  refine ⟨"str", _, F.plainAttrs_str, F.slot_str_replace, F.type_str_replace, typeIs_str _ _ _, (fun _ e => nomatch e), Calls.callWith_builtin rfl (Calls.evalArgs_plain (Calls.spliced_cons ?_))⟩
  refine wpAny_Name (wpAny_loadName_local I.ok.kind hkx hn hm ?_) hd
  refine Calls.spliced_cons ?_
  refine wpAny_JoinedStr ?_
  show Joins _ _ _ [eval (.Constant (.str " ") j1 c1) X.env, eval (.FormattedValue (.Name sx p3) (-1) none fp) X.env, eval (.Constant (.str " ") j2 c2) X.env] Str.empty _ s
  refine Calls.Constant_str ⟨_, _, rfl, by decide +kernel, ?_⟩
  have fin : ∀ (R : Str → Shared → Prop), (∀ k, s.toks < k → R (pad c) { s with toks := k }) → ∀ k, s.toks < k → Joins (model X.prog X.w) X.A X.xe [eval (.Constant (.str " ") j2 c2) X.env] (Str.empty ++ " " ++ (⟨#[c]⟩ : Str)) R { s with toks := k } := by
    intro R hR k hk
    exact Calls.Constant_str ⟨_, _, rfl, (by show (1 + 1 + 1 : Nat) ≤ sizeLine; decide), hR (k + 1) (by omega)⟩
  refine wpAny_FormattedValue_plain (wpAny_Name (wpAny_loadName_local (s := { s with toks := s.toks + 1 }) I.ok.kind hkx hn hm ?_) hd)
  refine wpAny_formatField_str ⟨_, _, rfl, (by show (1 + 1 : Nat) ≤ sizeLine; decide), fin _ (fun k hk => ?_) _ (by omega)⟩ ⟨_, _, rfl, (by show (1 + 1 : Nat) ≤ sizeLine; decide), fin _ (fun k hk => ?_) _ (by show s.toks < s.toks + 1 + 1; omega)⟩ (by show (1 : Nat) ≤ sizeLine; decide)
  all_goals
    refine ⟨(by show (1 + 1 + 1 : Nat) ≤ sizeLine; decide), Calls.spliced_nil ?_⟩
    exact PySem.SC.replace (u := t) (v := k) (y := ⟨#[c]⟩) (z := pad c) (show (t : Nat) ≠ 0 by omega) (show (k : Nat) ≠ 0 by omega) (show (t : Nat) ≠ k by omega) (one_ne_pad c) hb fun t' k2 => ⟨⟨t', rfl⟩, k2, rfl⟩
/-- for c in 'signs': row = row.replace(c, f' {c} ') -/
def tForRepl (ix ir : Nat) (lit : List Nat) : TS := fun D σ H => ∃ x, σ[ir]? = some (some (.str x)) ∧ x.length ≤ 1000 ∧ lit.length ≤ 4 ∧ ∀ v : Option V, D.nx ((σ.set ix v).set ir (some (.str (padAll x lit)))) H
theorem padAll_snoc (x : Str) (a : List Nat) (c : Nat) : padAll x (a ++ [c]) = Txt.replace (padAll x a) ⟨#[c]⟩ (pad c) := by
  induction a generalizing x with
  | nil => rfl
  | cons d r ih => exact ih _
theorem padAll_len (a : List Nat) : ∀ x : Str, (padAll x a).length ≤ (x.length + 1) * 4 ^ a.length := by
  induction a with
  | nil => intro x; show x.length ≤ _; rw [List.length_nil, Nat.pow_zero]; omega
  | cons c r ih =>
    intro x
    have h1 := ih (Txt.replace x ⟨#[c]⟩ (pad c))
    have h2 := TK.replace_len x ⟨#[c]⟩ (pad c)
    have h3 : (pad c).length = 3 := rfl
    rw [h3] at h2
    have h4 : (Txt.replace x ⟨#[c]⟩ (pad c)).length + 1 ≤ (x.length + 1) * 4 := by omega
    calc (padAll x (c :: r)).length ≤ ((Txt.replace x ⟨#[c]⟩ (pad c)).length + 1) * 4 ^ r.length := h1
      _ ≤ (x.length + 1) * 4 * 4 ^ r.length := Nat.mul_le_mul_right _ h4
      _ = (x.length + 1) * 4 ^ (c :: r).length := by rw [List.length_cons, Nat.pow_succ, Nat.mul_assoc, Nat.mul_comm 4]
theorem ps_forRepl {lit : Str} {jl : Nat} {cl ptx pra : Pos} {fpos : Pos} (hp : PassesOwn (model X.prog X.w) X.A X.env X.xe) (hc : X.calm = true) (hN : X.N.Nodup) (hir : X.N[ir]? = some rx) (hix : X.N[ix]? = some sx) (hne : ix ≠ ir) (hkr : X.env.scope.names.lookup rx = some .local) (hkx : X.env.scope.names.lookup sx = some .local)
    (ha : lit.cps.all (· < 128) = true) (hs0 : ∀ x, foldedSetIterable (.Constant (.str lit) jl cl) X.env x = pure x := by intro _; rfl)
    (hs : swapsWith (.Call (.Attribute (.Name rx p1) "replace" apos) [.Name sx p2, .JoinedStr [.Constant (.str " ") j1 c1, .FormattedValue (.Name sx p3) (-1) none fp, .Constant (.str " ") j2 c2] jp] [] pos) (some (.Name rx pra)) spos.line X.env = pure false := by rfl)
    (hst : starEach [.Name sx p2, .JoinedStr [.Constant (.str " ") j1 c1, .FormattedValue (.Name sx p3) (-1) none fp, .Constant (.str " ") j2 c2] jp] X.env =
      [(false, eval (.Name sx p2) X.env), (false, eval (.JoinedStr [.Constant (.str " ") j1 c1, .FormattedValue (.Name sx p3) (-1) none fp, .Constant (.str " ") j2 c2] jp) X.env)] := by rfl)
    (hbase : attributeBase (.Name rx p1) "replace" X.env (eval (.Name rx p1) X.env) = eval (.Name rx p1) X.env := by rfl) (hline : (apos.endLine == pos.line) = true := by rfl)
    (hd : (sx == ("__debug__" : Str)) = false := by decide) (hdr : (rx == ("__debug__" : Str)) = false := by decide) (hcr : (rx == ("__classdict__" : Str)) = false := by decide) :
    PS X (.For (.Name sx ptx) (.Constant (.str lit) jl cl) [.Assign [.Name rx pra] (.Call (.Attribute (.Name rx p1) "replace" apos) [.Name sx p2, .JoinedStr [.Constant (.str " ") j1 c1, .FormattedValue (.Name sx p3) (-1) none fp, .Constant (.str " ") j2 c2] jp] [] pos) spos] [] fpos)
      (tForRepl ix ir lit.cps.toList) := by
  refine ⟨fun pins s σ H D I h => ?_⟩
  obtain ⟨x, hx, hxl, hll, q⟩ := h
  have hcls : (X.env.scope.kind == .class || (X.env.scope.kind == .module && X.env.locals != X.env.globals)) = false := by rw [I.ok.kind]; rfl
  refine wpAny_For (Calls.Constant_str (wpAny_pyIter_ascii ha ?_)) hs0
  have hL : s.heap.objs.size ≠ X.env.locals := Nat.ne_of_gt I.lt
  have I2 : Inv X pins σ H ({ s with heap := s.heap.push { cls := .type "str_ascii_iterator", data := .fields #[.str lit s.toks, .int 0 0] }, toks := s.toks + 1 } : Shared) := I.kept (t' := s.toks + 1) fun b o e => Heap.get?_push_of_some _ e
  have hitH : H s.heap.objs.size = none := I.hok.fresh (Nat.le_refl _)
  have fp0 := I.fpOk (b := s.heap.objs.size) (Nat.le_refl _) hitH
  refine codeAny_forLoop_any (fun n s' => ∃ i v, i + n = lit.cps.toList.length ∧ Inv X pins ((σ.set ix v).set ir (some (.str (padAll x (lit.cps.toList.take i))))) H s' ∧ s'.heap.IsStrIter s.heap.objs.size "str_ascii_iterator" lit s.toks i ∧ 1 ≤ s'.toks) ?_ lit.cps.toList.length ⟨0, (σ[ix]?).getD none, Nat.zero_add _, ?_, ⟨_, Heap.get?_push_size _ rfl, rfl, rfl⟩, by show 1 ≤ s.toks + 1; omega⟩
  · rintro n s3 ⟨i, v, hi, I3, hit, ht3⟩
    have hir' : ir < σ.length := (List.getElem?_eq_some_iff.mp hx).1
    have hix' : ix < σ.length := by rw [I.len]; exact (List.getElem?_eq_some_iff.mp hix).1
    by_cases hlt : i < lit.cps.toList.length
    · obtain ⟨c, hcc⟩ : ∃ c, lit.cps.toList[i]? = some c := ⟨_, List.getElem?_eq_getElem hlt⟩
      have hcc' : lit.cps[i]? = some c := by rw [← Array.getElem?_toList]; exact hcc
      refine wpAny_passesOwn hp (wpAny_pyNext_ascii_item hit hcc' fun h' hit' hs' => ?_)
      have kk : ∀ b o, b ≠ s.heap.objs.size → s3.heap.get? b = some o → h'.get? b = some o := fun b o hb e => hs'.extBut b o hb e
      have I4 : Inv X pins ((σ.set ix v).set ir (some (.str (padAll x (lit.cps.toList.take i))))) H ({ s3 with heap := h', toks := s3.toks + 1 } : Shared) := I3.turned (t' := s3.toks + 1) kk hitH fp0.2.1 fp0.2.2.2.1 fp0.2.2.2.2.1 fp0.2.2.2.2.2
      refine wpAny_passesOwn hp (wpAny_of_eq (rfl : letOwnedTupleGo (.Name sx ptx) (.ref s.heap.objs.size) _ = pure ()) ?_)
      obtain ⟨m, hn, _⟩ := id I4.loc
      refine wpAny_passesOwn hp (wpAny_assign_Name (wpAny_storeName_local hkx hn (fun h2 hn2 hs2 => ?_) hcls))
      have I5 := (store_inv (v := V.str ⟨#[c]⟩) (u := .str ⟨#[c]⟩ s3.toks) I4 hN hix hkx ⟨_, rfl⟩ hn hn2 hs2).tok (s3.toks + 1 + 1)
      have hit2 : h2.IsStrIter s.heap.objs.size "str_ascii_iterator" lit s.toks (i + 1) := hit'.extBut hs2.extBut hL
      generalize hσ5 : (((σ.set ix v).set ir (some (.str (padAll x (lit.cps.toList.take i))))).set ix (some (.str ⟨#[c]⟩))) = σ5 at I5
      have eσ5 : σ5 = (σ.set ix (some (.str ⟨#[c]⟩))).set ir (some (.str (padAll x (lit.cps.toList.take i)))) := by
        rw [← hσ5, List.set_comm _ _ (Ne.symm hne), List.set_set]
      have hx5 : σ5[ir]? = some (some (.str (padAll x (lit.cps.toList.take i)))) := by
        rw [eσ5]; exact List.getElem?_set_self (by simpa using hir')
      have hlen := padAll_len (lit.cps.toList.take i) x
      have hti : (lit.cps.toList.take i).length ≤ 3 := by rw [List.length_take]; omega
      have hp4 : 4 ^ (lit.cps.toList.take i).length ≤ 4 ^ 3 := Nat.pow_le_pow_right (by decide) hti
      have hb5 : (padAll x (lit.cps.toList.take i)).length ≤ 64064 := by
        have h1 : (x.length + 1) * 4 ^ (lit.cps.toList.take i).length ≤ (x.length + 1) * 4 ^ 3 := Nat.mul_le_mul_left _ hp4
        have h2 : (4 : Nat) ^ 3 = 64 := by decide
        omega
      have hpl : (pad c).length = 3 := rfl
      refine wpAny_passesOwn hp (wpAny_execs_cons ?_)
      refine wpAny_Assign_Name (wpAny_mono (repl_stmt (jp := jp) (fp := fp) (p1 := p1) (p2 := p2) (p3 := p3) (c1 := c1) (c2 := c2) (j1 := j1) (j2 := j2) (apos := apos) (pos := pos) (s := ({ s3 with heap := h2, toks := s3.toks + 1 + 1 } : Shared)) (c := c) (t := s3.toks) hN hir hix hkr hkx I5 hx5 hn2 (if_pos rfl) ht3 (by show s3.toks < s3.toks + 1 + 1; omega) (by rw [hpl]; omega) hst hbase hline hd hdr hcr) (fun u s6 hu => ?_) fun _ _ e => e) hs
      obtain ⟨ru, k6, e6⟩ := hu
      subst e6
      have I6 := I5.tok k6
      obtain ⟨m6, hn6, _⟩ := id I6.loc
      refine wpAny_storeName_local hkr hn6 (fun h7 hn7 hs7 => ?_) hcls
      have I7 := (store_inv I6 hN hir hkr ru hn6 hn7 hs7).tok (k6 + 1)
      have hit7 : h7.IsStrIter s.heap.objs.size "str_ascii_iterator" lit s.toks (i + 1) := hit2.extBut hs7.extBut hL
      refine wpAny_execs_nil ?_
      refine ⟨n - 1, by omega, i + 1, some (.str ⟨#[c]⟩), by omega, ?_, hit7, by show 1 ≤ k6 + 1; omega⟩
      have e9 : σ5.set ir (some (.str (Txt.replace (padAll x (lit.cps.toList.take i)) ⟨#[c]⟩ (pad c)))) = (σ.set ix (some (.str ⟨#[c]⟩))).set ir (some (.str (padAll x (lit.cps.toList.take (i + 1))))) := by
        rw [eσ5, List.set_set, List.take_succ, hcc]
        show _ = (σ.set ix _).set ir (some (.str (padAll x (lit.cps.toList.take i ++ [c]))))
        rw [padAll_snoc]
      rw [← e9]
      exact I7
    · have e : i = lit.cps.toList.length := by omega
      have hn0 : lit.cps[i]? = none := by
        rw [← Array.getElem?_toList, e]; simp
      refine wpAny_passesOwn hp (wpAny_pyNext_ascii_end (I3.ok.hd hc) hit hn0 fun h' hx' => ?_)
      have kk : ∀ b o, b ≠ s.heap.objs.size → s3.heap.get? b = some o → h'.get? b = some o := fun b o hb q => hx' b o hb q
      have I4 := I3.turned (t' := s3.toks) kk hitH fp0.2.1 fp0.2.2.2.1 fp0.2.2.2.2.1 fp0.2.2.2.2.2
      refine wpAny_execs_nil ⟨_, H, I4, ?_⟩
      rw [e, List.take_length]
      exact q v
  · have e : (σ.set ix ((σ[ix]?).getD none)).set ir (some (.str (padAll x (lit.cps.toList.take 0)))) = σ := by
      show (σ.set ix ((σ[ix]?).getD none)).set ir (some (.str x)) = σ
      have hix' : ix < σ.length := by rw [I.len]; exact (List.getElem?_eq_some_iff.mp hix).1
      have hir' : ir < σ.length := (List.getElem?_eq_some_iff.mp hx).1
      apply List.ext_getElem?
      intro j
      by_cases hj : j = ir
      · subst hj
        rw [List.getElem?_set_self (by simpa using hir'), hx]
      · rw [List.getElem?_set_ne (Ne.symm hj)]
        by_cases hj2 : j = ix
        · subst hj2
          rw [List.getElem?_set_self hix', List.getElem?_eq_getElem hix']
          rfl
        · rw [List.getElem?_set_ne (Ne.symm hj2)]
    rw [e]
    exact I2
end
end RpX
end

section
set_option Elab.async false
set_option linter.all false
set_option maxRecDepth 100000
set_option maxHeartbeats 4000000
/-! sorted(names, key=f), f a def that gives (len(name), name) -/
namespace SkX
open PySem PySem.Spec PyProof.Rows L2
/-- what a name is in order by -/
def nk (x : Str) : List (Int ⊕ List Nat) := [.inl (x.length : Int), .inr x.cps.toList]
def NLe (x y : Str) : Prop := (listOrd itemOrd).kle (nk x) (nk y)
theorem nle_antisymm {x y : Str} (a : NLe x y) (b : NLe y x) : x = y := by
  have h : nk x = nk y := KeyOrd.kle_antisymm (O := listOrd itemOrd) a b
  unfold nk at h
  have h2 : x.cps.toList = y.cps.toList := by
    injection h with _ h
    injection h with h _
    injection h
  have h3 : x.cps = y.cps := by
    have := congrArg List.toArray h2
    simpa using this
  cases x; cases y; cases h3; rfl
/-- two lists of the same names in order are one -/
theorem ord_unique : ∀ {a b : List Str}, a.Perm b → a.Pairwise NLe → b.Pairwise NLe → a = b
  | [], b, p, _, _ => by have := p.length_eq; cases b with | nil => rfl | cons _ _ => simp at this
  | x :: r, [], p, _, _ => by have := p.length_eq; simp at this
  | x :: r, y :: q, p, h1, h2 => by
    have e : x = y := by
      have hx : x ∈ y :: q := p.mem_iff.mp List.mem_cons_self
      have hy : y ∈ x :: r := p.mem_iff.mpr List.mem_cons_self
      rcases List.mem_cons.mp hx with e | hx
      · exact e
      rcases List.mem_cons.mp hy with e | hy
      · exact e.symm
      exact nle_antisymm ((List.pairwise_cons.mp h1).1 y hy) ((List.pairwise_cons.mp h2).1 x hx)
    subst e
    rw [ord_unique ((List.perm_cons x).mp p) (List.pairwise_cons.mp h1).2 (List.pairwise_cons.mp h2).2]

section
variable {X : Cx} {pins : List (Addr × Obj)} {σ : L2.St} {H : Hp} {s : Shared}
/-- an untracked list of our own is tracked from now on -/
theorem adopt {a : Addr} {xs : List V} {its : List Value} {n : Nat} (I : Inv X pins σ H s) (fp : FpOk X pins H a) (rv : Vals xs its) (hz : xs.length ≤ sizeLine) (e : s.heap.get? a = some { cls := .type "list", data := .seq its.toArray n }) :
    Inv X pins σ (upd H a (.lst xs)) s := by
  obtain ⟨f0, f1, f2, f3, f4, f5⟩ := fp
  have nt : ∀ b u, H b = some u → b ≠ a := fun b u q z => by rw [z, f0] at q; cases q
  have J := I.step (h' := s.heap) (H' := upd H a (.lst xs)) (g' := s.gens) (d' := s.drawn) (t' := s.toks) (ch := [a]) (fun b hb => by rw [List.mem_singleton.mp hb]; exact ⟨f3, f1, f4, f5⟩)
    (fun b o _ _ _ q _ => q) (fun b o _ _ _ q _ => ⟨o.slots, q⟩) (fun b o hb _ n => by rw [upd_ne (fun z => hb (by rw [z]; exact List.mem_singleton.mpr rfl))]; exact n) (fun b o _ q => ⟨o, q⟩)
    (fun b ys q => by rw [upd_ne (nt b _ q)]; exact q) (fun b o u q => by rw [upd_ne (nt b _ q)]; exact q) (fun b ps q => ⟨#[], by rw [upd_ne (nt b _ q), q]; simp⟩) (fun m h => h) (fun b u q => ?_) I.bare
  · exact J
  · by_cases hb : b = a
    · subst hb
      rw [upd_same] at q
      cases q
      exact ⟨hz, its, n, rv, e⟩
    · rw [upd_ne hb] at q
      exact (I.hok b u q).stay (fun _ _ _ z => z) (fun c z => by rw [upd_ne (nt c _ z)]; exact z) fun c ys z => by rw [upd_ne (nt c _ z)]; exact z
end
/-- the promise of the key def: a new pair of the length and the name -/
def spKey : Sp := fun vs H Q _ => ∃ x : Str, vs = [.str x] ∧ x.length ≤ 1000 ∧ ∀ t, H t = none → Q (.ref t) (upd H t (.tup [.int x.length, .str x]))
/-- the keys so far -/
def Keyd (H : Hp) (ks : List V) (ns : List Str) : Prop := Paired (fun (k : V) (x : Str) => ∃ t, k = .ref t ∧ H t = some (.tup [.int x.length, .str x])) ks ns
theorem Keyd.mono {H H' : Hp} {ks : List V} {ns : List Str} (h : Keyd H ks ns) (s : Same H H') : Keyd H' ks ns := Paired.mapP h fun _ _ ⟨t, e, q⟩ => ⟨t, e, s _ _ q⟩
theorem Keyd.snoc {H : Hp} {ks : List V} {ns : List Str} {t : Addr} {x : Str} : Keyd H ks ns → H t = some (.tup [.int x.length, .str x]) → Keyd H (ks ++ [.ref t]) (ns ++ [x])
  | .nil, h => .cons ⟨t, rfl, h⟩ .nil
  | .cons r q, h => .cons r (Keyd.snoc q h)
theorem vals_at : ∀ {xs : List V} {us : List Value} {i : Nat} {u : Value}, Vals xs us → us[i]? = some u → ∃ x, xs[i]? = some x ∧ RelV x u
  | _, _, _, _, .nil, e => by simp at e
  | _, _, 0, _, .cons r _, e => by simp at e; subst e; exact ⟨_, rfl, r⟩
  | _, _, i + 1, u, .cons _ t, e => by
    obtain ⟨x, h1, h2⟩ := vals_at (i := i) t (by simpa using e)
    exact ⟨x, by simpa using h1, h2⟩
/-- the shape of a key: a number, then a text -/
def shp : Nat → Bool := fun i => i == 1
theorem keyd_key {P : Program} {w : World} {H : Hp} {h : Heap} (ok : HOk P w H h) {ks : List V} {ns : List Str} {us : List Value} (k : Keyd H ks ns) (r : Vals ks us) : Paired (fun (u : Value) (x : Str) => G.tupKeyC h shp u = some (nk x) ∧ ∃ f, TupOf h shp u f) us ns := by
  induction k generalizing us with
  | nil => cases r; exact .nil
  | cons hk _ ih =>
    cases r with
    | cons r1 r2 =>
      refine .cons ?_ (ih r2)
      obtain ⟨t, rfl, e⟩ := hk
      obtain rfl := r1
      obtain ⟨_, its, rv, ob, ho, hc, n, hd⟩ := ok t _ e
      cases rv with
      | cons ra rb =>
        cases rb with
        | cons rb rc =>
          cases rc
          obtain ⟨t1, rfl⟩ := ra
          obtain ⟨t2, rfl⟩ := rb
          refine ⟨?_, _, t, ob, _, n, rfl, ho, hc, hd, rfl, fun _ => ⟨_, _, rfl⟩, fun z => by cases z⟩
          unfold G.tupKeyC
          have h1 : G.isTupObj h (.ref t) = true := by simp only [G.isTupObj, ho, hc]; rfl
          rw [if_pos h1]
          show tupKey h shp (.ref t) = _
          simp only [tupKey, ho, hd]
          rfl

/-- the name of a pair -/
def gN (p : Keyed) : Str := match p.2 with
  | .str x _ => x
  | _ => Str.empty
/-- what is known of each pair -/
def PairOk (h : Heap) (p : Keyed) : Prop := ∃ x t, p.2 = Value.str x t ∧ G.tupKeyC h shp p.1 = some (nk x)
theorem pairs_ok {h : Heap} : ∀ {us its : List Value} {ns : List Str}, Paired (fun (u : Value) (x : Str) => G.tupKeyC h shp u = some (nk x) ∧ ∃ f, TupOf h shp u f) us ns → Vals (ns.map V.str) its → (us.zip its).map gN = ns ∧ ∀ p ∈ us.zip its, PairOk h p
  | _, _, _, .nil, .nil => ⟨rfl, fun _ h => by simp at h⟩
  | _, _, _, .cons k1 k2, .cons r1 r2 => by
    obtain ⟨e, a⟩ := pairs_ok k2 r2
    obtain ⟨t, rfl⟩ := r1
    refine ⟨by rw [List.zip_cons_cons, List.map_cons, e]; rfl, fun p hp => ?_⟩
    rcases List.mem_cons.mp hp with rfl | hp
    · exact ⟨_, t, rfl, k1.1⟩
    · exact a p hp
theorem tups_of {h : Heap} : ∀ {us : List Value} {ns : List Str}, Paired (fun (u : Value) (x : Str) => G.tupKeyC h shp u = some (nk x) ∧ ∃ f, TupOf h shp u f) us ns → ∃ fs, TupsOf h shp us fs ∧ fs.length = us.length
  | _, _, .nil => ⟨[], .nil, rfl⟩
  | _, _, .cons k1 k2 => by
    obtain ⟨f, hf⟩ := k1.2
    obtain ⟨fs, h1, h2⟩ := tups_of k2
    exact ⟨f :: fs, .cons hf h1, by rw [List.length_cons, List.length_cons, h2]⟩
theorem vals_gN {h : Heap} : ∀ {ps : List Keyed}, (∀ p ∈ ps, PairOk h p) → Vals ((ps.map gN).map V.str) (ps.map (·.2))
  | [], _ => .nil
  | p :: r, a => by
    obtain ⟨x, t, e, _⟩ := a p List.mem_cons_self
    refine .cons ?_ (vals_gN fun q hq => a q (List.mem_cons_of_mem _ hq))
    show RelV (.str (gN p)) p.2
    have e2 : gN p = x := by unfold gN; rw [e]
    rw [e, e2]
    exact ⟨t, rfl⟩
section
variable {X : Cx} {pins : List (Addr × Obj)} {σ : L2.St} {k : Nat} {f a kS : Addr} {fd : FuncData} {ps : List Str} {E : Value → Shared → Prop} {P : PySem.Fin → Shared → Prop}
theorem key_rest {H : Hp} {s : Shared} {e1 : Nat} {its : List Value} {ns : List Str} (F : FnOk X.prog X.w X.K X.mg X.base CX0 k f fd ps spKey) (hb : Binds X.K fd ps []) (hr : Room k X.A.in1.in1)
    (I : Inv X pins σ H s) (fa : ∀ H' : Hp, H' a = none → FpOk X pins H' a) (fk : ∀ H' : Hp, H' kS = none → FpOk X pins H' kS) (hka : kS ≠ a) (ha0 : H a = none) (hk0 : H kS = none)
    (ha : s.heap.get? a = some (seqObj "list" #[] e1)) (hk : s.heap.get? kS = some (seqObj "list" #[] 0)) (rv : Vals (ns.map V.str) its) (hn : ns.length ≤ 1000) (hx : ∀ x ∈ ns, x.length ≤ 1000)
    (h : ∀ (s' : Shared) (H' : Hp) (ns' : List Str) (out : List Value) (c : Nat), Inv X pins σ H' s' → Same H H' → H' a = none → s'.heap.get? a = some (seqObj "list" (List.toArray out) c) → Vals (ns'.map V.str) out → ns'.Perm ns → ns'.Pairwise NLe → P (.done (.ret .none)) s') :
    wpAny (model X.prog X.w) X.A.in1.in1 (ksk_rest a (.ref f) false its.toArray e1 (.ref kS)) P E s := by
  have hlen : its.length = ns.length := by rw [← rv.length, List.length_map]
  unfold ksk_rest
  refine wpAny_bind (wpAny_rule ?_)
  first
    | rw [List.forIn_toArray]
    | (rw [← Array.forIn_toList]; simp only [List.toList_toArray])
    | rw [← Array.forIn_toList]
  have notcell : ∀ (xs : Array Value) (n : Nat) (v : Option Value), (seqObj "list" xs n).data ≠ .cell v := fun xs n v q => by cases q
  refine wpAny_bind (ksk_fold (fun i s' => ∃ H' kA e ks, Inv X (pins ++ [(kS, seqObj "list" kA e), (a, seqObj "list" #[] e1)]) σ H' s' ∧ Same H H' ∧ H' a = none ∧ H' kS = none ∧ Keyd H' ks (ns.take i) ∧ Vals ks kA.toList) its 0 s
    ⟨H, #[], 0, [], I.pins_of fun p hp => ?_, Same.refl _, ha0, hk0, .nil, .nil⟩ ?step ?done)
  · rcases List.mem_append.mp hp with hp | hp
    · exact I.pin p (List.mem_append_right _ hp)
    · rcases List.mem_cons.mp hp with hp | hp
      · rw [hp]
        exact ⟨hk, hk0, (fk H hk0).2.1, (fk H hk0).2.2.1, notcell _ _⟩
      · rw [List.mem_singleton.mp hp]
        exact ⟨ha, ha0, (fa H ha0).2.1, (fa H ha0).2.2.1, notcell _ _⟩
  case step =>
    rintro j u s' hu ⟨H', kA, e, ks, I', sm, na, nk0, kd, rk⟩
    simp only [Nat.zero_add] at kd ⊢
    obtain ⟨x, hxj, rx⟩ := vals_at rv hu
    rw [List.getElem?_map] at hxj
    obtain ⟨nm, hnm, rfl⟩ : ∃ nm, ns[j]? = some nm ∧ x = V.str nm := by
      cases q : ns[j]? with
      | none => rw [q] at hxj; cases hxj
      | some nm => rw [q] at hxj; cases hxj; exact ⟨nm, rfl, rfl⟩
    have hjl : j < ns.length := (List.getElem?_eq_some_iff.mp hnm).1
    have hkz : kA.size ≤ 1000 := by
      have h3 : kA.size = (ns.take j).length := by rw [← Array.length_toList, ← rk.length, Paired.length kd]
      rw [h3, List.length_take]
      omega
    have hsp : spKey [.str nm] H' (fun v H2 => ∃ t, v = .ref t ∧ H' t = none ∧ H2 = upd H' t (.tup [.int nm.length, .str nm])) E0 := ⟨nm, rfl, hx nm (List.mem_of_getElem? hnm), fun t ht => ⟨t, rfl, ht, rfl⟩⟩
    have hpl : 1 = ps.length := F.len _ _ _ _ hsp
    refine wpAny_bind (wpAny_attempt (wpAny_call (codeAny_mono (F.run X.A.in1.in1 X.stack s' H' ⟨[u], []⟩ [u] [.str nm] (fun v H2 => ∃ t, v = .ref t ∧ H' t = none ∧ H2 = upd H' t (.tup [.int nm.length, .str nm])) E0 hr I'.env0.in1.in1 (hb s' [u] I'.kIn hpl) (.cons rx .nil) hsp) fun r s'' hq => ?_)))
    cases r with
    | error er => exact hq.elim
    | ok fl =>
      cases fl with
      | next => exact hq.elim
      | brk => exact hq.elim
      | cont => exact hq.elim
      | ret w =>
        obtain ⟨v, H2, I2, rvw, t, rfl, ht, rfl⟩ := I'.after hq
        obtain rfl := rvw
        try dsimp only
        have pk := I2.pin (kS, seqObj "list" kA e) (List.mem_append_right _ (List.mem_append_right _ List.mem_cons_self))
        have pa := I2.pin (a, seqObj "list" #[] e1) (List.mem_append_right _ (List.mem_append_right _ (List.mem_cons_of_mem _ List.mem_cons_self)))
        refine wpAny_bind (listUpdate_at pk.1 rfl ?_ (by rw [sizeLine_eq]; omega) (Nat.le_trans (Nat.le_of_eq (Array.size_push ..)) (by rw [sizeLine_eq]; omega)))
        have s1 := Heap.SameBut.update s''.heap kS (Obj.mapSeq (·.push (Value.ref t)))
        obtain ⟨c2, hc2⟩ : ∃ c2, (s''.heap.update kS (Obj.mapSeq (·.push (Value.ref t)))).get? kS = some (seqObj "list" (kA.push (.ref t)) c2) := ⟨_, get?_update_seq pk.1 (·.push (Value.ref t))⟩
        have I3 : Inv X pins σ (upd H' t (.tup [.int nm.length, .str nm])) s'' := I2.pins_of fun p hp => I2.pin p (List.mem_append_right _ (List.mem_append_left _ hp))
        have nk2 : (upd H' t (.tup [.int nm.length, .str nm])) kS = none := pk.2.1
        have na2 : (upd H' t (.tup [.int nm.length, .str nm])) a = none := pa.2.1
        have f1 := fk _ nk2
        have I4 := I3.turned (t' := s''.toks) (it := kS) (fun b o hb q => (s1.2 b hb).trans q) nk2 f1.2.1 f1.2.2.2.1 f1.2.2.2.2.1 f1.2.2.2.2.2
        have sm2 : Same H' (upd H' t (.tup [.int nm.length, .str nm])) := fun b o q => by rw [upd_ne (ne_of_none q ht)]; exact q
        have et : ns.take (j + 1) = ns.take j ++ [nm] := by rw [List.take_add_one, hnm]; rfl
        refine wpAny_pure ⟨rfl, _, kA.push (.ref t), c2, ks ++ [.ref t], I4.pins_of (fun p hp => ?_), sm.trans sm2, na2, nk2, by rw [et]; exact (kd.mono sm2).snoc upd_same, by rw [Array.toList_push]; exact rk.append (.cons rfl .nil)⟩
        rcases List.mem_append.mp hp with hp | hp
        · exact I4.pin p (List.mem_append_right _ hp)
        · rcases List.mem_cons.mp hp with hp | hp
          · rw [hp]
            exact ⟨hc2, nk2, f1.2.1, f1.2.2.1, notcell _ _⟩
          · rw [List.mem_singleton.mp hp]
            exact ⟨(s1.2 a hka.symm).trans pa.1, na2, (fa _ na2).2.1, (fa _ na2).2.2.1, notcell _ _⟩
  case done =>
    rintro s' ⟨H', kA, e, ks, I', sm, na, nk0, kd, rk⟩
    rw [Nat.zero_add, hlen, List.take_length] at kd
    have pk := I'.pin (kS, seqObj "list" kA e) (List.mem_append_right _ (List.mem_append_right _ List.mem_cons_self))
    have pa := I'.pin (a, seqObj "list" #[] e1) (List.mem_append_right _ (List.mem_append_right _ (List.mem_cons_of_mem _ List.mem_cons_self)))
    try dsimp only
    refine wpAny_bind (listItems_at pk.1 rfl ?_)
    have I3 : Inv X pins σ H' s' := I'.pins_of fun p hp => I'.pin p (List.mem_append_right _ (List.mem_append_left _ hp))
    have kk := keyd_key I3.hok kd rk
    obtain ⟨ez, pok⟩ := pairs_ok kk rv
    obtain ⟨fs, tfs, lfs⟩ := tups_of kk
    have lkA : kA.toList.length = its.length := by
      rw [← rk.length, Paired.length kd, hlen]
    have hks : kA.size = its.length := by rw [← Array.length_toList]; exact lkA
    have zl : (kA.zip its.toArray).toList = kA.toList.zip its := by rw [ksk_zip]
    have hzs : (kA.zip its.toArray).size = its.length := by rw [Array.size_zip, hks, List.size_toArray, Nat.min_self]
    -- the end, whatever the sort did
    have tail : ∀ (st : SortSt), (arrOf st).Perm (kA.zip its.toArray) → SortedToK (G.tupKindC s'.heap shp) (arrOf st) (arrOf st).size → failedOf st = none → wpAny (model X.prog X.w) X.A.in1.in1 (ksk_tail a false e1 (.ref kS) st) P E s' := by
      intro st hp hs hf
      have hsz : (arrOf st).size = its.length := by rw [hp.size_eq, hzs]
      have lp : (arrOf st).toList.Perm (kA.toList.zip its) := by rw [← zl]; exact Array.perm_iff_toList_perm.mp hp
      have pok2 : ∀ p ∈ (arrOf st).toList, PairOk s'.heap p := fun p hp2 => pok p (lp.mem_iff.mp hp2)
      unfold ksk_tail
      try dsimp only
      refine wpAny_bind (listUpdate_at pk.1 rfl ?_ (by rw [hks, sizeLine_eq]; omega) (Nat.zero_le _))
      have s1 := Heap.SameBut.update s'.heap kS (Obj.mapSeq fun _ => (#[] : Array Value))
      have na1 : (s'.heap.update kS (Obj.mapSeq fun _ => (#[] : Array Value))).get? a = some (seqObj "list" #[] e1) := (s1.2 a hka.symm).trans pa.1
      refine wpAny_bind (wpAny_letGo ?_)
      refine wpAny_bind (seqEpoch_at na1 rfl ?_)
      have hout : ((arrOf st).map (·.2)).size = its.length := by rw [Array.size_map]; exact hsz
      refine wpAny_bind (listUpdate_at na1 rfl ?_ (Nat.zero_le _) (by show ((arrOf st).map (·.2)).size ≤ _; rw [hout, sizeLine_eq]; omega))
      have s2 := Heap.SameBut.update (s'.heap.update kS (Obj.mapSeq fun _ => (#[] : Array Value))) a (Obj.mapSeq fun _ => (arrOf st).map (·.2))
      obtain ⟨c2, hc2⟩ : ∃ c2, ((s'.heap.update kS (Obj.mapSeq fun _ => (#[] : Array Value))).update a (Obj.mapSeq fun _ => (arrOf st).map (·.2))).get? a = some (seqObj "list" ((arrOf st).map (·.2)) c2) := ⟨_, get?_update_seq na1 fun _ => (arrOf st).map (·.2)⟩
      rw [hf]
      simp only [bne_self_eq_false, Bool.false_eq_true, if_false]
      have f1 := fk _ nk0
      have f2 := fa _ na
      have I4 := I3.turned (t' := s'.toks) (it := kS) (fun b o hb q => (s1.2 b hb).trans q) nk0 f1.2.1 f1.2.2.2.1 f1.2.2.2.2.1 f1.2.2.2.2.2
      have I5 := I4.turned (t' := s'.toks) (it := a) (fun b o hb q => (s2.2 b hb).trans q) na f2.2.1 f2.2.2.2.1 f2.2.2.2.2.1 f2.2.2.2.2.2
      refine wpAny_pure (h _ H' ((arrOf st).toList.map gN) ((arrOf st).toList.map (·.2)) c2 I5 sm na ?_ (vals_gN pok2) ?_ ?_)
      · rw [show (List.map (·.2) (arrOf st).toList).toArray = (arrOf st).map (·.2) by rw [← Array.toList_map, Array.toArray_toList]]
        exact hc2
      · rw [← ez]
        exact lp.map gN
      · rw [List.pairwise_iff_getElem]
        intro i j hi hj hij
        rw [List.length_map, Array.length_toList] at hi hj
        rw [List.getElem_map, List.getElem_map]
        have q := hs i j (Nat.le_of_lt hij) hj
        have kat : ∀ i (hi : i < (arrOf st).size), KK (G.tupKindC s'.heap shp) (arrOf st) i = nk (gN ((arrOf st).toList[i]'(by simpa using hi))) := fun i hi => by
          have hm : (arrOf st).toList[i]'(by simpa using hi) ∈ (arrOf st).toList := List.getElem_mem _
          obtain ⟨x, t, e1, e2⟩ := pok2 _ hm
          unfold KK
          rw [Array.getElem?_eq_getElem hi]
          have e3 : (arrOf st)[i] = (arrOf st).toList[i]'(by simpa using hi) := by simp
          rw [e3]
          show ((G.tupKeyC s'.heap shp _).getD _) = _
          rw [e2]
          show nk x = nk (gN _)
          have e4 : gN ((arrOf st).toList[i]'(by simpa using hi)) = x := by unfold gN; rw [e1]
          rw [e4]
        rw [kat i hi, kat j hj] at q
        exact q
    unfold ksk_end
    try dsimp only
    simp only [Bool.false_eq_true, if_false]
    by_cases h2 : its.toArray.size < 2
    · rw [if_pos h2, if_pos h2]
      refine wpAny_bind (wpAny_pure ?_)
      rw [StateT.run_pure]
      refine wpAny_bind (wpAny_pure ?_)
      try dsimp only
      refine tail (SortSt.mk' general' (kA.zip its.toArray) #[] 7 none) (Array.Perm.refl _) ?_ rfl
      intro i j hij hj
      have hj2 : j < (kA.zip its.toArray).size := hj
      rw [hzs] at hj2
      rw [List.size_toArray] at h2
      have : i = j := by omega
      subst this
      exact KeyOrd.kle_refl _
    · rw [if_neg h2, if_neg h2]
      rw [List.size_toArray] at h2
      have ekA : kA = kA.toList.toArray := by rw [Array.toArray_toList]
      rw [ekA]
      refine wpAny_bind (tup_kind (by rw [lfs, lkA]; omega) tfs ?_)
      rw [← ekA]
      have hkeys : KeysOf (G.tupKindC s'.heap shp) (kA.zip its.toArray) := fun p hp => by
        rw [zl] at hp
        obtain ⟨x, t, _, e2⟩ := pok p hp
        exact ⟨_, e2⟩
      refine wpAny_bind (wpAny_mono (G.wpS_sortRunsSt (κ := G.tupKindC s'.heap shp) (kd := tuples' true) (a₀ := kA.zip its.toArray) (st := SortSt.mk' (tuples' true) (kA.zip its.toArray) #[] 7 none)
        (Q := fun _ st' => (arrOf st').Perm (kA.zip its.toArray) ∧ failedOf st' = none ∧ SortedToK (G.tupKindC s'.heap shp) (arrOf st') (arrOf st').size)
        (G.tupC_ltAt (s := s') true (G.KeepsTups.refl _)) hkeys ⟨Array.Perm.refl _, rfl, rfl⟩ rfl (Stable.refl _) (by rw [hzs]; omega)
        fun st' a1 a2 a3 a4 => ⟨a1, a2, by rw [a1.size_eq]; exact a3⟩) ?_ fun _ _ e => e)
      rintro ⟨⟨⟩, st'⟩ s9 ⟨rfl, hp, hf, hs⟩
      try dsimp only
      exact tail st' hp hs hf
end
end SkX
end

section
set_option Elab.async false
set_option linter.all false
set_option maxRecDepth 100000
set_option maxHeartbeats 4000000
namespace SkX
open PySem PySem.Spec PyProof.Rows L2
section
variable {X : Cx} {k : Nat} {f : Addr} {fd : FuncData} {ps : List Str}
def rSortN (K : PySem.W.Frag) (f : Addr) : List V → List V → Hp → VK → Prop := fun vs zs H Q => ∃ (l : Addr) (ns : List Str), vs = [.ref l] ∧ zs = [.ref f] ∧ SqL K H l (ns.map V.str) ∧ ns.length ≤ 1000 ∧ (∀ x ∈ ns, x.length ≤ 1000) ∧
  ∀ (H' : Hp) (a : Addr) (ns' : List Str), Same H H' → H' a = none → ns'.Perm ns → ns'.Pairwise NLe → Q (.ref a) (upd H' a (.lst (ns'.map V.str)))
/-- sorted(names, key=f) -/
theorem cr_sortedNames (F : FnOk X.prog X.w X.K X.mg X.base CX0 k f fd ps spKey) (hb : Binds X.K fd ps []) (hr : Room (k + 2) X.A) : CallRK X (.builtin "sorted") [Str.ofString "key"] (rSortN X.K f) := by
  intro pins s σ H vs zs us ws Q I r rz h
  obtain ⟨l, ns, rfl, rfl, hs, hn, hx, q⟩ := h
  obtain rfl := Vals.ref1 r
  obtain rfl := Vals.ref1 rz
  obtain ⟨its, rv, pl, hz⟩ := I.list hs
  have hlen : its.length = ns.length := by rw [← rv.length, List.length_map]
  have hr2 : Room k X.A.in1.in1 := hr.in1.in1
  show wpAny _ _ (call (.builtin "sorted") [.ref l] [(Str.ofString "key", .ref f)]) _ _ _
  refine call_function_entry_kw kind_sorted plain_sorted entry_sorted (ksk_s1 _ _) ?_
  unfold Builtin.«sorted»
  refine wpAny_bind (m := checkCount "sorted" 1 1 _) (wpAny_pure ?_)
  refine wpAny_bind (collect_list pl.isList ?_ (by rw [sizeLine_eq]; omega))
  refine wpAny_bind (wpAny_newList ?_ (by rw [sizeLine_eq]; omega))
  have hsz : ((s.heap.push (seqObj "list" #[] 0)).update s.heap.objs.size (Obj.mapSeq (· ++ its.toArray))).objs.size = s.heap.objs.size + 1 := by
    rw [Heap.size_update, size_push']
  have hoL : (((s.heap.push (seqObj "list" #[] 0)).update s.heap.objs.size (Obj.mapSeq (· ++ its.toArray))).push (seqObj "list" its.toArray 0)).get? (s.heap.objs.size + 1) = some (seqObj "list" its.toArray 0) := by
    rw [← hsz]; exact Heap.get?_push_size _ rfl
  have keep : ∀ b o, s.heap.get? b = some o → (((s.heap.push (seqObj "list" #[] 0)).update s.heap.objs.size (Obj.mapSeq (· ++ its.toArray))).push (seqObj "list" its.toArray 0)).get? b = some o := fun b o q => by
    have hlt : b < s.heap.objs.size := Heap.lt_size q
    rw [Heap.get?_push_ne _ _ _ (by rw [hsz]; exact Nat.ne_of_lt (Nat.lt_succ_of_lt hlt)), Heap.get?_update_ne _ _ _ _ (Nat.ne_of_lt hlt), Heap.get?_push_ne _ _ _ (Nat.ne_of_lt hlt)]
    exact q
  show wpAny _ _ _ _ _ { s with heap := ((s.heap.push (seqObj "list" #[] 0)).update s.heap.objs.size (Obj.mapSeq (· ++ its.toArray))).push (seqObj "list" its.toArray 0) }
  rw [hsz]
  have hh1 : (((s.heap.push (seqObj "list" #[] 0)).update s.heap.objs.size (Obj.mapSeq (· ++ its.toArray))).push (seqObj "list" its.toArray 0)).objs.size = s.heap.objs.size + 2 := by rw [size_push', hsz]
  generalize ((s.heap.push (seqObj "list" #[] 0)).update s.heap.objs.size (Obj.mapSeq (· ++ its.toArray))).push (seqObj "list" its.toArray 0) = h1 at hoL keep hh1 ⊢
  have I1 : Inv X pins σ H ({ s with heap := h1 } : Shared) := I.kept (t' := s.toks) keep
  have ha0 : H (s.heap.objs.size + 1) = none := I.hok.fresh (Nat.le_succ _)
  have fa : ∀ H' : Hp, H' (s.heap.objs.size + 1) = none → FpOk X pins H' (s.heap.objs.size + 1) := fun H' e => I.fpOk (Nat.le_succ _) e
  refine wpAny_bind (wpAny_holding (wpAny_call_entry_kw slot_list_sort ⟨_, hoL, rfl⟩ entry_list_sort ?body (ksk_l1 _ _)))
  case body =>
    show wpAny (model X.prog X.w) X.A.in1.in1 (Builtin.«list.sort» ⟨[.ref (s.heap.objs.size + 1)], [(Str.ofString "key", .ref f)]⟩) _ _ _
    rw [ksk_t1]
    unfold ksk_tree
    generalize hae : s.heap.objs.size + 1 = a at hoL ha0 fa ⊢
    have s1 := Heap.SameBut.update h1 a (Obj.mapSeq fun _ => (#[] : Array Value))
    obtain ⟨e1, ho1⟩ : ∃ e1, (h1.update a (Obj.mapSeq fun _ => (#[] : Array Value))).get? a = some (seqObj "list" #[] e1) := ⟨_, get?_update_seq hoL fun _ => #[]⟩
    refine wpAny_bind (listItems_at hoL rfl ?_)
    refine wpAny_bind (listUpdate_at hoL rfl ?_ (by rw [List.size_toArray, sizeLine_eq]; omega) (Nat.zero_le _))
    refine wpAny_bind (seqEpoch_at ho1 rfl ?_)
    refine wpAny_bind (wpAny_newTuple ?_ (by show its.length ≤ _; rw [sizeLine_eq]; omega))
    refine wpAny_bind (wpAny_newList ?_ (Nat.zero_le _))
    refine wpAny_holding ?_
    have f1 := fa H ha0
    have I2 := I1.turned (t' := s.toks) (it := a) (fun b o hb q => (s1.2 b hb).trans q) ha0 f1.2.1 f1.2.2.2.1 f1.2.2.2.2.1 f1.2.2.2.2.2
    have hkS : ((h1.update a (Obj.mapSeq fun _ => (#[] : Array Value))).push (seqObj "tuple" its.toArray 0)).objs.size = s.heap.objs.size + 3 := by rw [size_push', Heap.size_update, hh1]
    have I3 := I2.kept (t' := s.toks) (h' := ((h1.update a (Obj.mapSeq fun _ => (#[] : Array Value))).push (seqObj "tuple" its.toArray 0)).push (seqObj "list" #[] 0)) fun b o q => Heap.get?_push_of_some _ (Heap.get?_push_of_some _ q)
    show wpAny _ _ (ksk_rest a (.ref f) false its.toArray e1 (.ref ((h1.update a (Obj.mapSeq fun _ => (#[] : Array Value))).push (seqObj "tuple" its.toArray 0)).objs.size)) _ _ { s with heap := ((h1.update a (Obj.mapSeq fun _ => (#[] : Array Value))).push (seqObj "tuple" its.toArray 0)).push (seqObj "list" #[] 0) }
    refine key_rest F hb hr2 I3 fa (fun H' e => I.fpOk (by rw [hkS]; omega) e) (by rw [hkS, ← hae]; exact fun z => absurd (show s.heap.objs.size + 3 = s.heap.objs.size + 1 from z) (by omega)) ha0 (I.hok.fresh (by rw [hkS]; omega)) (Heap.get?_push_of_some _ (Heap.get?_push_of_some _ ho1)) (Heap.get?_push_size _ rfl) rv hn hx fun s' H' ns' out c I' sm na ho' rv' hp ho => ⟨_, rfl, ?_⟩
    refine wpAny_pure ⟨_, rfl, .ref a, _, adopt I' (fa H' na) rv' (by rw [List.length_map, hp.length_eq]; exact Nat.le_trans hn (by decide)) ho', rfl, ?_⟩
    exact q H' a ns' sm na hp ho
end
end SkX
end

section
set_option Elab.async false
set_option linter.all false
set_option maxRecDepth 100000
set_option maxHeartbeats 4000000
/-! list(zip(xs, ys)) -/
namespace ZlX
open PySem PySem.Spec PyProof.Rows L2 SkX
theorem zip_no_len : typeLookup (.type "zip") "__len__" = pure none := am_miss_of_fast (by decide +kernel)
theorem zip_no_hint : typeLookup (.type "zip") "__length_hint__" = pure none := am_miss_of_fast (by decide +kernel)
/-- the tuples so far -/
def Tps (H : Hp) (ts : List Addr) (ps : List (V × V)) : Prop := Paired (fun (t : Addr) (q : V × V) => H t = some (.tup [q.1, q.2])) ts ps
theorem Tps.mono {H H' : Hp} {ts : List Addr} {ps : List (V × V)} (h : Tps H ts ps) (s : Same H H') : Tps H' ts ps := Paired.mapP h fun _ _ e => s _ _ e
theorem Tps.snoc {H : Hp} {ts : List Addr} {ps : List (V × V)} {t : Addr} {q : V × V} : Tps H ts ps → H t = some (.tup [q.1, q.2]) → Tps H (ts ++ [t]) (ps ++ [q])
  | .nil, h => .cons h .nil
  | .cons r k, h => .cons r (Tps.snoc k h)
section
variable {X : Cx} {pins : List (Addr × Obj)} {σ : L2.St} {z TI TO i1 i2 a b S : Addr} {xs ys : List V} {R : Result → Shared → Prop} {A : Around}
theorem zl_loop (hh : A.handled = none) (D : ZipApart z TI TO i1 i2 a b) (fz : ∀ c ∈ [z, TI, TO, i1, i2], ∀ H' : Hp, H' c = none → FpOk X pins H' c) (fS : ∀ H' : Hp, H' S = none → FpOk X pins H' S) (hSz : ∀ c ∈ [z, TI, TO, i1, i2], c ≠ S) (hl : xs.length ≤ 1000) {H0 : Hp}
    (hR : ∀ s' H' ts acc c, Inv X pins σ H' s' → Same H0 H' → H' S = none → s'.heap.get? S = some { cls := .type "list", dict := none, data := .seq acc c, slots := #[] } → Vals (ts.map V.ref) acc.toList → Tps H' ts (xs.zip ys) → R (.ok (.ret .none)) s') :
    ∀ (r i : Nat) (s : Shared) (H : Hp) (ts : List Addr) (acc : Array Value) (c : Nat), i + r = min xs.length ys.length → Inv X pins σ H s → Same H0 H → SqL X.K H a xs → SqL X.K H b ys → (∀ c ∈ [z, TI, TO, i1, i2], H c = none) → H S = none →
      IsPair s.heap TI (.ref i1) (.ref i2) → (∃ x y, IsPair s.heap TO x y) → s.heap.IsListIter i1 a i → s.heap.IsListIter i2 b i → (IsZip s.heap z TI TO .none ∨ ∃ T f oT, IsZipHeld s.heap z TI TO T f ∧ s.heap.get? T = some oT ∧ T ≠ z ∧ T ≠ i1 ∧ T ≠ i2 ∧ T ≠ S) →
      s.heap.get? S = some { cls := .type "list", dict := none, data := .seq acc c, slots := #[] } → Vals (ts.map V.ref) acc.toList → Tps H ts ((xs.zip ys).take i) →
      codeAny (model X.prog X.w) A (.builtin "list.extend.loop" ⟨[.ref S, .ref z, .none], []⟩) R s := by
  intro r
  induction r with
  | zero =>
    intro i s H ts acc c hi I sm sa sb hn hS0 hTI hTO h1 h2 hz hS rv tp
    obtain ⟨its, rx, p, _⟩ := I.list sa
    obtain ⟨its2, ry, p2, _⟩ := I.list sb
    have l1 := rx.length
    have l2 := ry.length
    have hend : its.toArray[i]? = none ∨ its2.toArray[i]? = none := by
      rcases Nat.le_total xs.length ys.length with h | h
      · exact .inl (by simp; omega)
      · exact .inr (by simp; omega)
    have hS9 : ∀ h' : Heap, (∀ c o, c ≠ z → c ≠ TO → c ≠ i1 → c ≠ i2 → s.heap.get? c = some o → h'.get? c = some o) → Inv X pins σ H ({ s with heap := h' } : Shared) ∧ h'.get? S = some { cls := .type "list", dict := none, data := .seq acc c, slots := #[] } := fun h' hk =>
      ⟨I.turnedL (t' := s.toks) (ch := [z, TI, TO, i1, i2]) (fun c o hb q => hk c o (fun q' => hb (by simp [q'])) (fun q' => hb (by simp [q'])) (fun q' => hb (by simp [q'])) (fun q' => hb (by simp [q'])) q) fun c hc => fz c hc H (hn c hc),
       hk S _ (fun q => hSz z (by simp) q.symm) (fun q => hSz TO (by simp) q.symm) (fun q => hSz i1 (by simp) q.symm) (fun q => hSz i2 (by simp) q.symm) hS⟩
    have tp2 : Tps H ts (xs.zip ys) := by
      have e : (xs.zip ys).take i = xs.zip ys := List.take_of_length_le (by rw [List.length_zip]; omega)
      rw [e] at tp
      exact tp
    refine codeAny_builtin F.entry_extend_loop ?_
    rw [Around.under_plainId F.plain_extend_loop _]
    show wpAny _ A.in1 (pyNext (.ref z) >>= _) _ _ s
    rcases hz with hz | ⟨T, f, oT, hz, hT, t1, t2, t3, t4⟩
    · obtain ⟨x0, y0, hTO⟩ := hTO
      refine wpAny_bind (wpAny_pyNext_zip_end hh D hz hTI hTO h1 h2 p.isList p2.isList hend fun h' hk => ?_)
      obtain ⟨I2, hS2⟩ := hS9 h' hk
      exact wpAny_pure (hR _ H ts acc c I2 sm hS0 hS2 rv tp2)
    · refine wpAny_bind (wpAny_pyNext_zip_end_held hh D hz hT hTI h1 h2 p.isList p2.isList hend fun h' hk => ?_)
      obtain ⟨I2, hS2⟩ := hS9 h' (fun c o q1 _ q3 q4 q => hk c o q1 q3 q4 q)
      exact wpAny_pure (hR _ H ts acc c I2 sm hS0 hS2 rv tp2)
  | succ r ih =>
    intro i s H ts acc c hi I sm sa sb hn hS0 hTI hTO h1 h2 hz hS rv tp
    obtain ⟨its, rx, p, _⟩ := I.list sa
    obtain ⟨its2, ry, p2, _⟩ := I.list sb
    have l1 := rx.length
    have l2 := ry.length
    have hix : i < xs.length := by omega
    have hiy : i < ys.length := by omega
    obtain ⟨x, hx⟩ : ∃ x, xs[i]? = some x := ⟨_, List.getElem?_eq_getElem hix⟩
    obtain ⟨y, hy⟩ : ∃ y, ys[i]? = some y := ⟨_, List.getElem?_eq_getElem hiy⟩
    obtain ⟨u, hu, ru⟩ := rx.get hx
    obtain ⟨u2, hu2, ru2⟩ := ry.get hy
    have tl := Paired.length tp
    rw [List.length_take, List.length_zip] at tl
    have al : acc.size = ts.length := by rw [← Array.length_toList, ← rv.length, List.length_map]
    have hpl : s.heap.objs.size ≠ S := Nat.ne_of_gt (Heap.lt_size hS)
    -- behind the item
    have fin : ∀ h' : Heap, h'.objs.size = s.heap.objs.size + 1 → IsPair h' s.heap.objs.size u u2 → (∃ x y, IsPair h' TO x y) → h'.IsListIter i1 a (i + 1) → h'.IsListIter i2 b (i + 1) → (∃ T f oT, IsZipHeld h' z TI TO T f ∧ h'.get? T = some oT ∧ T ≠ z ∧ T ≠ i1 ∧ T ≠ i2 ∧ T ≠ S) →
        (∀ c o, c ≠ z → c ≠ TO → c ≠ i1 → c ≠ i2 → s.heap.get? c = some o → h'.get? c = some o) →
        wpAny (model X.prog X.w) A.in1 (updateSeq S (·.push (.ref s.heap.objs.size)) >>= fun _ => again (.builtin "list.extend.loop" ⟨[.ref S, .ref z, .none], []⟩))
          (fun fin s' => match fin with | .done f => R (.ok f) s' | .again c' => c'.quiet = true ∧ codeAny (model X.prog X.w) A c' R s') (fun e s' => R (.error e) s') ({ s with heap := h' } : Shared) := by
      intro h' hsz hT hTO' h1' h2' hz' hk
      have new : ObjOk X.prog X.w (upd H s.heap.objs.size (.tup [x, y])) h' s.heap.objs.size (.tup [x, y]) :=
        ⟨by show 2 ≤ sizeLine; decide, [u, u2], .cons ru (.cons ru2 .nil), ⟨_, hT, rfl, _, rfl⟩⟩
      have I1 : Inv X pins σ (upd H s.heap.objs.size (.tup [x, y])) { s with heap := h' } :=
        I.turnedNew (t' := s.toks) (ch := [z, TI, TO, i1, i2]) (fun c o hb q => hk c o (fun q' => hb (by simp [q'])) (fun q' => hb (by simp [q'])) (fun q' => hb (by simp [q'])) (fun q' => hb (by simp [q'])) q) (fun c hc => fz c hc H (hn c hc)) (Nat.le_refl _) new
      have hfr : H s.heap.objs.size = none := I.hok.fresh (Nat.le_refl _)
      have sm2 : Same H (upd H s.heap.objs.size (.tup [x, y])) := fun c o q => by rw [upd_ne (ne_of_none q hfr)]; exact q
      have hS' : h'.get? S = some { cls := .type "list", dict := none, data := .seq acc c, slots := #[] } := hk S _ (fun q => hSz z (by simp) q.symm) (fun q => hSz TO (by simp) q.symm) (fun q => hSz i1 (by simp) q.symm) (fun q => hSz i2 (by simp) q.symm) hS
      have s1 := Heap.SameBut.update h' S (Obj.mapSeq (·.push (Value.ref s.heap.objs.size)))
      have nS2 : (upd H s.heap.objs.size (.tup [x, y])) S = none := by rw [upd_ne hpl.symm]; exact hS0
      have f1 := fS _ nS2
      have I2 := I1.turned (t' := s.toks) (it := S) (fun b o hb q => (s1.2 b hb).trans q) nS2 f1.2.1 f1.2.2.2.1 f1.2.2.2.2.1 f1.2.2.2.2.2
      have lt5 : ∀ c ∈ [z, TI, TO, i1, i2], c ≠ s.heap.objs.size := fun c hc => by
        have hlt : c < s.heap.objs.size := by
          have e' : c = z ∨ c = TI ∨ c = TO ∨ c = i1 ∨ c = i2 := by simpa using hc
          rcases e' with q | q | q | q | q
          · rw [q]
            rcases hz with hz | ⟨_, _, _, hz, _⟩
            · exact Heap.lt_size hz
            · exact Heap.lt_size hz
          · rw [q]; exact Heap.lt_size hTI
          · rw [q]; obtain ⟨_, _, e⟩ := hTO; exact Heap.lt_size e
          · rw [q]; obtain ⟨_, e1, _⟩ := h1; exact Heap.lt_size e1
          · rw [q]; obtain ⟨_, e2, _⟩ := h2; exact Heap.lt_size e2
        exact Nat.ne_of_lt hlt
      have et : (xs.zip ys).take (i + 1) = (xs.zip ys).take i ++ [(x, y)] := by
        rw [List.take_add_one]
        have : (xs.zip ys)[i]? = some (x, y) := by rw [List.getElem?_zip_eq_some]; exact ⟨hx, hy⟩
        rw [this]; rfl
      refine wpAny_bind ?_
      refine wpAny_updateSeq hS' rfl (wpAny_pure ⟨plainId_quiet F.plain_extend_loop _, ih (i + 1) _ _ (ts ++ [s.heap.objs.size]) (acc.push (.ref s.heap.objs.size)) _ (by omega) I2 (sm.trans sm2) (sm2.seq sa) (sm2.seq sb) (fun c hc => by rw [upd_ne (lt5 c hc)]; exact hn c hc) nS2 ?_ ?_ ?_ ?_ (.inr ?_) (Heap.get?_update_self _ hS' rfl) (by rw [Array.toList_push, List.map_append]; exact rv.append (.cons rfl .nil)) (by rw [et]; exact (tp.mono sm2).snoc upd_same)⟩) (by rw [al]; omega) (by show (acc.push _).size ≤ sizeLine + 1; rw [Array.size_push, al]; have := sizeLine_eq; omega)
      · exact (s1.2 _ (hSz TI (by simp))).trans (hk _ _ D.TIz D.TITO D.TIi1 D.TIi2 hTI)
      · obtain ⟨x0, y0, e⟩ := hTO'
        exact ⟨x0, y0, (s1.2 _ (hSz TO (by simp))).trans e⟩
      · exact h1'.at fun o q => (s1.2 _ (hSz i1 (by simp))).trans q
      · exact h2'.at fun o q => (s1.2 _ (hSz i2 (by simp))).trans q
      · obtain ⟨T, f, oT, q1, q2, q3, q4, q5, q6⟩ := hz'
        exact ⟨T, f, oT, (s1.2 _ (hSz z (by simp))).trans q1, (s1.2 _ q6).trans q2, q3, q4, q5, q6⟩
    refine codeAny_builtin F.entry_extend_loop ?_
    rw [Around.under_plainId F.plain_extend_loop _]
    show wpAny _ A.in1 (pyNext (.ref z) >>= _) _ _ s
    have n1 : s.heap.objs.size ≠ i1 := let ⟨_, e, _⟩ := h1; Nat.ne_of_gt (Heap.lt_size e)
    have n2 : s.heap.objs.size ≠ i2 := let ⟨_, e, _⟩ := h2; Nat.ne_of_gt (Heap.lt_size e)
    rcases hz with hz | ⟨T, f, oT, hz, hT, t1, t2, t3, t4⟩
    · obtain ⟨x0, y0, hTO⟩ := hTO
      refine wpAny_bind (wpAny_pyNext_zip_item D hz hTI hTO h1 h2 p.isList p2.isList (x := u) (y := u2) (by simpa using hu) (by simpa using hu2) fun h' z' TO' h1' h2' hT hsz hk => ?_)
      exact fin h' hsz hT ⟨_, _, TO'⟩ h1' h2' ⟨s.heap.objs.size, false, _, z', hT, Nat.ne_of_gt (Heap.lt_size hz), n1, n2, hpl⟩ hk
    · refine wpAny_bind (wpAny_pyNext_zip_item_held D hz hT hTI h1 h2 p.isList p2.isList (x := u) (y := u2) (by simpa using hu) (by simpa using hu2) fun h' z' h1' h2' hT' hsz hk => ?_)
      obtain ⟨x0, y0, hTO⟩ := hTO
      exact fin h' hsz hT' ⟨_, _, hk _ _ D.TOz D.TOi1 D.TOi2 hTO⟩ h1' h2' ⟨T, true, oT, z', hk _ _ t1 t2 t3 hT, t1, t2, t3, t4⟩ fun c o q1 _ q3 q4 q => hk c o q1 q3 q4 q
end

/-- list(zip(xs, ys)): a new list of new pairs -/
def tListZip (K : PySem.W.Frag) (ta : TA) : TE := fun σ H Q => ta σ H fun vs H1 => ∃ (a b : Addr) (xs ys : List V), vs = [.ref a, .ref b] ∧ SqL K H1 a xs ∧ SqL K H1 b ys ∧ xs.length ≤ 1000 ∧
  ∀ (H2 : Hp) (S : Addr) (ts : List Addr), Same H1 H2 → H2 S = some (.lst (ts.map V.ref)) → Tps H2 ts (xs.zip ys) → Q (.ref S) H2
theorem pe_listZip {X : Cx} {e1 e2 : Expr} {ta : TA} {p p2 pos pos2 : Pos} (hc : X.calm = true) (hg : Gl X "list") (hm : X.mg "list" = none) (hgz : Gl X "zip") (hmz : X.mg "zip" = none) (ha : PA X [e1, e2] ta)
    (hs : starEach [e1, e2] X.env = (false, eval e1 X.env) :: starEach [e2] X.env := by rfl) (hpl : (backTo pos2 (starEach [e2] X.env)).any (·.1) = false := by rfl)
    (he : starEach [.Call (.Name "zip" p2) [e1, e2] [] pos2] X.env = (false, eval (.Call (.Name "zip" p2) [e1, e2] [] pos2) X.env) :: starEach [] X.env := by rfl) :
    PE X (.Call (.Name "list" p) [.Call (.Name "zip" p2) [e1, e2] [] pos2] [] pos) (tListZip X.K ta) := by
  refine ⟨fun pins s σ H Q I h => ?_⟩
  refine wpAny_Call_Name_kw (ld_blt I hg hm PyProof.Rows.boot_list ?_)
  refine PyProof.Rows.callWith_type1 ?_ he rfl
  rw [he]
  show wpAny _ _ (spliced ((false, eval (.Call (.Name "zip" p2) [e1, e2] [] pos2) X.env) :: backTo pos (starEach [] X.env))) _ _ s
  refine Calls.spliced_cons (Call_ (ld_blt I hgz hmz PyProof.Rows.boot_zip (PyProof.Rows.callWith_type1 (thn (ha.run pos2 pins s σ H _ I h) fun us s1 ⟨vs, H1, I1, r1, q1⟩ => ?_) hs hpl)))
  obtain ⟨a, b, xs, ys, ex, hqx, hqy, hl, q⟩ := q1
  subst ex
  cases r1 with
  | cons r rr =>
    cases rr with
    | cons r' rr =>
      cases rr
      cases r
      cases r'
      obtain ⟨its, rv, p1, _⟩ := I1.list hqx
      obtain ⟨its2, rv2, p2', _⟩ := I1.list hqy
      have la : a < s1.heap.objs.size := p1.lt
      have lb : b < s1.heap.objs.size := p2'.lt
      refine call_zip_2 p1.isList p2'.isList fun h' hz hTI hTO h1 h2 hsz hk => ?_
      refine Calls.spliced_nil ?_
      have hc0 : X.A.handled = none := I.ok.hd hc
      have I2 : Inv X pins σ H1 ({ s1 with heap := h' } : Shared) := I1.kept (t' := s1.toks) hk
      have D := PySem.W.ktu_apart s1.heap.objs.size a b la lb
      have five : ∀ c ∈ [s1.heap.objs.size + 4, s1.heap.objs.size + 2, s1.heap.objs.size + 3, s1.heap.objs.size, s1.heap.objs.size + 1], s1.heap.objs.size ≤ c ∧ c < h'.objs.size := fun c hcm => by
        have e' : c = s1.heap.objs.size + 4 ∨ c = s1.heap.objs.size + 2 ∨ c = s1.heap.objs.size + 3 ∨ c = s1.heap.objs.size ∨ c = s1.heap.objs.size + 1 := by simpa using hcm
        rw [hsz]
        have t : ∀ m : Nat, c = s1.heap.objs.size + m → m < 5 → s1.heap.objs.size ≤ c ∧ c < s1.heap.objs.size + 5 := fun m e hm => by
          rw [e]; exact ⟨Nat.le_add_right _ _, Nat.add_lt_add_left hm _⟩
        rcases e' with z | z | z | z | z
        · exact t 4 z (by decide)
        · exact t 2 z (by decide)
        · exact t 3 z (by decide)
        · exact t 0 z (by decide)
        · exact t 1 z (by decide)
      refine callType_codes (Q₁ := fun obj s₁ => obj = .ref h'.objs.size ∧ s₁ = ({ s1 with heap := h'.push { cls := .type "list", data := .seq #[] } } : Shared)) F.called_list (F.typeCall_list_1 _) F.entry_list_init
        (code_list_new _ ⟨rfl, rfl⟩) fun obj s₁ h₁ => ?_
      obtain ⟨rfl, rfl⟩ := h₁
      generalize hz5 : s1.heap.objs.size + 4 = z at *
      have hS : (h'.push { cls := .type "list", data := .seq #[] }).get? h'.objs.size = some { cls := .type "list", data := .seq #[] } := Heap.get?_push_size _ rfl
      refine ⟨⟨_, hS, rfl⟩, F.args_list_init_2 _ _, ?_⟩
      show wpAny _ X.A.in1.in1 (do let old ← Builtin.List.listItems (.ref h'.objs.size); Builtin.List.listUpdate (.ref h'.objs.size) (fun _ => #[]); letGo old.toList.reverse; Builtin.List.listExtendWith (.ref h'.objs.size) (.ref z) .none) _ _ _
      refine wpAny_bind ?_
      unfold Builtin.List.listItems
      refine wpAny_bind (wpAny_seqItems hS rfl (wpAny_pure ?_))
      show wpAny _ X.A.in1.in1 (updateSeq h'.objs.size (fun _ => #[]) >>= fun _ => letGo (#[] : Array Value).toList.reverse >>= fun _ => Builtin.List.listExtendWith (.ref h'.objs.size) (.ref z) .none) _ _ _
      refine wpAny_bind (wpAny_updateSeq hS rfl ?_)
      have hS2 := Heap.get?_update_self (Obj.mapSeq (fun _ => (#[] : Array Value))) hS rfl
      refine wpAny_bind (wpAny_letGo ?_)
      unfold Builtin.List.listExtendWith
      have up : ∀ (h : Heap) (f : Obj → Obj), (∀ b o, h'.get? b = some o → h.get? b = some o) → ∀ b o, h'.get? b = some o → (h.update h'.objs.size f).get? b = some o := fun h f q b o e =>
        (Heap.get?_update_other _ _ (Ne.symm (Nat.ne_of_lt (Heap.lt_size e)))).trans (q b o e)
      have k1 : ∀ b o, h'.get? b = some o → (h'.push { cls := .type "list", data := .seq #[] }).get? b = some o := fun b o e => Heap.get?_push_of_some _ e
      have k2 := up _ (Obj.mapSeq (fun _ => (#[] : Array Value))) k1
      have hzl : z < h'.objs.size := Heap.lt_size hz
      have hSz : h'.objs.size ≠ z := Nat.ne_of_gt hzl
      have tyz : ∀ {h : Heap} {s9 : Shared}, (∀ b o, h'.get? b = some o → h.get? b = some o) → s9.heap = h → s9.TypeIs (.ref z) "zip" := fun {h s9} q e => ⟨_, by rw [e]; exact q _ _ hz, rfl⟩
      refine wpAny_bind (wpAny_typeOf (tyz k2 rfl) ?_)
      have e1 : Builtin.List.listSameRef (.ref h'.objs.size) (.ref z) = false := by simp [Builtin.List.listSameRef, hSz]
      have e2 : (Value.type "zip" == Value.type "list") = false := by decide
      have e3 : (Value.type "zip" == Value.type "tuple") = false := by decide
      simp only [e1, e2, e3, Bool.or_false, Bool.false_eq_true, if_false]
      refine wpAny_bind (wpAny_pyIter_zip (k2 _ _ hz) ?_)
      refine wpAny_bind (wpAny_holding ?_)
      unfold Builtin.List.listLengthHint
      refine wpAny_bind (wpAny_specialOf (tyz k2 rfl) zip_no_len ?_)
      show wpAny _ X.A.in1.in1 (specialOf (Value.ref z) (Str.ofString "__length_hint__") >>= _) _ _ _
      refine wpAny_bind (wpAny_specialOf (tyz k2 rfl) zip_no_hint ?_)
      refine wpAny_pure ?_
      show wpAny _ X.A.in1.in1 (rule "list.extend.makes-room" >>= fun _ => Builtin.List.listTouch (.ref h'.objs.size) >>= fun _ =>
        again (.builtin "list.extend.loop" ⟨[.ref h'.objs.size, .ref z, .none], []⟩)) _ _ _
      refine wpAny_bind (wpAny_rule ?_)
      refine wpAny_bind ?_
      show wpAny _ X.A.in1.in1 (updateSeq h'.objs.size (·.push .none) >>= fun _ => updateSeq h'.objs.size (·.pop)) _ _ _
      refine wpAny_bind (wpAny_updateSeq hS2 rfl ?_)
      have hS3 := Heap.get?_update_self (Obj.mapSeq (·.push Value.none)) hS2 rfl
      refine wpAny_updateSeq (hz := by seq_fits) hS3 rfl ?_
      have hS4 := Heap.get?_update_self (Obj.mapSeq (·.pop)) hS3 rfl
      have k4 := up _ (Obj.mapSeq (·.pop)) (up _ (Obj.mapSeq (·.push Value.none)) k2)
      have I4 : Inv X pins σ H1 _ := I2.kept (t' := s1.toks) k4
      have nS : H1 h'.objs.size = none := I2.hok.fresh (Nat.le_refl _)
      have hsz1 : s1.heap.objs.size ≤ h'.objs.size := by rw [hsz]; exact Nat.le_add_right _ _
      refine wpAny_pure ⟨plainId_quiet F.plain_extend_loop _, ?_⟩
      refine zl_loop (X := X) (A := X.A.in1) (pins := pins) (σ := σ) (xs := xs) (ys := ys) (H0 := H1) hc0 D (fun c hcm H' e => I1.fpOk (five c hcm).1 e) (fun H' e => I1.fpOk hsz1 e) (fun c hcm => Nat.ne_of_lt (five c hcm).2) hl ?_ (min xs.length ys.length) 0 _ H1 [] #[] _ (Nat.zero_add _) I4 (Same.refl _) hqx hqy
        (fun c hcm => I1.hok.fresh (five c hcm).1) nS (k4 _ _ hTI) ⟨_, _, k4 _ _ hTO⟩ (h1.at fun o e => k4 _ o e) (h2.at fun o e => k4 _ o e) (.inl (k4 _ _ hz)) hS4 .nil .nil
      intro s' H' ts acc c I' sm nS' hS' rv' tp
      refine ⟨rfl, .ref h'.objs.size, upd H' h'.objs.size (.lst (ts.map V.ref)), ?_, rfl, ?_⟩
      · have hlen : (ts.map V.ref).length ≤ sizeLine := by
          rw [List.length_map, Paired.length tp, List.length_zip]
          exact Nat.le_trans (Nat.min_le_left _ _) (Nat.le_trans hl (by decide))
        exact adopt I' (I1.fpOk hsz1 nS') rv' hlen (by rw [hS'])
      · refine q _ _ ts (fun b o e => ?_) upd_same (tp.mono fun b o e => ?_)
        · rw [upd_ne (ne_of_none (sm b o e) nS')]; exact sm b o e
        · rw [upd_ne (ne_of_none e nS')]; exact e
end ZlX
end

section
set_option Elab.async false
set_option linter.all false
set_option maxRecDepth 100000
set_option maxHeartbeats 4000000
/-! the text of the program by places -/
namespace So
open PySem PySem.Spec PyProof.Rows L2
def topS (i : Nat) : Stmt := PySem.Challenge.pw_sortpost_k01_sort.main.body.getD i (.Pass ⟨0, 0, 0, 0⟩)
abbrev s_is_name : Stmt := topS 10
abbrev N_is_name : List Str := ["thing", "sign"]
theorem sc_is_name : FnScope ["thing", "sign"] ["thing"] (defScope s_is_name) := ⟨rfl, rfl, rfl, by decide +kernel, rfl, by decide +kernel, by decide +kernel⟩
def d_is_name : He.DefD := ⟨("is_name", none), "is_name", "is_name", defArgs s_is_name, defBody s_is_name, defScope s_is_name, [], []⟩
abbrev s_is_size : Stmt := topS 11
abbrev N_is_size : List Str := ["thing"]
theorem sc_is_size : FnScope ["thing"] ["thing"] (defScope s_is_size) := ⟨rfl, rfl, rfl, by decide +kernel, rfl, by decide +kernel, by decide +kernel⟩
def d_is_size : He.DefD := ⟨("is_size", none), "is_size", "is_size", defArgs s_is_size, defBody s_is_size, defScope s_is_size, [], []⟩
abbrev s_is_letter : Stmt := topS 12
abbrev N_is_letter : List Str := ["thing", "sender", "words", "size", "word"]
theorem sc_is_letter : FnScope ["thing", "sender", "words", "size", "word"] ["thing"] (defScope s_is_letter) := ⟨rfl, rfl, rfl, by decide +kernel, rfl, by decide +kernel, by decide +kernel⟩
def d_is_letter : He.DefD := ⟨("is_letter", none), "is_letter", "is_letter", defArgs s_is_letter, defBody s_is_letter, defScope s_is_letter, [], []⟩
abbrev s_name_key : Stmt := topS 13
abbrev N_name_key : List Str := ["name"]
theorem sc_name_key : FnScope ["name"] ["name"] (defScope s_name_key) := ⟨rfl, rfl, rfl, by decide +kernel, rfl, by decide +kernel, by decide +kernel⟩
def d_name_key : He.DefD := ⟨("name_key", none), "name_key", "name_key", defArgs s_name_key, defBody s_name_key, defScope s_name_key, [], []⟩
abbrev s_in_order : Stmt := topS 14
abbrev N_in_order : List Str := ["names"]
theorem sc_in_order : FnScope ["names"] ["names"] (defScope s_in_order) := ⟨rfl, rfl, rfl, by decide +kernel, rfl, by decide +kernel, by decide +kernel⟩
def d_in_order : He.DefD := ⟨("in_order", none), "in_order", "in_order", defArgs s_in_order, defBody s_in_order, defScope s_in_order, [], []⟩
abbrev s_Rule_init : Stmt := inClass (topS 23) 0
abbrev N_Rule_init : List Str := ["self", "words", "condition", "deeds"]
theorem sc_Rule_init : FnScope ["self", "words", "condition", "deeds"] ["self", "words", "condition", "deeds"] (defScope s_Rule_init) := ⟨rfl, rfl, rfl, by decide +kernel, rfl, by decide +kernel, by decide +kernel⟩
def d_Rule_init : He.DefD := ⟨("Rule", some "__init__"), "__init__", "Rule.__init__", defArgs s_Rule_init, defBody s_Rule_init, defScope s_Rule_init, [], []⟩
abbrev s_Reader_init : Stmt := inClass (topS 24) 0
abbrev N_Reader_init : List Str := ["self", "words", "row"]
theorem sc_Reader_init : FnScope ["self", "words", "row"] ["self", "words", "row"] (defScope s_Reader_init) := ⟨rfl, rfl, rfl, by decide +kernel, rfl, by decide +kernel, by decide +kernel⟩
def d_Reader_init : He.DefD := ⟨("Reader", some "__init__"), "__init__", "Reader.__init__", defArgs s_Reader_init, defBody s_Reader_init, defScope s_Reader_init, [], []⟩
abbrev s_Reader_fail : Stmt := inClass (topS 24) 1
abbrev N_Reader_fail : List Str := ["self"]
theorem sc_Reader_fail : FnScope ["self"] ["self"] (defScope s_Reader_fail) := ⟨rfl, rfl, rfl, by decide +kernel, rfl, by decide +kernel, by decide +kernel⟩
def d_Reader_fail : He.DefD := ⟨("Reader", some "fail"), "fail", "Reader.fail", defArgs s_Reader_fail, defBody s_Reader_fail, defScope s_Reader_fail, [], []⟩
abbrev s_Reader_peek : Stmt := inClass (topS 24) 2
abbrev N_Reader_peek : List Str := ["self"]
theorem sc_Reader_peek : FnScope ["self"] ["self"] (defScope s_Reader_peek) := ⟨rfl, rfl, rfl, by decide +kernel, rfl, by decide +kernel, by decide +kernel⟩
def d_Reader_peek : He.DefD := ⟨("Reader", some "peek"), "peek", "Reader.peek", defArgs s_Reader_peek, defBody s_Reader_peek, defScope s_Reader_peek, [], []⟩
abbrev s_Reader_take : Stmt := inClass (topS 24) 3
abbrev N_Reader_take : List Str := ["self", "word"]
theorem sc_Reader_take : FnScope ["self", "word"] ["self", "word"] (defScope s_Reader_take) := ⟨rfl, rfl, rfl, by decide +kernel, rfl, by decide +kernel, by decide +kernel⟩
def d_Reader_take : He.DefD := ⟨("Reader", some "take"), "take", "Reader.take", defArgs s_Reader_take, defBody s_Reader_take, defScope s_Reader_take, [], []⟩
abbrev s_Reader_skip : Stmt := inClass (topS 24) 4
abbrev N_Reader_skip : List Str := ["self", "word"]
theorem sc_Reader_skip : FnScope ["self", "word"] ["self", "word"] (defScope s_Reader_skip) := ⟨rfl, rfl, rfl, by decide +kernel, rfl, by decide +kernel, by decide +kernel⟩
def d_Reader_skip : He.DefD := ⟨("Reader", some "skip"), "skip", "Reader.skip", defArgs s_Reader_skip, defBody s_Reader_skip, defScope s_Reader_skip, [], []⟩
abbrev s_Reader_take_name : Stmt := inClass (topS 24) 5
abbrev N_Reader_take_name : List Str := ["self", "word"]
theorem sc_Reader_take_name : FnScope ["self", "word"] ["self"] (defScope s_Reader_take_name) := ⟨rfl, rfl, rfl, by decide +kernel, rfl, by decide +kernel, by decide +kernel⟩
def d_Reader_take_name : He.DefD := ⟨("Reader", some "take_name"), "take_name", "Reader.take_name", defArgs s_Reader_take_name, defBody s_Reader_take_name, defScope s_Reader_take_name, [], []⟩
abbrev s_Reader_take_number : Stmt := inClass (topS 24) 6
abbrev N_Reader_take_number : List Str := ["self", "word"]
theorem sc_Reader_take_number : FnScope ["self", "word"] ["self"] (defScope s_Reader_take_number) := ⟨rfl, rfl, rfl, by decide +kernel, rfl, by decide +kernel, by decide +kernel⟩
def d_Reader_take_number : He.DefD := ⟨("Reader", some "take_number"), "take_number", "Reader.take_number", defArgs s_Reader_take_number, defBody s_Reader_take_number, defScope s_Reader_take_number, [], []⟩
abbrev s_Reader_read_rule : Stmt := inClass (topS 24) 7
abbrev N_Reader_read_rule : List Str := ["self", "condition", "deeds"]
theorem sc_Reader_read_rule : FnScope ["self", "condition", "deeds"] ["self"] (defScope s_Reader_read_rule) := ⟨rfl, rfl, rfl, by decide +kernel, rfl, by decide +kernel, by decide +kernel⟩
def d_Reader_read_rule : He.DefD := ⟨("Reader", some "read_rule"), "read_rule", "Reader.read_rule", defArgs s_Reader_read_rule, defBody s_Reader_read_rule, defScope s_Reader_read_rule, [], []⟩
abbrev s_Reader_read_condition : Stmt := inClass (topS 24) 8
abbrev N_Reader_read_condition : List Str := ["self", "parts"]
theorem sc_Reader_read_condition : FnScope ["self", "parts"] ["self"] (defScope s_Reader_read_condition) := ⟨rfl, rfl, rfl, by decide +kernel, rfl, by decide +kernel, by decide +kernel⟩
def d_Reader_read_condition : He.DefD := ⟨("Reader", some "read_condition"), "read_condition", "Reader.read_condition", defArgs s_Reader_read_condition, defBody s_Reader_read_condition, defScope s_Reader_read_condition, [], []⟩
abbrev s_Reader_read_joined : Stmt := inClass (topS 24) 9
abbrev N_Reader_read_joined : List Str := ["self", "parts"]
theorem sc_Reader_read_joined : FnScope ["self", "parts"] ["self"] (defScope s_Reader_read_joined) := ⟨rfl, rfl, rfl, by decide +kernel, rfl, by decide +kernel, by decide +kernel⟩
def d_Reader_read_joined : He.DefD := ⟨("Reader", some "read_joined"), "read_joined", "Reader.read_joined", defArgs s_Reader_read_joined, defBody s_Reader_read_joined, defScope s_Reader_read_joined, [], []⟩
abbrev s_Reader_read_single : Stmt := inClass (topS 24) 10
abbrev N_Reader_read_single : List Str := ["self", "inner"]
theorem sc_Reader_read_single : FnScope ["self", "inner"] ["self"] (defScope s_Reader_read_single) := ⟨rfl, rfl, rfl, by decide +kernel, rfl, by decide +kernel, by decide +kernel⟩
def d_Reader_read_single : He.DefD := ⟨("Reader", some "read_single"), "read_single", "Reader.read_single", defArgs s_Reader_read_single, defBody s_Reader_read_single, defScope s_Reader_read_single, [], []⟩
abbrev s_Reader_read_fact : Stmt := inClass (topS 24) 11
abbrev N_Reader_read_fact : List Str := ["self", "kind", "named", "_"]
theorem sc_Reader_read_fact : FnScope ["self", "kind", "named", "_"] ["self"] (defScope s_Reader_read_fact) := ⟨rfl, rfl, rfl, by decide +kernel, rfl, by decide +kernel, by decide +kernel⟩
def d_Reader_read_fact : He.DefD := ⟨("Reader", some "read_fact"), "read_fact", "Reader.read_fact", defArgs s_Reader_read_fact, defBody s_Reader_read_fact, defScope s_Reader_read_fact, [], []⟩
abbrev s_Reader_read_deed : Stmt := inClass (topS 24) 12
abbrev N_Reader_read_deed : List Str := ["self", "kind"]
theorem sc_Reader_read_deed : FnScope ["self", "kind"] ["self"] (defScope s_Reader_read_deed) := ⟨rfl, rfl, rfl, by decide +kernel, rfl, by decide +kernel, by decide +kernel⟩
def d_Reader_read_deed : He.DefD := ⟨("Reader", some "read_deed"), "read_deed", "Reader.read_deed", defArgs s_Reader_read_deed, defBody s_Reader_read_deed, defScope s_Reader_read_deed, [], []⟩
abbrev s_is_number : Stmt := topS 25
abbrev N_is_number : List Str := ["word", "sign"]
theorem sc_is_number : FnScope ["word", "sign"] ["word"] (defScope s_is_number) := ⟨rfl, rfl, rfl, by decide +kernel, rfl, by decide +kernel, by decide +kernel⟩
def d_is_number : He.DefD := ⟨("is_number", none), "is_number", "is_number", defArgs s_is_number, defBody s_is_number, defScope s_is_number, [], []⟩
abbrev s_words_of : Stmt := topS 26
abbrev N_words_of : List Str := ["row", "sign", "word"]
theorem sc_words_of : FnScope ["row", "sign", "word"] ["row"] (defScope s_words_of) := ⟨rfl, rfl, rfl, by decide +kernel, rfl, by decide +kernel, by decide +kernel⟩
def d_words_of : He.DefD := ⟨("words_of", none), "words_of", "words_of", defArgs s_words_of, defBody s_words_of, defScope s_words_of, [], []⟩
abbrev s_rule_of : Stmt := topS 27
abbrev N_rule_of : List Str := ["words", "row", "rule"]
theorem sc_rule_of : FnScope ["words", "row", "rule"] ["words", "row"] (defScope s_rule_of) := ⟨rfl, rfl, rfl, by decide +kernel, rfl, by decide +kernel, by decide +kernel⟩
def d_rule_of : He.DefD := ⟨("rule_of", none), "rule_of", "rule_of", defArgs s_rule_of, defBody s_rule_of, defScope s_rule_of, [], []⟩
abbrev s_read : Stmt := topS 28
abbrev N_read : List Str := ["text", "rules", "number", "row", "words"]
theorem sc_read : FnScope ["text", "rules", "number", "row", "words"] ["text"] (defScope s_read) := ⟨rfl, rfl, rfl, by decide +kernel, rfl, by decide +kernel, by decide +kernel⟩
def d_read : He.DefD := ⟨("read", none), "read", "read", defArgs s_read, defBody s_read, defScope s_read, [], []⟩
abbrev s_check_names : Stmt := topS 29
abbrev N_check_names : List Str := ["rules"]
theorem sc_check_names : FnScope ["rules"] ["rules"] (defScope s_check_names) := ⟨rfl, rfl, rfl, by decide +kernel, rfl, by decide +kernel, by decide +kernel⟩
def d_check_names : He.DefD := ⟨("check_names", none), "check_names", "check_names", defArgs s_check_names, defBody s_check_names, defScope s_check_names, [], []⟩
abbrev s_word_names : Stmt := topS 30
abbrev N_word_names : List Str := ["rules", "named", "fact", "name"]
theorem sc_word_names : FnScope ["rules", "named", "fact", "name"] ["rules"] (defScope s_word_names) := ⟨rfl, rfl, rfl, by decide +kernel, rfl, by decide +kernel, by decide +kernel⟩
def d_word_names : He.DefD := ⟨("word_names", none), "word_names", "word_names", defArgs s_word_names, defBody s_word_names, defScope s_word_names, [], []⟩
abbrev s_facts_of : Stmt := topS 31
abbrev N_facts_of : List Str := ["rules", "found", "rule"]
theorem sc_facts_of : FnScope ["rules", "found", "rule"] ["rules"] (defScope s_facts_of) := ⟨rfl, rfl, rfl, by decide +kernel, rfl, by decide +kernel, by decide +kernel⟩
def d_facts_of : He.DefD := ⟨("facts_of", none), "facts_of", "facts_of", defArgs s_facts_of, defBody s_facts_of, defScope s_facts_of, [], []⟩
abbrev s_add_facts : Stmt := topS 32
abbrev N_add_facts : List Str := ["condition", "found", "kind", "part"]
theorem sc_add_facts : FnScope ["condition", "found", "kind", "part"] ["condition", "found"] (defScope s_add_facts) := ⟨rfl, rfl, rfl, by decide +kernel, rfl, by decide +kernel, by decide +kernel⟩
def d_add_facts : He.DefD := ⟨("add_facts", none), "add_facts", "add_facts", defArgs s_add_facts, defBody s_add_facts, defScope s_add_facts, [], []⟩
abbrev s_sort : Stmt := topS 34
abbrev N_sort : List Str := ["rules", "letter", "rows"]
theorem sc_sort : FnScope ["rules", "letter", "rows"] ["rules", "letter"] (defScope s_sort) := ⟨rfl, rfl, rfl, by decide +kernel, rfl, by decide +kernel, by decide +kernel⟩
def d_sort : He.DefD := ⟨("sort", none), "sort", "sort", defArgs s_sort, defBody s_sort, defScope s_sort, [], []⟩
abbrev s_acting : Stmt := topS 35
abbrev N_acting : List Str := ["rules", "letter", "rows"]
theorem sc_acting : FnScope ["rules", "letter", "rows"] ["rules", "letter"] (defScope s_acting) := ⟨rfl, rfl, rfl, by decide +kernel, rfl, by decide +kernel, by decide +kernel⟩
def d_acting : He.DefD := ⟨("acting", none), "acting", "acting", defArgs s_acting, defBody s_acting, defScope s_acting, [], []⟩
abbrev s_check_letter : Stmt := topS 36
abbrev N_check_letter : List Str := ["letter"]
theorem sc_check_letter : FnScope ["letter"] ["letter"] (defScope s_check_letter) := ⟨rfl, rfl, rfl, by decide +kernel, rfl, by decide +kernel, by decide +kernel⟩
def d_check_letter : He.DefD := ⟨("check_letter", none), "check_letter", "check_letter", defArgs s_check_letter, defBody s_check_letter, defScope s_check_letter, [], []⟩
abbrev s_way_through : Stmt := topS 37
abbrev N_way_through : List Str := ["rules", "letter", "way", "number", "rule"]
theorem sc_way_through : FnScope ["rules", "letter", "way", "number", "rule"] ["rules", "letter"] (defScope s_way_through) := ⟨rfl, rfl, rfl, by decide +kernel, rfl, by decide +kernel, by decide +kernel⟩
def d_way_through : He.DefD := ⟨("way_through", none), "way_through", "way_through", defArgs s_way_through, defBody s_way_through, defScope s_way_through, [], []⟩
abbrev s_Way_init : Stmt := inClass (topS 38) 0
abbrev N_Way_init : List Str := ["self", "letter", "words"]
theorem sc_Way_init : FnScope ["self", "letter", "words"] ["self", "letter"] (defScope s_Way_init) := ⟨rfl, rfl, rfl, by decide +kernel, rfl, by decide +kernel, by decide +kernel⟩
def d_Way_init : He.DefD := ⟨("Way", some "__init__"), "__init__", "Way.__init__", defArgs s_Way_init, defBody s_Way_init, defScope s_Way_init, [], []⟩
abbrev s_Way_outcome : Stmt := inClass (topS 38) 1
abbrev N_Way_outcome : List Str := ["self"]
theorem sc_Way_outcome : FnScope ["self"] ["self"] (defScope s_Way_outcome) := ⟨rfl, rfl, rfl, by decide +kernel, rfl, by decide +kernel, by decide +kernel⟩
def d_Way_outcome : He.DefD := ⟨("Way", some "outcome"), "outcome", "Way.outcome", defArgs s_Way_outcome, defBody s_Way_outcome, defScope s_Way_outcome, [], []⟩
abbrev s_Way_act : Stmt := inClass (topS 38) 2
abbrev N_Way_act : List Str := ["self", "number", "deeds", "kind", "name"]
theorem sc_Way_act : FnScope ["self", "number", "deeds", "kind", "name"] ["self", "number", "deeds"] (defScope s_Way_act) := ⟨rfl, rfl, rfl, by decide +kernel, rfl, by decide +kernel, by decide +kernel⟩
def d_Way_act : He.DefD := ⟨("Way", some "act"), "act", "Way.act", defArgs s_Way_act, defBody s_Way_act, defScope s_Way_act, [], []⟩
abbrev s_Way_holds : Stmt := inClass (topS 38) 3
abbrev N_Way_holds : List Str := ["self", "condition", "kind", "part"]
theorem sc_Way_holds : FnScope ["self", "condition", "kind", "part"] ["self", "condition"] (defScope s_Way_holds) := ⟨rfl, rfl, rfl, by decide +kernel, rfl, by decide +kernel, by decide +kernel⟩
def d_Way_holds : He.DefD := ⟨("Way", some "holds"), "holds", "Way.holds", defArgs s_Way_holds, defBody s_Way_holds, defScope s_Way_holds, [], []⟩
abbrev s_Way_fact_holds : Stmt := inClass (topS 38) 4
abbrev N_Way_fact_holds : List Str := ["self", "kind", "worth", "fact"]
theorem sc_Way_fact_holds : FnScope ["self", "kind", "worth", "fact"] ["self", "kind", "worth", "fact"] (defScope s_Way_fact_holds) := ⟨rfl, rfl, rfl, by decide +kernel, rfl, by decide +kernel, by decide +kernel⟩
def d_Way_fact_holds : He.DefD := ⟨("Way", some "fact_holds"), "fact_holds", "Way.fact_holds", defArgs s_Way_fact_holds, defBody s_Way_fact_holds, defScope s_Way_fact_holds, [], []⟩
abbrev s_Way_has_pair : Stmt := inClass (topS 38) 5
abbrev N_Way_has_pair : List Str := ["self", "one", "other", "at"]
theorem sc_Way_has_pair : FnScope ["self", "one", "other", "at"] ["self", "one", "other"] (defScope s_Way_has_pair) := ⟨rfl, rfl, rfl, by decide +kernel, rfl, by decide +kernel, by decide +kernel⟩
def d_Way_has_pair : He.DefD := ⟨("Way", some "has_pair"), "has_pair", "Way.has_pair", defArgs s_Way_has_pair, defBody s_Way_has_pair, defScope s_Way_has_pair, [], []⟩
abbrev s_law_draw : Stmt := topS 40
abbrev N_law_draw : List Str := ["_law_cell", "_law_k", "_law_many", "_law_primes"]
theorem sc_law_draw : FnScope ["_law_cell", "_law_k", "_law_many", "_law_primes"] ["_law_cell", "_law_k", "_law_many"] (defScope s_law_draw) := ⟨rfl, rfl, rfl, by decide +kernel, rfl, by decide +kernel, by decide +kernel⟩
def d_law_draw : He.DefD := ⟨("_law_draw", none), "_law_draw", "_law_draw", defArgs s_law_draw, defBody s_law_draw, defScope s_law_draw, [], []⟩
abbrev s_law_cell_at : Stmt := topS 41
abbrev N_law_cell_at : List Str := ["_law_script", "_law_k"]
theorem sc_law_cell_at : FnScope ["_law_script", "_law_k"] ["_law_script", "_law_k"] (defScope s_law_cell_at) := ⟨rfl, rfl, rfl, by decide +kernel, rfl, by decide +kernel, by decide +kernel⟩
def d_law_cell_at : He.DefD := ⟨("_law_cell_at", none), "_law_cell_at", "_law_cell_at", defArgs s_law_cell_at, defBody s_law_cell_at, defScope s_law_cell_at, [], []⟩
abbrev s_law_digits : Stmt := topS 42
abbrev N_law_digits : List Str := ["_law_script", "_law_at", "_law_many", "_law_base", "_law_cell", "_law_found", "_law_left", "_law_turn", "_law_blend", "_law_more"]
theorem sc_law_digits : FnScope ["_law_script", "_law_at", "_law_many", "_law_base", "_law_cell", "_law_found", "_law_left", "_law_turn", "_law_blend", "_law_more"] ["_law_script", "_law_at", "_law_many", "_law_base"] (defScope s_law_digits) := ⟨rfl, rfl, rfl, by decide +kernel, rfl, by decide +kernel, by decide +kernel⟩
def d_law_digits : He.DefD := ⟨("_law_digits", none), "_law_digits", "_law_digits", defArgs s_law_digits, defBody s_law_digits, defScope s_law_digits, [], []⟩
abbrev s_law_words : Stmt := topS 43
abbrev N_law_words : List Str := ["_law_script", "_law_at", "_law_draws", "_law_found", "_law_turn", "_law_first", "_law_second", "_law_name", "_law_some", "_law_word"]
theorem sc_law_words : FnScope ["_law_script", "_law_at", "_law_draws", "_law_found", "_law_turn", "_law_first", "_law_second", "_law_name", "_law_some", "_law_word"] ["_law_script", "_law_at"] (defScope s_law_words) := ⟨rfl, rfl, rfl, by decide +kernel, rfl, by decide +kernel, by decide +kernel⟩
def d_law_words : He.DefD := ⟨("_law_words", none), "_law_words", "_law_words", defArgs s_law_words, defBody s_law_words, defScope s_law_words, [], []⟩
abbrev s_law_fact : Stmt := topS 44
abbrev N_law_fact : List Str := ["_law_draw_here", "_law_words_here", "_law_kinds", "_law_kind", "_law_one", "_law_other"]
theorem sc_law_fact : FnScope ["_law_draw_here", "_law_words_here", "_law_kinds", "_law_kind", "_law_one", "_law_other"] ["_law_draw_here", "_law_words_here", "_law_kinds"] (defScope s_law_fact) := ⟨rfl, rfl, rfl, by decide +kernel, rfl, by decide +kernel, by decide +kernel⟩
def d_law_fact : He.DefD := ⟨("_law_fact", none), "_law_fact", "_law_fact", defArgs s_law_fact, defBody s_law_fact, defScope s_law_fact, [], []⟩
abbrev s_law_unit : Stmt := topS 45
abbrev N_law_unit : List Str := ["_law_draws", "_law_words_here", "_law_kinds", "_law_fact_here", "_law_inner"]
theorem sc_law_unit : FnScope ["_law_draws", "_law_words_here", "_law_kinds", "_law_fact_here", "_law_inner"] ["_law_draws", "_law_words_here", "_law_kinds"] (defScope s_law_unit) := ⟨rfl, rfl, rfl, by decide +kernel, rfl, by decide +kernel, by decide +kernel⟩
def d_law_unit : He.DefD := ⟨("_law_unit", none), "_law_unit", "_law_unit", defArgs s_law_unit, defBody s_law_unit, defScope s_law_unit, [], []⟩
abbrev s_law_condition : Stmt := topS 46
abbrev N_law_condition : List Str := ["_law_draws", "_law_words_here", "_law_kinds", "_law_one", "_law_other", "_law_last", "_law_joined"]
theorem sc_law_condition : FnScope ["_law_draws", "_law_words_here", "_law_kinds", "_law_one", "_law_other", "_law_last", "_law_joined"] ["_law_draws", "_law_words_here", "_law_kinds"] (defScope s_law_condition) := ⟨rfl, rfl, rfl, by decide +kernel, rfl, by decide +kernel, by decide +kernel⟩
def d_law_condition : He.DefD := ⟨("_law_condition", none), "_law_condition", "_law_condition", defArgs s_law_condition, defBody s_law_condition, defScope s_law_condition, [], []⟩
abbrev s_law_deeds : Stmt := topS 47
abbrev N_law_deeds : List Str := ["_law_draws", "_law_words_here", "_law_found", "_law_draw_here", "_law_word"]
theorem sc_law_deeds : FnScope ["_law_draws", "_law_words_here", "_law_found", "_law_draw_here", "_law_word"] ["_law_draws", "_law_words_here"] (defScope s_law_deeds) := ⟨rfl, rfl, rfl, by decide +kernel, rfl, by decide +kernel, by decide +kernel⟩
def d_law_deeds : He.DefD := ⟨("_law_deeds", none), "_law_deeds", "_law_deeds", defArgs s_law_deeds, defBody s_law_deeds, defScope s_law_deeds, [], []⟩
abbrev s_law_rules : Stmt := topS 48
abbrev N_law_rules : List Str := ["_law_script", "_law_at", "_law_words_here", "_law_many", "_law_kinds", "_law_found", "_law_turn", "_law_draws"]
theorem sc_law_rules : FnScope ["_law_script", "_law_at", "_law_words_here", "_law_many", "_law_kinds", "_law_found", "_law_turn", "_law_draws"] ["_law_script", "_law_at", "_law_words_here", "_law_many", "_law_kinds"] (defScope s_law_rules) := ⟨rfl, rfl, rfl, by decide +kernel, rfl, by decide +kernel, by decide +kernel⟩
def d_law_rules : He.DefD := ⟨("_law_rules", none), "_law_rules", "_law_rules", defArgs s_law_rules, defBody s_law_rules, defScope s_law_rules, [], []⟩
abbrev s_law_told : Stmt := topS 49
abbrev N_law_told : List Str := ["_law_condition_here", "_law_word", "_law_found", "_law_part"]
theorem sc_law_told : FnScope ["_law_condition_here", "_law_word", "_law_found", "_law_part"] ["_law_condition_here"] (defScope s_law_told) := ⟨rfl, rfl, rfl, by decide +kernel, rfl, by decide +kernel, by decide +kernel⟩
def d_law_told : He.DefD := ⟨("_law_told", none), "_law_told", "_law_told", defArgs s_law_told, defBody s_law_told, defScope s_law_told, [], []⟩
abbrev s_law_rule_words : Stmt := topS 50
abbrev N_law_rule_words : List Str := ["_law_rule", "_law_found", "_law_at", "_law_deed"]
theorem sc_law_rule_words : FnScope ["_law_rule", "_law_found", "_law_at", "_law_deed"] ["_law_rule"] (defScope s_law_rule_words) := ⟨rfl, rfl, rfl, by decide +kernel, rfl, by decide +kernel, by decide +kernel⟩
def d_law_rule_words : He.DefD := ⟨("_law_rule_words", none), "_law_rule_words", "_law_rule_words", defArgs s_law_rule_words, defBody s_law_rule_words, defScope s_law_rule_words, [], []⟩
abbrev s_law_text : Stmt := topS 51
abbrev N_law_text : List Str := ["_law_rules_here", "_law_rule"]
theorem sc_law_text : FnScope ["_law_rules_here", "_law_rule"] ["_law_rules_here"] (defScope s_law_text) := ⟨rfl, rfl, rfl, by decide +kernel, rfl, by decide +kernel, by decide +kernel⟩
def d_law_text : He.DefD := ⟨("_law_text", none), "_law_text", "_law_text", defArgs s_law_text, defBody s_law_text, defScope s_law_text, [], []⟩
abbrev s_law_holds : Stmt := topS 52
abbrev N_law_holds : List Str := ["_law_condition_here", "_law_letter_here", "_law_marks", "_law_word", "_law_sender", "_law_words_here", "_law_size", "_law_held", "_law_part"]
theorem sc_law_holds : FnScope ["_law_condition_here", "_law_letter_here", "_law_marks", "_law_word", "_law_sender", "_law_words_here", "_law_size", "_law_held", "_law_part"] ["_law_condition_here", "_law_letter_here", "_law_marks"] (defScope s_law_holds) := ⟨rfl, rfl, rfl, by decide +kernel, rfl, by decide +kernel, by decide +kernel⟩
def d_law_holds : He.DefD := ⟨("_law_holds", none), "_law_holds", "_law_holds", defArgs s_law_holds, defBody s_law_holds, defScope s_law_holds, [], []⟩
abbrev s_law_rank : Stmt := topS 53
abbrev N_law_rank : List Str := ["_law_name"]
theorem sc_law_rank : FnScope ["_law_name"] ["_law_name"] (defScope s_law_rank) := ⟨rfl, rfl, rfl, by decide +kernel, rfl, by decide +kernel, by decide +kernel⟩
def d_law_rank : He.DefD := ⟨("_law_rank", none), "_law_rank", "_law_rank", defArgs s_law_rank, defBody s_law_rank, defScope s_law_rank, [], []⟩
abbrev s_law_sort : Stmt := topS 54
abbrev N_law_sort : List Str := ["_law_rules_here", "_law_letter_here", "_law_files", "_law_marks", "_law_passes", "_law_some", "_law_at", "_law_condition_here", "_law_deeds_here", "_law_deed", "_law_mark"]
theorem sc_law_sort : FnScope ["_law_rules_here", "_law_letter_here", "_law_files", "_law_marks", "_law_passes", "_law_some", "_law_at", "_law_condition_here", "_law_deeds_here", "_law_deed", "_law_mark"] ["_law_rules_here", "_law_letter_here"] (defScope s_law_sort) := ⟨rfl, rfl, rfl, by decide +kernel, rfl, by decide +kernel, by decide +kernel⟩
def d_law_sort : He.DefD := ⟨("_law_sort", none), "_law_sort", "_law_sort", defArgs s_law_sort, defBody s_law_sort, defScope s_law_sort, [], []⟩
abbrev s_law_letter : Stmt := topS 55
abbrev N_law_letter : List Str := ["_law_script", "_law_at", "_law_words_here", "_law_draws", "_law_some", "_law_size", "_law_row", "_law_draw_here"]
theorem sc_law_letter : FnScope ["_law_script", "_law_at", "_law_words_here", "_law_draws", "_law_some", "_law_size", "_law_row", "_law_draw_here"] ["_law_script", "_law_at", "_law_words_here"] (defScope s_law_letter) := ⟨rfl, rfl, rfl, by decide +kernel, rfl, by decide +kernel, by decide +kernel⟩
def d_law_letter : He.DefD := ⟨("_law_letter", none), "_law_letter", "_law_letter", defArgs s_law_letter, defBody s_law_letter, defScope s_law_letter, [], []⟩
abbrev s_law_sort_right : Stmt := topS 56
abbrev N_law_sort_right : List Str := ["_law_text_here", "_law_rules_here", "_law_letter_here", "_law_handed", "_law_told_here", "_law_some", "_law_due", "_law_acts_due", "_law_one"]
theorem sc_law_sort_right : FnScope ["_law_text_here", "_law_rules_here", "_law_letter_here", "_law_handed", "_law_told_here", "_law_some", "_law_due", "_law_acts_due", "_law_one"] ["_law_text_here", "_law_rules_here", "_law_letter_here"] (defScope s_law_sort_right) := ⟨rfl, rfl, rfl, by decide +kernel, rfl, by decide +kernel, by decide +kernel⟩
def d_law_sort_right : He.DefD := ⟨("_law_sort_right", none), "_law_sort_right", "_law_sort_right", defArgs s_law_sort_right, defBody s_law_sort_right, defScope s_law_sort_right, [], []⟩
abbrev s_law : Stmt := topS 57
abbrev N_law : List Str := ["_law_script", "_law_words_here", "_law_kinds", "_law_by", "_law_rules_here", "_law_rows", "_law_at"]
theorem sc_law : FnScope ["_law_script", "_law_words_here", "_law_kinds", "_law_by", "_law_rules_here", "_law_rows", "_law_at"] ["_law_script"] (defScope s_law) := ⟨rfl, rfl, rfl, by decide +kernel, rfl, by decide +kernel, by decide +kernel⟩
def d_law : He.DefD := ⟨("law", none), "law", "law", defArgs s_law, defBody s_law, defScope s_law, [], []⟩
def fn : List He.DefD := [d_is_name, d_is_size, d_is_letter, d_name_key, d_in_order, d_Rule_init, d_Reader_init, d_Reader_fail, d_Reader_peek, d_Reader_take, d_Reader_skip, d_Reader_take_name, d_Reader_take_number, d_Reader_read_rule, d_Reader_read_condition, d_Reader_read_joined, d_Reader_read_single, d_Reader_read_fact, d_Reader_read_deed, d_is_number, d_words_of, d_rule_of, d_read, d_check_names, d_word_names, d_facts_of, d_add_facts, d_sort, d_acting, d_check_letter, d_way_through, d_Way_init, d_Way_outcome, d_Way_act, d_Way_holds, d_Way_fact_holds, d_Way_has_pair, d_law_draw, d_law_cell_at, d_law_digits, d_law_words, d_law_fact, d_law_unit, d_law_condition, d_law_deeds, d_law_rules, d_law_told, d_law_rule_words, d_law_text, d_law_holds, d_law_rank, d_law_sort, d_law_letter, d_law_sort_right, d_law]
end So
end

section
set_option Elab.async false
set_option linter.all false
set_option maxRecDepth 100000
set_option maxHeartbeats 4000000
/-! what the top has written, as facts; defs as FnR; frames of heaps -/
namespace So
open PySem PySem.Spec PyProof.Rows L2
open GxR (TabB TabG Tabbed)

abbrev a_is_name (K : PySem.W.Frag) : Addr := He.ga K "is_name"
abbrev a_is_size (K : PySem.W.Frag) : Addr := He.ga K "is_size"
abbrev a_is_letter (K : PySem.W.Frag) : Addr := He.ga K "is_letter"
abbrev a_name_key (K : PySem.W.Frag) : Addr := He.ga K "name_key"
abbrev a_in_order (K : PySem.W.Frag) : Addr := He.ga K "in_order"
abbrev a_Rule_init (K : PySem.W.Frag) : Addr := He.ma K (He.ga K "Rule") "__init__"
abbrev a_Reader_init (K : PySem.W.Frag) : Addr := He.ma K (He.ga K "Reader") "__init__"
abbrev a_Reader_fail (K : PySem.W.Frag) : Addr := He.ma K (He.ga K "Reader") "fail"
abbrev a_Reader_peek (K : PySem.W.Frag) : Addr := He.ma K (He.ga K "Reader") "peek"
abbrev a_Reader_take (K : PySem.W.Frag) : Addr := He.ma K (He.ga K "Reader") "take"
abbrev a_Reader_skip (K : PySem.W.Frag) : Addr := He.ma K (He.ga K "Reader") "skip"
abbrev a_Reader_take_name (K : PySem.W.Frag) : Addr := He.ma K (He.ga K "Reader") "take_name"
abbrev a_Reader_take_number (K : PySem.W.Frag) : Addr := He.ma K (He.ga K "Reader") "take_number"
abbrev a_Reader_read_rule (K : PySem.W.Frag) : Addr := He.ma K (He.ga K "Reader") "read_rule"
abbrev a_Reader_read_condition (K : PySem.W.Frag) : Addr := He.ma K (He.ga K "Reader") "read_condition"
abbrev a_Reader_read_joined (K : PySem.W.Frag) : Addr := He.ma K (He.ga K "Reader") "read_joined"
abbrev a_Reader_read_single (K : PySem.W.Frag) : Addr := He.ma K (He.ga K "Reader") "read_single"
abbrev a_Reader_read_fact (K : PySem.W.Frag) : Addr := He.ma K (He.ga K "Reader") "read_fact"
abbrev a_Reader_read_deed (K : PySem.W.Frag) : Addr := He.ma K (He.ga K "Reader") "read_deed"
abbrev a_is_number (K : PySem.W.Frag) : Addr := He.ga K "is_number"
abbrev a_words_of (K : PySem.W.Frag) : Addr := He.ga K "words_of"
abbrev a_rule_of (K : PySem.W.Frag) : Addr := He.ga K "rule_of"
abbrev a_read (K : PySem.W.Frag) : Addr := He.ga K "read"
abbrev a_check_names (K : PySem.W.Frag) : Addr := He.ga K "check_names"
abbrev a_word_names (K : PySem.W.Frag) : Addr := He.ga K "word_names"
abbrev a_facts_of (K : PySem.W.Frag) : Addr := He.ga K "facts_of"
abbrev a_add_facts (K : PySem.W.Frag) : Addr := He.ga K "add_facts"
abbrev a_sort (K : PySem.W.Frag) : Addr := He.ga K "sort"
abbrev a_acting (K : PySem.W.Frag) : Addr := He.ga K "acting"
abbrev a_check_letter (K : PySem.W.Frag) : Addr := He.ga K "check_letter"
abbrev a_way_through (K : PySem.W.Frag) : Addr := He.ga K "way_through"
abbrev a_Way_init (K : PySem.W.Frag) : Addr := He.ma K (He.ga K "Way") "__init__"
abbrev a_Way_outcome (K : PySem.W.Frag) : Addr := He.ma K (He.ga K "Way") "outcome"
abbrev a_Way_act (K : PySem.W.Frag) : Addr := He.ma K (He.ga K "Way") "act"
abbrev a_Way_holds (K : PySem.W.Frag) : Addr := He.ma K (He.ga K "Way") "holds"
abbrev a_Way_fact_holds (K : PySem.W.Frag) : Addr := He.ma K (He.ga K "Way") "fact_holds"
abbrev a_Way_has_pair (K : PySem.W.Frag) : Addr := He.ma K (He.ga K "Way") "has_pair"
abbrev a_law_draw (K : PySem.W.Frag) : Addr := He.ga K "_law_draw"
abbrev a_law_cell_at (K : PySem.W.Frag) : Addr := He.ga K "_law_cell_at"
abbrev a_law_digits (K : PySem.W.Frag) : Addr := He.ga K "_law_digits"
abbrev a_law_words (K : PySem.W.Frag) : Addr := He.ga K "_law_words"
abbrev a_law_fact (K : PySem.W.Frag) : Addr := He.ga K "_law_fact"
abbrev a_law_unit (K : PySem.W.Frag) : Addr := He.ga K "_law_unit"
abbrev a_law_condition (K : PySem.W.Frag) : Addr := He.ga K "_law_condition"
abbrev a_law_deeds (K : PySem.W.Frag) : Addr := He.ga K "_law_deeds"
abbrev a_law_rules (K : PySem.W.Frag) : Addr := He.ga K "_law_rules"
abbrev a_law_told (K : PySem.W.Frag) : Addr := He.ga K "_law_told"
abbrev a_law_rule_words (K : PySem.W.Frag) : Addr := He.ga K "_law_rule_words"
abbrev a_law_text (K : PySem.W.Frag) : Addr := He.ga K "_law_text"
abbrev a_law_holds (K : PySem.W.Frag) : Addr := He.ga K "_law_holds"
abbrev a_law_rank (K : PySem.W.Frag) : Addr := He.ga K "_law_rank"
abbrev a_law_sort (K : PySem.W.Frag) : Addr := He.ga K "_law_sort"
abbrev a_law_letter (K : PySem.W.Frag) : Addr := He.ga K "_law_letter"
abbrev a_law_sort_right (K : PySem.W.Frag) : Addr := He.ga K "_law_sort_right"
abbrev a_law (K : PySem.W.Frag) : Addr := He.ga K "law"
abbrev C_Rule (K : PySem.W.Frag) : Addr := He.ga K "Rule"
abbrev C_Reader (K : PySem.W.Frag) : Addr := He.ga K "Reader"
abbrev C_Way (K : PySem.W.Frag) : Addr := He.ga K "Way"
abbrev cc_is_name (K : PySem.W.Frag) : Addr := (He.cT K ("is_name", none)).1
abbrev tb_is_name (K : PySem.W.Frag) : Addr := (He.cT K ("is_name", none)).2
abbrev cc_is_letter (K : PySem.W.Frag) : Addr := (He.cT K ("is_letter", none)).1
abbrev tb_is_letter (K : PySem.W.Frag) : Addr := (He.cT K ("is_letter", none)).2
abbrev cc_is_number (K : PySem.W.Frag) : Addr := (He.cT K ("is_number", none)).1
abbrev tb_is_number (K : PySem.W.Frag) : Addr := (He.cT K ("is_number", none)).2
abbrev cc_Way_holds (K : PySem.W.Frag) : Addr := (He.cT K ("Way", some "holds")).1
abbrev tb_Way_holds (K : PySem.W.Frag) : Addr := (He.cT K ("Way", some "holds")).2
abbrev tabs (K : PySem.W.Frag) : List Addr := [tb_is_name K, tb_is_letter K, tb_is_number K, tb_Way_holds K]
abbrev FD (K : PySem.W.Frag) (x qual : Str) (st : Stmt) (f : Addr) : Prop := ∃ fd, FunD K x qual (defArgs st) (defBody st) (defScope st) [] [] f fd
structure Txt (w : World) (K : PySem.W.Frag) (mg : Str → Option Value) (base : Heap) : Prop where
  f_is_name : FD K "is_name" "is_name" s_is_name (a_is_name K)
  g_is_name : mg "is_name" = some (.ref (a_is_name K))
  f_is_size : FD K "is_size" "is_size" s_is_size (a_is_size K)
  g_is_size : mg "is_size" = some (.ref (a_is_size K))
  f_is_letter : FD K "is_letter" "is_letter" s_is_letter (a_is_letter K)
  g_is_letter : mg "is_letter" = some (.ref (a_is_letter K))
  f_name_key : FD K "name_key" "name_key" s_name_key (a_name_key K)
  g_name_key : mg "name_key" = some (.ref (a_name_key K))
  f_in_order : FD K "in_order" "in_order" s_in_order (a_in_order K)
  g_in_order : mg "in_order" = some (.ref (a_in_order K))
  f_Rule_init : FD K "__init__" "Rule.__init__" s_Rule_init (a_Rule_init K)
  f_Reader_init : FD K "__init__" "Reader.__init__" s_Reader_init (a_Reader_init K)
  f_Reader_fail : FD K "fail" "Reader.fail" s_Reader_fail (a_Reader_fail K)
  m_Reader_fail : Meth K (C_Reader K) "fail" (a_Reader_fail K)
  f_Reader_peek : FD K "peek" "Reader.peek" s_Reader_peek (a_Reader_peek K)
  m_Reader_peek : Meth K (C_Reader K) "peek" (a_Reader_peek K)
  f_Reader_take : FD K "take" "Reader.take" s_Reader_take (a_Reader_take K)
  m_Reader_take : Meth K (C_Reader K) "take" (a_Reader_take K)
  f_Reader_skip : FD K "skip" "Reader.skip" s_Reader_skip (a_Reader_skip K)
  m_Reader_skip : Meth K (C_Reader K) "skip" (a_Reader_skip K)
  f_Reader_take_name : FD K "take_name" "Reader.take_name" s_Reader_take_name (a_Reader_take_name K)
  m_Reader_take_name : Meth K (C_Reader K) "take_name" (a_Reader_take_name K)
  f_Reader_take_number : FD K "take_number" "Reader.take_number" s_Reader_take_number (a_Reader_take_number K)
  m_Reader_take_number : Meth K (C_Reader K) "take_number" (a_Reader_take_number K)
  f_Reader_read_rule : FD K "read_rule" "Reader.read_rule" s_Reader_read_rule (a_Reader_read_rule K)
  m_Reader_read_rule : Meth K (C_Reader K) "read_rule" (a_Reader_read_rule K)
  f_Reader_read_condition : FD K "read_condition" "Reader.read_condition" s_Reader_read_condition (a_Reader_read_condition K)
  m_Reader_read_condition : Meth K (C_Reader K) "read_condition" (a_Reader_read_condition K)
  f_Reader_read_joined : FD K "read_joined" "Reader.read_joined" s_Reader_read_joined (a_Reader_read_joined K)
  m_Reader_read_joined : Meth K (C_Reader K) "read_joined" (a_Reader_read_joined K)
  f_Reader_read_single : FD K "read_single" "Reader.read_single" s_Reader_read_single (a_Reader_read_single K)
  m_Reader_read_single : Meth K (C_Reader K) "read_single" (a_Reader_read_single K)
  f_Reader_read_fact : FD K "read_fact" "Reader.read_fact" s_Reader_read_fact (a_Reader_read_fact K)
  m_Reader_read_fact : Meth K (C_Reader K) "read_fact" (a_Reader_read_fact K)
  f_Reader_read_deed : FD K "read_deed" "Reader.read_deed" s_Reader_read_deed (a_Reader_read_deed K)
  m_Reader_read_deed : Meth K (C_Reader K) "read_deed" (a_Reader_read_deed K)
  f_is_number : FD K "is_number" "is_number" s_is_number (a_is_number K)
  g_is_number : mg "is_number" = some (.ref (a_is_number K))
  f_words_of : FD K "words_of" "words_of" s_words_of (a_words_of K)
  g_words_of : mg "words_of" = some (.ref (a_words_of K))
  f_rule_of : FD K "rule_of" "rule_of" s_rule_of (a_rule_of K)
  g_rule_of : mg "rule_of" = some (.ref (a_rule_of K))
  f_read : FD K "read" "read" s_read (a_read K)
  g_read : mg "read" = some (.ref (a_read K))
  f_check_names : FD K "check_names" "check_names" s_check_names (a_check_names K)
  g_check_names : mg "check_names" = some (.ref (a_check_names K))
  f_word_names : FD K "word_names" "word_names" s_word_names (a_word_names K)
  g_word_names : mg "word_names" = some (.ref (a_word_names K))
  f_facts_of : FD K "facts_of" "facts_of" s_facts_of (a_facts_of K)
  g_facts_of : mg "facts_of" = some (.ref (a_facts_of K))
  f_add_facts : FD K "add_facts" "add_facts" s_add_facts (a_add_facts K)
  g_add_facts : mg "add_facts" = some (.ref (a_add_facts K))
  f_sort : FD K "sort" "sort" s_sort (a_sort K)
  g_sort : mg "sort" = some (.ref (a_sort K))
  f_acting : FD K "acting" "acting" s_acting (a_acting K)
  g_acting : mg "acting" = some (.ref (a_acting K))
  f_check_letter : FD K "check_letter" "check_letter" s_check_letter (a_check_letter K)
  g_check_letter : mg "check_letter" = some (.ref (a_check_letter K))
  f_way_through : FD K "way_through" "way_through" s_way_through (a_way_through K)
  g_way_through : mg "way_through" = some (.ref (a_way_through K))
  f_Way_init : FD K "__init__" "Way.__init__" s_Way_init (a_Way_init K)
  f_Way_outcome : FD K "outcome" "Way.outcome" s_Way_outcome (a_Way_outcome K)
  m_Way_outcome : Meth K (C_Way K) "outcome" (a_Way_outcome K)
  f_Way_act : FD K "act" "Way.act" s_Way_act (a_Way_act K)
  m_Way_act : Meth K (C_Way K) "act" (a_Way_act K)
  f_Way_holds : FD K "holds" "Way.holds" s_Way_holds (a_Way_holds K)
  m_Way_holds : Meth K (C_Way K) "holds" (a_Way_holds K)
  f_Way_fact_holds : FD K "fact_holds" "Way.fact_holds" s_Way_fact_holds (a_Way_fact_holds K)
  m_Way_fact_holds : Meth K (C_Way K) "fact_holds" (a_Way_fact_holds K)
  f_Way_has_pair : FD K "has_pair" "Way.has_pair" s_Way_has_pair (a_Way_has_pair K)
  m_Way_has_pair : Meth K (C_Way K) "has_pair" (a_Way_has_pair K)
  f_law_draw : FD K "_law_draw" "_law_draw" s_law_draw (a_law_draw K)
  g_law_draw : mg "_law_draw" = some (.ref (a_law_draw K))
  f_law_cell_at : FD K "_law_cell_at" "_law_cell_at" s_law_cell_at (a_law_cell_at K)
  g_law_cell_at : mg "_law_cell_at" = some (.ref (a_law_cell_at K))
  f_law_digits : FD K "_law_digits" "_law_digits" s_law_digits (a_law_digits K)
  g_law_digits : mg "_law_digits" = some (.ref (a_law_digits K))
  f_law_words : FD K "_law_words" "_law_words" s_law_words (a_law_words K)
  g_law_words : mg "_law_words" = some (.ref (a_law_words K))
  f_law_fact : FD K "_law_fact" "_law_fact" s_law_fact (a_law_fact K)
  g_law_fact : mg "_law_fact" = some (.ref (a_law_fact K))
  f_law_unit : FD K "_law_unit" "_law_unit" s_law_unit (a_law_unit K)
  g_law_unit : mg "_law_unit" = some (.ref (a_law_unit K))
  f_law_condition : FD K "_law_condition" "_law_condition" s_law_condition (a_law_condition K)
  g_law_condition : mg "_law_condition" = some (.ref (a_law_condition K))
  f_law_deeds : FD K "_law_deeds" "_law_deeds" s_law_deeds (a_law_deeds K)
  g_law_deeds : mg "_law_deeds" = some (.ref (a_law_deeds K))
  f_law_rules : FD K "_law_rules" "_law_rules" s_law_rules (a_law_rules K)
  g_law_rules : mg "_law_rules" = some (.ref (a_law_rules K))
  f_law_told : FD K "_law_told" "_law_told" s_law_told (a_law_told K)
  g_law_told : mg "_law_told" = some (.ref (a_law_told K))
  f_law_rule_words : FD K "_law_rule_words" "_law_rule_words" s_law_rule_words (a_law_rule_words K)
  g_law_rule_words : mg "_law_rule_words" = some (.ref (a_law_rule_words K))
  f_law_text : FD K "_law_text" "_law_text" s_law_text (a_law_text K)
  g_law_text : mg "_law_text" = some (.ref (a_law_text K))
  f_law_holds : FD K "_law_holds" "_law_holds" s_law_holds (a_law_holds K)
  g_law_holds : mg "_law_holds" = some (.ref (a_law_holds K))
  f_law_rank : FD K "_law_rank" "_law_rank" s_law_rank (a_law_rank K)
  g_law_rank : mg "_law_rank" = some (.ref (a_law_rank K))
  f_law_sort : FD K "_law_sort" "_law_sort" s_law_sort (a_law_sort K)
  g_law_sort : mg "_law_sort" = some (.ref (a_law_sort K))
  f_law_letter : FD K "_law_letter" "_law_letter" s_law_letter (a_law_letter K)
  g_law_letter : mg "_law_letter" = some (.ref (a_law_letter K))
  f_law_sort_right : FD K "_law_sort_right" "_law_sort_right" s_law_sort_right (a_law_sort_right K)
  g_law_sort_right : mg "_law_sort_right" = some (.ref (a_law_sort_right K))
  f_law : FD K "law" "law" s_law (a_law K)
  g_law : mg "law" = some (.ref (a_law K))
  c_Rule : Cls K (C_Rule K)
  mk_Rule : Mk K (C_Rule K) (a_Rule_init K)
  g_Rule : mg "Rule" = some (.ref (C_Rule K))
  n_Rule_words : NoAttr K (C_Rule K) "words"
  n_Rule_condition : NoAttr K (C_Rule K) "condition"
  n_Rule_deeds : NoAttr K (C_Rule K) "deeds"
  c_Reader : Cls K (C_Reader K)
  mk_Reader : Mk K (C_Reader K) (a_Reader_init K)
  g_Reader : mg "Reader" = some (.ref (C_Reader K))
  n_Reader_words : NoAttr K (C_Reader K) "words"
  n_Reader_row : NoAttr K (C_Reader K) "row"
  n_Reader_at : NoAttr K (C_Reader K) "at"
  c_Way : Cls K (C_Way K)
  mk_Way : Mk K (C_Way K) (a_Way_init K)
  g_Way : mg "Way" = some (.ref (C_Way K))
  n_Way_sender : NoAttr K (C_Way K) "sender"
  n_Way_words : NoAttr K (C_Way K) "words"
  n_Way_size : NoAttr K (C_Way K) "size"
  n_Way_marks : NoAttr K (C_Way K) "marks"
  n_Way_folders : NoAttr K (C_Way K) "folders"
  n_Way_receivers : NoAttr K (C_Way K) "receivers"
  n_Way_acts : NoAttr K (C_Way K) "acts"
  n_Way_stopped : NoAttr K (C_Way K) "stopped"
  z_isinstance : mg "isinstance" = none
  z_len : mg "len" = none
  z_all : mg "all" = none
  z_any : mg "any" = none
  z_sorted : mg "sorted" = none
  z_str : mg "str" = none
  z_int : mg "int" = none
  z_bool : mg "bool" = none
  z_tuple : mg "tuple" = none
  z_list : mg "list" = none
  z_min : mg "min" = none
  z_range : mg "range" = none
  z_abs : mg "abs" = none
  z_sum : mg "sum" = none
  z_enumerate : mg "enumerate" = none
  z_zip : mg "zip" = none
  i_LONGEST_NAME : ∃ t, mg "LONGEST_NAME" = some (.int 10 t)
  i_BIGGEST_SIZE : ∃ t, mg "BIGGEST_SIZE" = some (.int 99999 t)
  i_MOST_WORDS : ∃ t, mg "MOST_WORDS" = some (.int 60 t)
  i_MOST_NAMES : ∃ t, mg "MOST_NAMES" = some (.int 4 t)
  i_LONGEST_NUMBER : ∃ t, mg "LONGEST_NUMBER" = some (.int 5 t)
  i_SIGNS : ∃ t, mg "SIGNS" = some (.str ("abcdefghijklmnopqrstuvwxyz" : Str) t)
  i_DIGITS : ∃ t, mg "DIGITS" = some (.str ("0123456789" : Str) t)
  g_FACTS : mg "FACTS" = some (.ref (He.ga K "FACTS"))
  g_DEEDS : mg "DEEDS" = some (.ref (He.ga K "DEEDS"))
  g_WORD_FACTS : mg "WORD_FACTS" = some (.ref (He.ga K "WORD_FACTS"))
  t_FACTS : ∃ es n, KDict K w (He.ga K "FACTS") es n
  v_FACTS : ∀ q ∈ ([("from", 1), ("has", 1), ("first", 1), ("last", 1), ("pair", 2), ("marked", 1)] : List (Str × Int)), ∃ u, PySem.W.nsIn K (He.ga K "FACTS") q.1 = some (some u) ∧ RelV (.int q.2) u
  t_DEEDS : ∀ H, SqT K H (He.ga K "DEEDS") [.str "mark", .str "unmark", .str "file", .str "pass"]
  t_WORD_FACTS : ∀ H, SqT K H (He.ga K "WORD_FACTS") [.str "has", .str "first", .str "last", .str "pair"]
  t_is_name : TabB base mg (cc_is_name K) (tb_is_name K)
  t_is_letter : TabB base mg (cc_is_letter K) (tb_is_letter K)
  t_is_number : TabB base mg (cc_is_number K) (tb_is_number K)
  t_Way_holds : TabB base mg (cc_Way_holds K) (tb_Way_holds K)

/-! ### a def as FnR -/
section
variable {P : Program} {w : World} {K : PySem.W.Frag} {mg : Str → Option Value} {base : Heap}
theorem mkR {x qual : Str} {st : Stmt} {N ps : List Str} {k : Nat} {sp : Sp} {f : Addr} (F : FD K x qual st f) (S : FnScope N ps (defScope st))
    (hb : ∀ (kV doc pm : Value) (an : Option Addr) (cdv ct : Value) (us : List Value), us.length = ps.length → bindArgs (PySem.W.fnOf x qual (defArgs st) (defBody st) (defScope st) .none kV doc pm an cdv ct) ⟨us, []⟩ = pure (ps.zip us))
    (len : ∀ vs H Q E, sp vs H Q E → vs.length = ps.length)
    (hbody : ∀ (cdv : Value) (A : Around) (outer : List Env) (s : Shared) (H : Hp) (vs : List V) (Q : VK) (E : XK), Room k (A.deeper (envOfC qual (defScope st) s.heap.objs.size f cdv)) → sp vs H Q E →
      ∃ t, PSs (cxOf CX0 P w K mg base N qual (defScope st) f cdv A outer s H E) (defBody st) t ∧ t { nx := fun _ H' => Q .non H', rt := Q } (start N vs) H) : FnR P w K mg base CX0 (k + 1) f sp := by
  obtain ⟨fd, F⟩ := F
  have ok : FnOk P w K mg base CX0 (k + 1) f fd ps sp := F.ok S len hbody
  have b : Binds K fd ps [] := F.bindsN hb
  exact (ok.raw b .nil).imp fun vs H Q E h => by rw [List.append_nil]; exact h
theorem mkRC {x qual : Str} {st : Stmt} {N ps : List Str} {k : Nat} {sp : Sp} {f : Addr} {p : Str × Option Str} (hp : He.fAd K p = f) (F : FD K x qual st f) (S : FnScope N ps (defScope st))
    (hb : ∀ (kV doc pm : Value) (an : Option Addr) (cdv ct : Value) (us : List Value), us.length = ps.length → bindArgs (PySem.W.fnOf x qual (defArgs st) (defBody st) (defScope st) .none kV doc pm an cdv ct) ⟨us, []⟩ = pure (ps.zip us))
    (len : ∀ vs H Q E, sp vs H Q E → vs.length = ps.length)
    (hbody : ∀ (A : Around) (outer : List Env) (s : Shared) (H : Hp) (vs : List V) (Q : VK) (E : XK), Room k (A.deeper (envOfC qual (defScope st) s.heap.objs.size f (.ref (He.codeOf K p)))) → sp vs H Q E →
      ∃ t, PSs (cxOf CX0 P w K mg base N qual (defScope st) f (.ref (He.codeOf K p)) A outer s H E) (defBody st) t ∧ t { nx := fun _ H' => Q .non H', rt := Q } (start N vs) H) : FnR P w K mg base CX0 (k + 1) f sp := by
  obtain ⟨fd, F⟩ := F
  have b : Binds K fd ps [] := F.bindsN hb
  have ok : FnOk P w K mg base CX0 (k + 1) f fd ps sp := by
    obtain ⟨oc, od, dV, kV, doc, pm, an, cdv, ct, osl, rfl, lk, hcd, _, _⟩ := F.ex
    obtain ⟨c, rfl⟩ := He.codeIn_ref hcd
    subst hp
    have e : He.codeOf K p = c := He.codeOf_eq lk rfl
    subst e
    exact fn_of lk hcd S len hbody
  exact (ok.raw b .nil).imp fun vs H Q E h => by rw [List.append_nil]; exact h
end

theorem bd_is_name (kV doc pm : Value) (an : Option Addr) (cdv ct : Value) (us : List Value) (hl : us.length = (["thing"] : List Str).length) : bindArgs (PySem.W.fnOf "is_name" "is_name" (defArgs s_is_name) (defBody s_is_name) (defScope s_is_name) .none kV doc pm an cdv ct) ⟨us, []⟩ = pure ((["thing"] : List Str).zip us) := match us, hl with | [_], _ => rfl
theorem bd_is_size (kV doc pm : Value) (an : Option Addr) (cdv ct : Value) (us : List Value) (hl : us.length = (["thing"] : List Str).length) : bindArgs (PySem.W.fnOf "is_size" "is_size" (defArgs s_is_size) (defBody s_is_size) (defScope s_is_size) .none kV doc pm an cdv ct) ⟨us, []⟩ = pure ((["thing"] : List Str).zip us) := match us, hl with | [_], _ => rfl
theorem bd_is_letter (kV doc pm : Value) (an : Option Addr) (cdv ct : Value) (us : List Value) (hl : us.length = (["thing"] : List Str).length) : bindArgs (PySem.W.fnOf "is_letter" "is_letter" (defArgs s_is_letter) (defBody s_is_letter) (defScope s_is_letter) .none kV doc pm an cdv ct) ⟨us, []⟩ = pure ((["thing"] : List Str).zip us) := match us, hl with | [_], _ => rfl
theorem bd_name_key (kV doc pm : Value) (an : Option Addr) (cdv ct : Value) (us : List Value) (hl : us.length = (["name"] : List Str).length) : bindArgs (PySem.W.fnOf "name_key" "name_key" (defArgs s_name_key) (defBody s_name_key) (defScope s_name_key) .none kV doc pm an cdv ct) ⟨us, []⟩ = pure ((["name"] : List Str).zip us) := match us, hl with | [_], _ => rfl
theorem bd_in_order (kV doc pm : Value) (an : Option Addr) (cdv ct : Value) (us : List Value) (hl : us.length = (["names"] : List Str).length) : bindArgs (PySem.W.fnOf "in_order" "in_order" (defArgs s_in_order) (defBody s_in_order) (defScope s_in_order) .none kV doc pm an cdv ct) ⟨us, []⟩ = pure ((["names"] : List Str).zip us) := match us, hl with | [_], _ => rfl
theorem bd_Rule_init (kV doc pm : Value) (an : Option Addr) (cdv ct : Value) (us : List Value) (hl : us.length = (["self", "words", "condition", "deeds"] : List Str).length) : bindArgs (PySem.W.fnOf "__init__" "Rule.__init__" (defArgs s_Rule_init) (defBody s_Rule_init) (defScope s_Rule_init) .none kV doc pm an cdv ct) ⟨us, []⟩ = pure ((["self", "words", "condition", "deeds"] : List Str).zip us) := match us, hl with | [_, _, _, _], _ => rfl
theorem bd_Reader_init (kV doc pm : Value) (an : Option Addr) (cdv ct : Value) (us : List Value) (hl : us.length = (["self", "words", "row"] : List Str).length) : bindArgs (PySem.W.fnOf "__init__" "Reader.__init__" (defArgs s_Reader_init) (defBody s_Reader_init) (defScope s_Reader_init) .none kV doc pm an cdv ct) ⟨us, []⟩ = pure ((["self", "words", "row"] : List Str).zip us) := match us, hl with | [_, _, _], _ => rfl
theorem bd_Reader_fail (kV doc pm : Value) (an : Option Addr) (cdv ct : Value) (us : List Value) (hl : us.length = (["self"] : List Str).length) : bindArgs (PySem.W.fnOf "fail" "Reader.fail" (defArgs s_Reader_fail) (defBody s_Reader_fail) (defScope s_Reader_fail) .none kV doc pm an cdv ct) ⟨us, []⟩ = pure ((["self"] : List Str).zip us) := match us, hl with | [_], _ => rfl
theorem bd_Reader_peek (kV doc pm : Value) (an : Option Addr) (cdv ct : Value) (us : List Value) (hl : us.length = (["self"] : List Str).length) : bindArgs (PySem.W.fnOf "peek" "Reader.peek" (defArgs s_Reader_peek) (defBody s_Reader_peek) (defScope s_Reader_peek) .none kV doc pm an cdv ct) ⟨us, []⟩ = pure ((["self"] : List Str).zip us) := match us, hl with | [_], _ => rfl
theorem bd_Reader_take (kV doc pm : Value) (an : Option Addr) (cdv ct : Value) (us : List Value) (hl : us.length = (["self", "word"] : List Str).length) : bindArgs (PySem.W.fnOf "take" "Reader.take" (defArgs s_Reader_take) (defBody s_Reader_take) (defScope s_Reader_take) .none kV doc pm an cdv ct) ⟨us, []⟩ = pure ((["self", "word"] : List Str).zip us) := match us, hl with | [_, _], _ => rfl
theorem bd_Reader_skip (kV doc pm : Value) (an : Option Addr) (cdv ct : Value) (us : List Value) (hl : us.length = (["self", "word"] : List Str).length) : bindArgs (PySem.W.fnOf "skip" "Reader.skip" (defArgs s_Reader_skip) (defBody s_Reader_skip) (defScope s_Reader_skip) .none kV doc pm an cdv ct) ⟨us, []⟩ = pure ((["self", "word"] : List Str).zip us) := match us, hl with | [_, _], _ => rfl
theorem bd_Reader_take_name (kV doc pm : Value) (an : Option Addr) (cdv ct : Value) (us : List Value) (hl : us.length = (["self"] : List Str).length) : bindArgs (PySem.W.fnOf "take_name" "Reader.take_name" (defArgs s_Reader_take_name) (defBody s_Reader_take_name) (defScope s_Reader_take_name) .none kV doc pm an cdv ct) ⟨us, []⟩ = pure ((["self"] : List Str).zip us) := match us, hl with | [_], _ => rfl
theorem bd_Reader_take_number (kV doc pm : Value) (an : Option Addr) (cdv ct : Value) (us : List Value) (hl : us.length = (["self"] : List Str).length) : bindArgs (PySem.W.fnOf "take_number" "Reader.take_number" (defArgs s_Reader_take_number) (defBody s_Reader_take_number) (defScope s_Reader_take_number) .none kV doc pm an cdv ct) ⟨us, []⟩ = pure ((["self"] : List Str).zip us) := match us, hl with | [_], _ => rfl
theorem bd_Reader_read_rule (kV doc pm : Value) (an : Option Addr) (cdv ct : Value) (us : List Value) (hl : us.length = (["self"] : List Str).length) : bindArgs (PySem.W.fnOf "read_rule" "Reader.read_rule" (defArgs s_Reader_read_rule) (defBody s_Reader_read_rule) (defScope s_Reader_read_rule) .none kV doc pm an cdv ct) ⟨us, []⟩ = pure ((["self"] : List Str).zip us) := match us, hl with | [_], _ => rfl
theorem bd_Reader_read_condition (kV doc pm : Value) (an : Option Addr) (cdv ct : Value) (us : List Value) (hl : us.length = (["self"] : List Str).length) : bindArgs (PySem.W.fnOf "read_condition" "Reader.read_condition" (defArgs s_Reader_read_condition) (defBody s_Reader_read_condition) (defScope s_Reader_read_condition) .none kV doc pm an cdv ct) ⟨us, []⟩ = pure ((["self"] : List Str).zip us) := match us, hl with | [_], _ => rfl
theorem bd_Reader_read_joined (kV doc pm : Value) (an : Option Addr) (cdv ct : Value) (us : List Value) (hl : us.length = (["self"] : List Str).length) : bindArgs (PySem.W.fnOf "read_joined" "Reader.read_joined" (defArgs s_Reader_read_joined) (defBody s_Reader_read_joined) (defScope s_Reader_read_joined) .none kV doc pm an cdv ct) ⟨us, []⟩ = pure ((["self"] : List Str).zip us) := match us, hl with | [_], _ => rfl
theorem bd_Reader_read_single (kV doc pm : Value) (an : Option Addr) (cdv ct : Value) (us : List Value) (hl : us.length = (["self"] : List Str).length) : bindArgs (PySem.W.fnOf "read_single" "Reader.read_single" (defArgs s_Reader_read_single) (defBody s_Reader_read_single) (defScope s_Reader_read_single) .none kV doc pm an cdv ct) ⟨us, []⟩ = pure ((["self"] : List Str).zip us) := match us, hl with | [_], _ => rfl
theorem bd_Reader_read_fact (kV doc pm : Value) (an : Option Addr) (cdv ct : Value) (us : List Value) (hl : us.length = (["self"] : List Str).length) : bindArgs (PySem.W.fnOf "read_fact" "Reader.read_fact" (defArgs s_Reader_read_fact) (defBody s_Reader_read_fact) (defScope s_Reader_read_fact) .none kV doc pm an cdv ct) ⟨us, []⟩ = pure ((["self"] : List Str).zip us) := match us, hl with | [_], _ => rfl
theorem bd_Reader_read_deed (kV doc pm : Value) (an : Option Addr) (cdv ct : Value) (us : List Value) (hl : us.length = (["self"] : List Str).length) : bindArgs (PySem.W.fnOf "read_deed" "Reader.read_deed" (defArgs s_Reader_read_deed) (defBody s_Reader_read_deed) (defScope s_Reader_read_deed) .none kV doc pm an cdv ct) ⟨us, []⟩ = pure ((["self"] : List Str).zip us) := match us, hl with | [_], _ => rfl
theorem bd_is_number (kV doc pm : Value) (an : Option Addr) (cdv ct : Value) (us : List Value) (hl : us.length = (["word"] : List Str).length) : bindArgs (PySem.W.fnOf "is_number" "is_number" (defArgs s_is_number) (defBody s_is_number) (defScope s_is_number) .none kV doc pm an cdv ct) ⟨us, []⟩ = pure ((["word"] : List Str).zip us) := match us, hl with | [_], _ => rfl
theorem bd_words_of (kV doc pm : Value) (an : Option Addr) (cdv ct : Value) (us : List Value) (hl : us.length = (["row"] : List Str).length) : bindArgs (PySem.W.fnOf "words_of" "words_of" (defArgs s_words_of) (defBody s_words_of) (defScope s_words_of) .none kV doc pm an cdv ct) ⟨us, []⟩ = pure ((["row"] : List Str).zip us) := match us, hl with | [_], _ => rfl
theorem bd_rule_of (kV doc pm : Value) (an : Option Addr) (cdv ct : Value) (us : List Value) (hl : us.length = (["words", "row"] : List Str).length) : bindArgs (PySem.W.fnOf "rule_of" "rule_of" (defArgs s_rule_of) (defBody s_rule_of) (defScope s_rule_of) .none kV doc pm an cdv ct) ⟨us, []⟩ = pure ((["words", "row"] : List Str).zip us) := match us, hl with | [_, _], _ => rfl
theorem bd_read (kV doc pm : Value) (an : Option Addr) (cdv ct : Value) (us : List Value) (hl : us.length = (["text"] : List Str).length) : bindArgs (PySem.W.fnOf "read" "read" (defArgs s_read) (defBody s_read) (defScope s_read) .none kV doc pm an cdv ct) ⟨us, []⟩ = pure ((["text"] : List Str).zip us) := match us, hl with | [_], _ => rfl
theorem bd_check_names (kV doc pm : Value) (an : Option Addr) (cdv ct : Value) (us : List Value) (hl : us.length = (["rules"] : List Str).length) : bindArgs (PySem.W.fnOf "check_names" "check_names" (defArgs s_check_names) (defBody s_check_names) (defScope s_check_names) .none kV doc pm an cdv ct) ⟨us, []⟩ = pure ((["rules"] : List Str).zip us) := match us, hl with | [_], _ => rfl
theorem bd_word_names (kV doc pm : Value) (an : Option Addr) (cdv ct : Value) (us : List Value) (hl : us.length = (["rules"] : List Str).length) : bindArgs (PySem.W.fnOf "word_names" "word_names" (defArgs s_word_names) (defBody s_word_names) (defScope s_word_names) .none kV doc pm an cdv ct) ⟨us, []⟩ = pure ((["rules"] : List Str).zip us) := match us, hl with | [_], _ => rfl
theorem bd_facts_of (kV doc pm : Value) (an : Option Addr) (cdv ct : Value) (us : List Value) (hl : us.length = (["rules"] : List Str).length) : bindArgs (PySem.W.fnOf "facts_of" "facts_of" (defArgs s_facts_of) (defBody s_facts_of) (defScope s_facts_of) .none kV doc pm an cdv ct) ⟨us, []⟩ = pure ((["rules"] : List Str).zip us) := match us, hl with | [_], _ => rfl
theorem bd_add_facts (kV doc pm : Value) (an : Option Addr) (cdv ct : Value) (us : List Value) (hl : us.length = (["condition", "found"] : List Str).length) : bindArgs (PySem.W.fnOf "add_facts" "add_facts" (defArgs s_add_facts) (defBody s_add_facts) (defScope s_add_facts) .none kV doc pm an cdv ct) ⟨us, []⟩ = pure ((["condition", "found"] : List Str).zip us) := match us, hl with | [_, _], _ => rfl
theorem bd_sort (kV doc pm : Value) (an : Option Addr) (cdv ct : Value) (us : List Value) (hl : us.length = (["rules", "letter"] : List Str).length) : bindArgs (PySem.W.fnOf "sort" "sort" (defArgs s_sort) (defBody s_sort) (defScope s_sort) .none kV doc pm an cdv ct) ⟨us, []⟩ = pure ((["rules", "letter"] : List Str).zip us) := match us, hl with | [_, _], _ => rfl
theorem bd_acting (kV doc pm : Value) (an : Option Addr) (cdv ct : Value) (us : List Value) (hl : us.length = (["rules", "letter"] : List Str).length) : bindArgs (PySem.W.fnOf "acting" "acting" (defArgs s_acting) (defBody s_acting) (defScope s_acting) .none kV doc pm an cdv ct) ⟨us, []⟩ = pure ((["rules", "letter"] : List Str).zip us) := match us, hl with | [_, _], _ => rfl
theorem bd_check_letter (kV doc pm : Value) (an : Option Addr) (cdv ct : Value) (us : List Value) (hl : us.length = (["letter"] : List Str).length) : bindArgs (PySem.W.fnOf "check_letter" "check_letter" (defArgs s_check_letter) (defBody s_check_letter) (defScope s_check_letter) .none kV doc pm an cdv ct) ⟨us, []⟩ = pure ((["letter"] : List Str).zip us) := match us, hl with | [_], _ => rfl
theorem bd_way_through (kV doc pm : Value) (an : Option Addr) (cdv ct : Value) (us : List Value) (hl : us.length = (["rules", "letter"] : List Str).length) : bindArgs (PySem.W.fnOf "way_through" "way_through" (defArgs s_way_through) (defBody s_way_through) (defScope s_way_through) .none kV doc pm an cdv ct) ⟨us, []⟩ = pure ((["rules", "letter"] : List Str).zip us) := match us, hl with | [_, _], _ => rfl
theorem bd_Way_init (kV doc pm : Value) (an : Option Addr) (cdv ct : Value) (us : List Value) (hl : us.length = (["self", "letter"] : List Str).length) : bindArgs (PySem.W.fnOf "__init__" "Way.__init__" (defArgs s_Way_init) (defBody s_Way_init) (defScope s_Way_init) .none kV doc pm an cdv ct) ⟨us, []⟩ = pure ((["self", "letter"] : List Str).zip us) := match us, hl with | [_, _], _ => rfl
theorem bd_Way_outcome (kV doc pm : Value) (an : Option Addr) (cdv ct : Value) (us : List Value) (hl : us.length = (["self"] : List Str).length) : bindArgs (PySem.W.fnOf "outcome" "Way.outcome" (defArgs s_Way_outcome) (defBody s_Way_outcome) (defScope s_Way_outcome) .none kV doc pm an cdv ct) ⟨us, []⟩ = pure ((["self"] : List Str).zip us) := match us, hl with | [_], _ => rfl
theorem bd_Way_act (kV doc pm : Value) (an : Option Addr) (cdv ct : Value) (us : List Value) (hl : us.length = (["self", "number", "deeds"] : List Str).length) : bindArgs (PySem.W.fnOf "act" "Way.act" (defArgs s_Way_act) (defBody s_Way_act) (defScope s_Way_act) .none kV doc pm an cdv ct) ⟨us, []⟩ = pure ((["self", "number", "deeds"] : List Str).zip us) := match us, hl with | [_, _, _], _ => rfl
theorem bd_Way_holds (kV doc pm : Value) (an : Option Addr) (cdv ct : Value) (us : List Value) (hl : us.length = (["self", "condition"] : List Str).length) : bindArgs (PySem.W.fnOf "holds" "Way.holds" (defArgs s_Way_holds) (defBody s_Way_holds) (defScope s_Way_holds) .none kV doc pm an cdv ct) ⟨us, []⟩ = pure ((["self", "condition"] : List Str).zip us) := match us, hl with | [_, _], _ => rfl
theorem bd_Way_fact_holds (kV doc pm : Value) (an : Option Addr) (cdv ct : Value) (us : List Value) (hl : us.length = (["self", "kind", "worth", "fact"] : List Str).length) : bindArgs (PySem.W.fnOf "fact_holds" "Way.fact_holds" (defArgs s_Way_fact_holds) (defBody s_Way_fact_holds) (defScope s_Way_fact_holds) .none kV doc pm an cdv ct) ⟨us, []⟩ = pure ((["self", "kind", "worth", "fact"] : List Str).zip us) := match us, hl with | [_, _, _, _], _ => rfl
theorem bd_Way_has_pair (kV doc pm : Value) (an : Option Addr) (cdv ct : Value) (us : List Value) (hl : us.length = (["self", "one", "other"] : List Str).length) : bindArgs (PySem.W.fnOf "has_pair" "Way.has_pair" (defArgs s_Way_has_pair) (defBody s_Way_has_pair) (defScope s_Way_has_pair) .none kV doc pm an cdv ct) ⟨us, []⟩ = pure ((["self", "one", "other"] : List Str).zip us) := match us, hl with | [_, _, _], _ => rfl
theorem bd_law_draw (kV doc pm : Value) (an : Option Addr) (cdv ct : Value) (us : List Value) (hl : us.length = (["_law_cell", "_law_k", "_law_many"] : List Str).length) : bindArgs (PySem.W.fnOf "_law_draw" "_law_draw" (defArgs s_law_draw) (defBody s_law_draw) (defScope s_law_draw) .none kV doc pm an cdv ct) ⟨us, []⟩ = pure ((["_law_cell", "_law_k", "_law_many"] : List Str).zip us) := match us, hl with | [_, _, _], _ => rfl
theorem bd_law_cell_at (kV doc pm : Value) (an : Option Addr) (cdv ct : Value) (us : List Value) (hl : us.length = (["_law_script", "_law_k"] : List Str).length) : bindArgs (PySem.W.fnOf "_law_cell_at" "_law_cell_at" (defArgs s_law_cell_at) (defBody s_law_cell_at) (defScope s_law_cell_at) .none kV doc pm an cdv ct) ⟨us, []⟩ = pure ((["_law_script", "_law_k"] : List Str).zip us) := match us, hl with | [_, _], _ => rfl
theorem bd_law_digits (kV doc pm : Value) (an : Option Addr) (cdv ct : Value) (us : List Value) (hl : us.length = (["_law_script", "_law_at", "_law_many", "_law_base"] : List Str).length) : bindArgs (PySem.W.fnOf "_law_digits" "_law_digits" (defArgs s_law_digits) (defBody s_law_digits) (defScope s_law_digits) .none kV doc pm an cdv ct) ⟨us, []⟩ = pure ((["_law_script", "_law_at", "_law_many", "_law_base"] : List Str).zip us) := match us, hl with | [_, _, _, _], _ => rfl
theorem bd_law_words (kV doc pm : Value) (an : Option Addr) (cdv ct : Value) (us : List Value) (hl : us.length = (["_law_script", "_law_at"] : List Str).length) : bindArgs (PySem.W.fnOf "_law_words" "_law_words" (defArgs s_law_words) (defBody s_law_words) (defScope s_law_words) .none kV doc pm an cdv ct) ⟨us, []⟩ = pure ((["_law_script", "_law_at"] : List Str).zip us) := match us, hl with | [_, _], _ => rfl
theorem bd_law_fact (kV doc pm : Value) (an : Option Addr) (cdv ct : Value) (us : List Value) (hl : us.length = (["_law_draw_here", "_law_words_here", "_law_kinds"] : List Str).length) : bindArgs (PySem.W.fnOf "_law_fact" "_law_fact" (defArgs s_law_fact) (defBody s_law_fact) (defScope s_law_fact) .none kV doc pm an cdv ct) ⟨us, []⟩ = pure ((["_law_draw_here", "_law_words_here", "_law_kinds"] : List Str).zip us) := match us, hl with | [_, _, _], _ => rfl
theorem bd_law_unit (kV doc pm : Value) (an : Option Addr) (cdv ct : Value) (us : List Value) (hl : us.length = (["_law_draws", "_law_words_here", "_law_kinds"] : List Str).length) : bindArgs (PySem.W.fnOf "_law_unit" "_law_unit" (defArgs s_law_unit) (defBody s_law_unit) (defScope s_law_unit) .none kV doc pm an cdv ct) ⟨us, []⟩ = pure ((["_law_draws", "_law_words_here", "_law_kinds"] : List Str).zip us) := match us, hl with | [_, _, _], _ => rfl
theorem bd_law_condition (kV doc pm : Value) (an : Option Addr) (cdv ct : Value) (us : List Value) (hl : us.length = (["_law_draws", "_law_words_here", "_law_kinds"] : List Str).length) : bindArgs (PySem.W.fnOf "_law_condition" "_law_condition" (defArgs s_law_condition) (defBody s_law_condition) (defScope s_law_condition) .none kV doc pm an cdv ct) ⟨us, []⟩ = pure ((["_law_draws", "_law_words_here", "_law_kinds"] : List Str).zip us) := match us, hl with | [_, _, _], _ => rfl
theorem bd_law_deeds (kV doc pm : Value) (an : Option Addr) (cdv ct : Value) (us : List Value) (hl : us.length = (["_law_draws", "_law_words_here"] : List Str).length) : bindArgs (PySem.W.fnOf "_law_deeds" "_law_deeds" (defArgs s_law_deeds) (defBody s_law_deeds) (defScope s_law_deeds) .none kV doc pm an cdv ct) ⟨us, []⟩ = pure ((["_law_draws", "_law_words_here"] : List Str).zip us) := match us, hl with | [_, _], _ => rfl
theorem bd_law_rules (kV doc pm : Value) (an : Option Addr) (cdv ct : Value) (us : List Value) (hl : us.length = (["_law_script", "_law_at", "_law_words_here", "_law_many", "_law_kinds"] : List Str).length) : bindArgs (PySem.W.fnOf "_law_rules" "_law_rules" (defArgs s_law_rules) (defBody s_law_rules) (defScope s_law_rules) .none kV doc pm an cdv ct) ⟨us, []⟩ = pure ((["_law_script", "_law_at", "_law_words_here", "_law_many", "_law_kinds"] : List Str).zip us) := match us, hl with | [_, _, _, _, _], _ => rfl
theorem bd_law_told (kV doc pm : Value) (an : Option Addr) (cdv ct : Value) (us : List Value) (hl : us.length = (["_law_condition_here"] : List Str).length) : bindArgs (PySem.W.fnOf "_law_told" "_law_told" (defArgs s_law_told) (defBody s_law_told) (defScope s_law_told) .none kV doc pm an cdv ct) ⟨us, []⟩ = pure ((["_law_condition_here"] : List Str).zip us) := match us, hl with | [_], _ => rfl
theorem bd_law_rule_words (kV doc pm : Value) (an : Option Addr) (cdv ct : Value) (us : List Value) (hl : us.length = (["_law_rule"] : List Str).length) : bindArgs (PySem.W.fnOf "_law_rule_words" "_law_rule_words" (defArgs s_law_rule_words) (defBody s_law_rule_words) (defScope s_law_rule_words) .none kV doc pm an cdv ct) ⟨us, []⟩ = pure ((["_law_rule"] : List Str).zip us) := match us, hl with | [_], _ => rfl
theorem bd_law_text (kV doc pm : Value) (an : Option Addr) (cdv ct : Value) (us : List Value) (hl : us.length = (["_law_rules_here"] : List Str).length) : bindArgs (PySem.W.fnOf "_law_text" "_law_text" (defArgs s_law_text) (defBody s_law_text) (defScope s_law_text) .none kV doc pm an cdv ct) ⟨us, []⟩ = pure ((["_law_rules_here"] : List Str).zip us) := match us, hl with | [_], _ => rfl
theorem bd_law_holds (kV doc pm : Value) (an : Option Addr) (cdv ct : Value) (us : List Value) (hl : us.length = (["_law_condition_here", "_law_letter_here", "_law_marks"] : List Str).length) : bindArgs (PySem.W.fnOf "_law_holds" "_law_holds" (defArgs s_law_holds) (defBody s_law_holds) (defScope s_law_holds) .none kV doc pm an cdv ct) ⟨us, []⟩ = pure ((["_law_condition_here", "_law_letter_here", "_law_marks"] : List Str).zip us) := match us, hl with | [_, _, _], _ => rfl
theorem bd_law_rank (kV doc pm : Value) (an : Option Addr) (cdv ct : Value) (us : List Value) (hl : us.length = (["_law_name"] : List Str).length) : bindArgs (PySem.W.fnOf "_law_rank" "_law_rank" (defArgs s_law_rank) (defBody s_law_rank) (defScope s_law_rank) .none kV doc pm an cdv ct) ⟨us, []⟩ = pure ((["_law_name"] : List Str).zip us) := match us, hl with | [_], _ => rfl
theorem bd_law_sort (kV doc pm : Value) (an : Option Addr) (cdv ct : Value) (us : List Value) (hl : us.length = (["_law_rules_here", "_law_letter_here"] : List Str).length) : bindArgs (PySem.W.fnOf "_law_sort" "_law_sort" (defArgs s_law_sort) (defBody s_law_sort) (defScope s_law_sort) .none kV doc pm an cdv ct) ⟨us, []⟩ = pure ((["_law_rules_here", "_law_letter_here"] : List Str).zip us) := match us, hl with | [_, _], _ => rfl
theorem bd_law_letter (kV doc pm : Value) (an : Option Addr) (cdv ct : Value) (us : List Value) (hl : us.length = (["_law_script", "_law_at", "_law_words_here"] : List Str).length) : bindArgs (PySem.W.fnOf "_law_letter" "_law_letter" (defArgs s_law_letter) (defBody s_law_letter) (defScope s_law_letter) .none kV doc pm an cdv ct) ⟨us, []⟩ = pure ((["_law_script", "_law_at", "_law_words_here"] : List Str).zip us) := match us, hl with | [_, _, _], _ => rfl
theorem bd_law_sort_right (kV doc pm : Value) (an : Option Addr) (cdv ct : Value) (us : List Value) (hl : us.length = (["_law_text_here", "_law_rules_here", "_law_letter_here"] : List Str).length) : bindArgs (PySem.W.fnOf "_law_sort_right" "_law_sort_right" (defArgs s_law_sort_right) (defBody s_law_sort_right) (defScope s_law_sort_right) .none kV doc pm an cdv ct) ⟨us, []⟩ = pure ((["_law_text_here", "_law_rules_here", "_law_letter_here"] : List Str).zip us) := match us, hl with | [_, _, _], _ => rfl
theorem bd_law (kV doc pm : Value) (an : Option Addr) (cdv ct : Value) (us : List Value) (hl : us.length = (["_law_script"] : List Str).length) : bindArgs (PySem.W.fnOf "law" "law" (defArgs s_law) (defBody s_law) (defScope s_law) .none kV doc pm an cdv ct) ⟨us, []⟩ = pure ((["_law_script"] : List Str).zip us) := match us, hl with | [_], _ => rfl

/-! ### calls of an FnR -/
section
variable {X : Cx} {k : Nat} {f C : Addr} {sp : Sp} {x m : Str} {e o : Expr} {es : List Expr} {ta : TE} {t : TA} {p pos apos : Pos}
def tCF (sp : Sp) (t : TA) : TE := fun σ H Q => t σ H fun vs H1 => sp vs H1 Q E0
theorem pe_cF (F : FnR X.prog X.w X.K X.mg X.base CX0 k f sp) (hr : Room k X.A) (hg : Gl X x) (hm : X.mg x = some (.ref f)) (hk : PySem.W.keepIn X.K (.ref f) = true)
    (ha : PA X (e :: es) t) (hdb : (x == ("__debug__" : Str)) = false := by decide) (he : starEach (e :: es) X.env = (false, eval e X.env) :: starEach es X.env := by rfl) (hpl : (backTo pos (starEach es X.env)).any (·.1) = false := by rfl) :
    PE X (.Call (.Name x p) (e :: es) [] pos) (tCF sp t) := by
  refine ⟨fun pins s σ H Q I h => ?_⟩
  refine wpAny_Call_Name_kw (ld_glob I hg hm ?_ hdb)
  refine PySem.W.callWith_K (h₀ := X.base) I.ok.mod.kin hk (thn (ha.run pos pins s σ H _ I h) fun us s1 ⟨vs, H1, I1, r, q⟩ => ⟨I1.kIn, ?_⟩) he hpl
  exact wpAny_call (run_fnR (us := us) F hr pass0 I1 r q)
def tM0 (C : Addr) (m : Str) (sp : Sp) (ta : TE) : TE := fun σ H Q => ta σ H fun x H1 => ∃ a dx fs, x = .ref a ∧ H1 a = some (.ins C dx fs) ∧ fs.lookup m = none ∧ sp [x] H1 Q E0
theorem pe_m0F {pl : Sem Bool} (he : PE X o ta) (c : Cls X.K C) (hm : Meth X.K C m f) (F : FnR X.prog X.w X.K X.mg X.base CX0 k f sp) (hr : Room k X.A)
    (ht : eval (.Call (.Attribute o m apos) [] [] pos) X.env = (do
      let ov ← eval o X.env
      standAt apos.atName
      let (f, first) ← holding [ov] (getMethod ov m pl)
      callWith pos f first (backTo pos (starEach [] X.env)) (backToKw pos (keywordEach [] X.env))) := by rfl) :
    PE X (.Call (.Attribute o m apos) [] [] pos) (tM0 C m sp ta) := by
  refine ⟨fun pins s σ H Q I h => ?_⟩
  refine PySem.W.methodCall_KW (pl := pl) (thn (he.run pins s σ H _ I h) fun u s1 ⟨x, H1, I1, rx, a, dx, fs, ex, ea, l, q⟩ => ?_) ht
  subst ex
  obtain rfl : u = Value.ref a := rx
  refine getmeth_ok I1 ea c hm l ?_
  exact PySem.W.callWith_K0 (first := [.ref a]) I1.kIn hm.kp (wpAny_call (run_fnR (us := [.ref a]) (vs := [.ref a]) F hr pass0 I1 (.cons rfl .nil) q))
end
/-! ### frames -/
def NT (o : HO) : Prop := ∀ ps, o ≠ .tbl ps
def Tb (K : PySem.W.Frag) (H : Hp) : Prop := ∀ p ∈ tabs K, TabG H p
structure Fr (K : PySem.W.Frag) (E : List Addr) (H H' : Hp) : Prop where
  keep : ∀ p o, p ∉ E → H p = some o → NT o → H' p = some o
  tb : Tb K H'
  live : ∀ p, H' p = none → H p = none
section
variable {K : PySem.W.Frag} {E E' : List Addr} {H H1 H2 : Hp} {a p : Addr} {o o' : HO}
theorem Tb.ne (t : Tb K H) (h : H a = some o) (n : NT o) : a ∉ tabs K := fun m => by
  obtain ⟨ps, e, _⟩ := t a m
  rw [h] at e
  cases e
  exact n ps rfl
theorem Tb.ne0 (t : Tb K H) (h : H a = none) : a ∉ tabs K := fun m => by
  obtain ⟨ps, e, _⟩ := t a m
  rw [h] at e
  cases e
theorem Tb.upd (t : Tb K H) (h : a ∉ tabs K) : Tb K (upd H a o) := fun p m => by
  obtain ⟨ps, e, z⟩ := t p m
  exact ⟨ps, by rw [upd_ne (fun q => h (by rw [← q]; exact m))]; exact e, z⟩
theorem Fr.refl (t : Tb K H) : Fr K E H H := ⟨fun _ _ _ h _ => h, t, fun _ h => h⟩
theorem Fr.trans (a : Fr K E H H1) (b : Fr K E H1 H2) : Fr K E H H2 := ⟨fun p o n h z => b.1 p o n (a.1 p o n h z) z, b.2, fun p h => a.3 p (b.3 p h)⟩
theorem Fr.mono (a : Fr K E H H1) (s : ∀ x ∈ E, x ∈ E') : Fr K E' H H1 := ⟨fun p o n h z => a.1 p o (fun m => n (s p m)) h z, a.2, a.3⟩
theorem Fr.nil (a : Fr K [] H H1) : Fr K E H H1 := a.mono fun _ h => nomatch h
theorem upd_live (p : Addr) (h : upd H a o p = none) : H p = none := by
  by_cases e : p = a
  · rw [e, upd_same] at h; cases h
  · rw [upd_ne e] at h; exact h
theorem Fr.new (t : Tb K H) (h : H a = none) : Fr K E H (upd H a o) := ⟨fun p o n e _ => by rw [upd_ne (ne_of_none e h)]; exact e, t.upd (t.ne0 h), upd_live⟩
theorem Fr.put (t : Tb K H) (h : H a = some o) (nt : NT o) (m : a ∈ E) : Fr K E H (upd H a o') := ⟨fun p o n e _ => by rw [upd_ne (fun q => n (by rw [q]; exact m))]; exact e, t.upd (t.ne h nt), upd_live⟩
theorem Fr.at (f : Fr K E H H1) (h : H p = some o) (n : NT o := by intro _ z; cases z) (m : p ∉ E := by simp) : H1 p = some o := f.1 p o m h n
theorem Fr.drop (f : Fr K E H H1) (d : ∀ e ∈ E, H e = none) : Fr K [] H H1 := ⟨fun p o _ h z => f.1 p o (fun m => by rw [d p m] at h; cases h) h z, f.2, f.3⟩
theorem Fr.tab {P : Addr} (t : Tb K H) (h : Tabbed P H H1) (m : P ∈ tabs K) : Fr K E H H1 := by
  refine ⟨fun p o _ e n => ?_, fun q mq => ?_, fun p e => ?_⟩
  · by_cases hp : p = P
    · subst hp
      exact absurd m (t.ne e n)
    · rw [h.2 p hp]; exact e
  · by_cases hp : q = P
    · subst hp; exact h.1
    · obtain ⟨ps, e, z⟩ := t q mq
      exact ⟨ps, by rw [h.2 q hp]; exact e, z⟩
  · by_cases hp : p = P
    · subst hp
      obtain ⟨ps, e', _⟩ := h.1
      rw [e'] at e; cases e
    · rw [h.2 p hp] at e; exact e
/-- what is excluded is no list and no tuple: instances -/
def InsAll (H : Hp) (E : List Addr) : Prop := ∀ e ∈ E, ∃ C dx fs, H e = some (.ins C dx fs)
theorem Fr.sqL {xs : List V} (f : Fr K E H H1) (h : SqL K H a xs) (d : a ∉ E) : SqL K H1 a xs := by
  rcases h with (h | ⟨o, h⟩) | h
  · exact .inl (.inl (f.1 _ _ d h (by intro _ z; cases z)))
  · exact .inl (.inr ⟨o, f.1 _ _ d h (by intro _ z; cases z)⟩)
  · exact .inr h
end
end So
end

section
set_option Elab.async false
set_option linter.all false
set_option maxRecDepth 100000
set_option maxHeartbeats 4000000
/-! data in the heap: what stays; conditions, deeds -/
namespace So
open PySem PySem.Spec PyProof.Rows L2
open GxR (TabB TabG Tabbed)
section
variable {K : PySem.W.Frag} {E : List Addr} {H H1 : Hp} {a : Addr} {xs : List V}
theorem InsAll.nil : InsAll H [] := fun _ h => nomatch h
theorem InsAll.one {r C dx : Addr} {fs : List (Str × V)} (h : H r = some (.ins C dx fs)) : InsAll H [r] := fun e m => by
  rw [List.mem_singleton.mp m]
  exact ⟨_, _, _, h⟩
theorem Fr.rd {o : HO} (f : Fr K E H H1) (i : InsAll H E) (ho : ∀ C dx fs, o ≠ .ins C dx fs) (nt : NT o) (h : H a = some o ∨ ∃ q, H a = some (.frz q o)) : H1 a = some o ∨ ∃ q, H1 a = some (.frz q o) := by
  rcases h with h | ⟨q, h⟩
  · refine .inl (f.1 _ _ (fun m => ?_) h nt)
    obtain ⟨C, dx, fs, e⟩ := i a m
    rw [e] at h
    exact ho _ _ _ (Option.some.inj h).symm
  · refine .inr ⟨q, f.1 _ _ (fun m => ?_) h (by intro _ z; cases z)⟩
    obtain ⟨C, dx, fs, e⟩ := i a m
    rw [e] at h
    cases h
theorem Fr.sqL' (f : Fr K E H H1) (i : InsAll H E) (h : SqL K H a xs) : SqL K H1 a xs := by
  rcases h with h | h
  · exact .inl (f.rd i (by intro _ _ _ z; cases z) (by intro _ z; cases z) h)
  · exact .inr h
theorem Fr.sqT' (f : Fr K E H H1) (i : InsAll H E) (h : SqT K H a xs) : SqT K H1 a xs := by
  rcases h with h | h
  · exact .inl (f.rd i (by intro _ _ _ z; cases z) (by intro _ z; cases z) h)
  · exact .inr h
theorem Fr.dp (f : Fr K E H H1) (i : InsAll H E) {v : V} {d : PyData} (h : Dp K H v d) : Dp K H1 v d :=
  Dp.rec (motive_1 := fun v d _ => Dp K H1 v d) (motive_2 := fun vs ds _ => DpAll K H1 vs ds) .non .bl .int .str (fun h _ r => .lst (f.sqL' i h) r) (fun h _ r => .tup (f.sqT' i h) r) .nil (fun _ _ a b => .cons a b) h
theorem Fr.dps (f : Fr K E H H1) (i : InsAll H E) {vs : List V} {ds : List PyData} (h : DpAll K H vs ds) : DpAll K H1 vs ds := by
  induction vs generalizing ds with
  | nil => cases h; exact .nil
  | cons v vs ih =>
    cases h with
    | cons a b => exact .cons (f.dp i a) (ih b)
theorem dp_tup {v : V} {ds : List PyData} (h : Dp K H v (.tuple ds)) : ∃ a xs, v = .ref a ∧ SqT K H a xs ∧ DpAll K H xs ds := by
  cases h with
  | tup h r => exact ⟨_, _, rfl, h, r⟩
theorem dp_lst {v : V} {ds : List PyData} (h : Dp K H v (.list ds)) : ∃ a xs, v = .ref a ∧ SqL K H a xs ∧ DpAll K H xs ds := by
  cases h with
  | lst h r => exact ⟨_, _, rfl, h, r⟩
theorem dp_str {v : V} {x : Str} (h : Dp K H v (.str x)) : v = .str x := by cases h; rfl
theorem dp_int {v : V} {x : Int} (h : Dp K H v (.int x)) : v = .int x := by cases h; rfl
theorem dpAll_strs : ∀ {vs : List V} {xs : List Str}, DpAll K H vs (xs.map PyData.str) → vs = xs.map V.str
  | _, [], h => by cases h; rfl
  | _, x :: xs, h => by
    cases h with
    | cons a b => rw [dp_str a, dpAll_strs b]; rfl
theorem strs_dpAll : ∀ {xs : List Str}, DpAll K H (xs.map V.str) (xs.map PyData.str)
  | [] => .nil
  | x :: xs => .cons (.str x) strs_dpAll
theorem DpAll.len {vs : List V} {ds : List PyData} (h : DpAll K H vs ds) : vs.length = ds.length := by
  induction vs generalizing ds with
  | nil => cases h; rfl
  | cons v vs ih => cases h with | cons a b => simp [ih b]
theorem DpAll.at {vs : List V} {ds : List PyData} (h : DpAll K H vs ds) {i : Nat} {v : V} (e : vs[i]? = some v) : ∃ d, ds[i]? = some d ∧ Dp K H v d := by
  induction vs generalizing ds i with
  | nil => simp at e
  | cons u vs ih =>
    cases h with
    | cons a b =>
      cases i with
      | zero => simp only [List.getElem?_cons_zero, Option.some.injEq] at e; subst e; exact ⟨_, rfl, a⟩
      | succ i => simp only [List.getElem?_cons_succ] at e ⊢; exact ih b e
theorem DpAll.snoc {vs : List V} {ds : List PyData} {v : V} {d : PyData} (h : DpAll K H vs ds) (e : Dp K H v d) : DpAll K H (vs ++ [v]) (ds ++ [d]) := by
  induction vs generalizing ds with
  | nil => cases h; exact .cons e .nil
  | cons u vs ih => cases h with | cons a b => exact .cons a (ih b)
end
/-! ### data that is new -/
def seqO : HO → Bool
  | .lst _ => true
  | .tup _ => true
  | _ => false
/-- the lists and tuples that were not there in H0, but for E -/
def Nu (H0 : Hp) (E : List Addr) (H : Hp) : Hp := fun p => if H0 p = none ∧ p ∉ E then (match H p with
  | some o => if seqO o = true then some o else none
  | none => none) else none
section
variable {K : PySem.W.Frag} {E E' : List Addr} {H0 H0' H H' : Hp} {p : Addr} {o : HO}
theorem Nu.iff : Nu H0 E H p = some o ↔ H0 p = none ∧ p ∉ E ∧ H p = some o ∧ seqO o = true := by
  unfold Nu
  constructor
  · intro h
    split at h
    · rename_i c
      split at h
      · rename_i u e
        split at h
        · rename_i z
          cases h
          exact ⟨c.1, c.2, e, z⟩
        · cases h
      · cases h
    · cases h
  · rintro ⟨h1, h2, h3, h4⟩
    rw [if_pos ⟨h1, h2⟩, h3]
    show (if seqO o = true then some o else none) = some o
    rw [if_pos h4]
theorem Nu.same : Same (Nu H0 E H) H := fun _ _ h => (Nu.iff.mp h).2.2.1
theorem seq_nt (h : seqO o = true) : NT o := by
  intro ps z
  subst z
  cases h
theorem Nu.le (h : ∀ p o, H0 p = none → p ∉ E → H p = some o → seqO o = true → H0' p = none ∧ p ∉ E' ∧ H' p = some o) : Same (Nu H0 E H) (Nu H0' E' H') := fun p o e => by
  obtain ⟨a, b, c, d⟩ := Nu.iff.mp e
  obtain ⟨a', b', c'⟩ := h p o a b c d
  exact Nu.iff.mpr ⟨a', b', c', d⟩
/-- v is the data d, all of it tracked -/
inductive Tr (H : Hp) : V → PyData → Prop
  | non : Tr H .non .none
  | bl (b : Bool) : Tr H (.bl b) (.bool b)
  | int (i : Int) : Tr H (.int i) (.int i)
  | str (x : Str) : Tr H (.str x) (.str x)
  | lst {a : Addr} {xs : List V} {ds : List PyData} (e : H a = some (.lst xs)) (hl : xs.length = ds.length) (h : ∀ (i : Nat) (v : V) (d : PyData), xs[i]? = some v → ds[i]? = some d → Tr H v d) : Tr H (.ref a) (.list ds)
  | tup {a : Addr} {xs : List V} {ds : List PyData} (e : H a = some (.tup xs)) (hl : xs.length = ds.length) (h : ∀ (i : Nat) (v : V) (d : PyData), xs[i]? = some v → ds[i]? = some d → Tr H v d) : Tr H (.ref a) (.tuple ds)
/-- item by item -/
inductive TrAll (H : Hp) : List V → List PyData → Prop
  | nil : TrAll H [] []
  | cons {v : V} {d : PyData} {vs : List V} {ds : List PyData} : Tr H v d → TrAll H vs ds → TrAll H (v :: vs) (d :: ds)
theorem TrAll.len {vs : List V} {ds : List PyData} (h : TrAll H vs ds) : vs.length = ds.length := by
  induction h with
  | nil => rfl
  | cons _ _ ih => simp [ih]
theorem TrAll.at {vs : List V} {ds : List PyData} (h : TrAll H vs ds) : ∀ (i : Nat) (v : V) (d : PyData), vs[i]? = some v → ds[i]? = some d → Tr H v d := by
  induction h with
  | nil => intro i v d e; simp at e
  | cons a _ ih =>
    intro i v d e1 e2
    cases i with
    | zero => simp only [List.getElem?_cons_zero, Option.some.injEq] at e1 e2; subst e1 e2; exact a
    | succ i => exact ih i v d e1 e2
theorem TrAll.of : ∀ {vs : List V} {ds : List PyData}, vs.length = ds.length → (∀ (i : Nat) (v : V) (d : PyData), vs[i]? = some v → ds[i]? = some d → Tr H v d) → TrAll H vs ds
  | [], [], _, _ => .nil
  | v :: vs, d :: ds, hl, h => .cons (h 0 v d rfl rfl) (TrAll.of (by simpa using hl) fun i v d e1 e2 => h (i + 1) v d e1 e2)
theorem Tr.mkT {a : Addr} {vs : List V} {ds : List PyData} (e : H a = some (.tup vs)) (h : TrAll H vs ds) : Tr H (.ref a) (.tuple ds) := .tup e h.len h.at
theorem Tr.mkL {a : Addr} {vs : List V} {ds : List PyData} (e : H a = some (.lst vs)) (h : TrAll H vs ds) : Tr H (.ref a) (.list ds) := .lst e h.len h.at
theorem tr_tup {v : V} {ds : List PyData} (h : Tr H v (.tuple ds)) : ∃ a vs, v = .ref a ∧ H a = some (.tup vs) ∧ TrAll H vs ds := by
  cases h with
  | tup e hl h => exact ⟨_, _, rfl, e, .of hl h⟩
theorem tr_lst {v : V} {ds : List PyData} (h : Tr H v (.list ds)) : ∃ a vs, v = .ref a ∧ H a = some (.lst vs) ∧ TrAll H vs ds := by
  cases h with
  | lst e hl h => exact ⟨_, _, rfl, e, .of hl h⟩
theorem tr_str {v : V} {x : Str} (h : Tr H v (.str x)) : v = .str x := by cases h; rfl
theorem tr_int {v : V} {x : Int} (h : Tr H v (.int x)) : v = .int x := by cases h; rfl
theorem Tr.same (s : Same H H') {v : V} {d : PyData} (h : Tr H v d) : Tr H' v d := by
  induction h with
  | non => exact .non
  | bl b => exact .bl b
  | int i => exact .int i
  | str x => exact .str x
  | lst e hl _ ih => exact .lst (s _ _ e) hl ih
  | tup e hl _ ih => exact .tup (s _ _ e) hl ih
theorem TrAll.same (s : Same H H') {vs : List V} {ds : List PyData} (h : TrAll H vs ds) : TrAll H' vs ds := by
  induction h with
  | nil => exact .nil
  | cons a _ ih => exact .cons (a.same s) ih
theorem dpAll_of : ∀ {vs : List V} {ds : List PyData}, vs.length = ds.length → (∀ (i : Nat) (v : V) (d : PyData), vs[i]? = some v → ds[i]? = some d → Dp K H v d) → DpAll K H vs ds
  | [], [], _, _ => .nil
  | v :: vs, d :: ds, hl, h => .cons (h 0 v d rfl rfl) (dpAll_of (by simpa using hl) fun i v d e1 e2 => h (i + 1) v d e1 e2)
theorem Tr.dp {v : V} {d : PyData} (h : Tr H v d) : Dp K H v d := by
  induction h with
  | non => exact .non
  | bl b => exact .bl b
  | int i => exact .int i
  | str x => exact .str x
  | lst e hl _ ih => exact .lst (SqL.of e) (dpAll_of hl ih)
  | tup e hl _ ih => exact .tup (.inl (.inl e)) (dpAll_of hl ih)
theorem TrAll.snoc {vs : List V} {ds : List PyData} {v : V} {d : PyData} (h : TrAll H vs ds) (e : Tr H v d) : TrAll H (vs ++ [v]) (ds ++ [d]) := by
  induction h with
  | nil => exact .cons e .nil
  | cons a _ ih => exact .cons a ih
theorem strs_trAll : ∀ {xs : List Str}, TrAll H (xs.map V.str) (xs.map PyData.str)
  | [] => .nil
  | x :: xs => .cons (.str x) strs_trAll
theorem trAll_strs : ∀ {vs : List V} {xs : List Str}, TrAll H vs (xs.map PyData.str) → vs = xs.map V.str
  | _, [], h => by cases h; rfl
  | _, x :: xs, h => by
    cases h with
    | cons a b => rw [tr_str a, trAll_strs b]; rfl
/-- tracked data stays where nothing of it is a list that may change -/
theorem Fr.tr {F : List Addr} (f : Fr K F H H') (i : ∀ e ∈ F, ∀ o, H e = some o → seqO o = false) {v : V} {d : PyData} (h : Tr H v d) : Tr H' v d := by
  induction h with
  | non => exact .non
  | bl b => exact .bl b
  | int i => exact .int i
  | str x => exact .str x
  | lst e hl _ ih => exact .lst (f.1 _ _ (fun m => by have := i _ m _ e; cases this) e (by intro _ z; cases z)) hl ih
  | tup e hl _ ih => exact .tup (f.1 _ _ (fun m => by have := i _ m _ e; cases this) e (by intro _ z; cases z)) hl ih
theorem Fr.trs {F : List Addr} (f : Fr K F H H') (i : ∀ e ∈ F, ∀ o, H e = some o → seqO o = false) {vs : List V} {ds : List PyData} (h : TrAll H vs ds) : TrAll H' vs ds := by
  induction h with
  | nil => exact .nil
  | cons a _ ih => exact .cons (f.tr i a) ih
/-- v is the data d, all of it new since H0, but for E -/
abbrev ND (K : PySem.W.Frag) (H0 : Hp) (E : List Addr) (H : Hp) (v : V) (d : PyData) : Prop := Tr (Nu H0 E H) v d
abbrev NDs (K : PySem.W.Frag) (H0 : Hp) (E : List Addr) (H : Hp) (vs : List V) (ds : List PyData) : Prop := TrAll (Nu H0 E H) vs ds
theorem ND.tr {v : V} {d : PyData} (h : Tr (Nu H0 E H) v d) : Tr H v d := Tr.same Nu.same h
theorem NDs.tr {vs : List V} {ds : List PyData} (h : TrAll (Nu H0 E H) vs ds) : TrAll H vs ds := TrAll.same Nu.same h
/-- it stays where what may change is excluded or was there before -/
theorem nu_fr {F : List Addr} (f : Fr K F H H') (i : ∀ e ∈ F, e ∈ E ∨ H0 e ≠ none) : Same (Nu H0 E H) (Nu H0 E H') := Nu.le fun p o a b c d => ⟨a, b, f.1 p o (fun m => (i p m).elim b fun z => z a) c (seq_nt d)⟩
theorem nu_upd {a : Addr} {u : HO} (i : a ∈ E ∨ H0 a ≠ none ∨ H a = none) : Same (Nu H0 E H) (Nu H0 E (upd H a u)) := Nu.le fun p o x b c d => ⟨x, b, by
  rw [upd_ne]; exact c
  intro z
  subst z
  rcases i with i | i | i
  · exact b i
  · exact i x
  · rw [i] at c; cases c⟩
/-- new since later is new since before -/
theorem nu_back (l : ∀ p, H0' p = none → H0 p = none) (i : ∀ e ∈ E, e ∈ E' ∨ H0' e ≠ none) : Same (Nu H0' E' H) (Nu H0 E H) := Nu.le fun p o a b c _ => ⟨l p a, fun m => (i p m).elim b fun z => z a, c⟩
/-- a new tuple, a new list of new things -/
theorem ND.tup {a : Addr} {vs : List V} {ds : List PyData} (h : TrAll (Nu H0 E H) vs ds) (e : H a = some (.tup vs)) (n : H0 a = none) (m : a ∉ E) : Tr (Nu H0 E H) (.ref a) (.tuple ds) := Tr.mkT (Nu.iff.mpr ⟨n, m, e, rfl⟩) h
theorem ND.lst {a : Addr} {vs : List V} {ds : List PyData} (h : TrAll (Nu H0 E H) vs ds) (e : H a = some (.lst vs)) (n : H0 a = none) (m : a ∉ E) : Tr (Nu H0 E H) (.ref a) (.list ds) := Tr.mkL (Nu.iff.mpr ⟨n, m, e, rfl⟩) h
end
/-! ### conditions -/
inductive Cnd where
  | any
  | fact (k n : Str)
  | pair (a b : Str)
  | over (n : Nat)
  | neg (c : Cnd)
  | par (c : Cnd)
  | and2 (a b : Cnd)
  | and3 (a b c : Cnd)
  | or2 (a b : Cnd)
/-- as the program holds it -/
def Cnd.p : Cnd → PyData
  | .any => .tuple [.str "any"]
  | .fact k n => .tuple [.str k, .str n]
  | .pair a b => .tuple [.str "pair", .str a, .str b]
  | .over n => .tuple [.str "over", .int n]
  | .neg c => .tuple [.str "not", c.p]
  | .par c => c.p
  | .and2 a b => .tuple [.str "and", .list [a.p, b.p]]
  | .and3 a b c => .tuple [.str "and", .list [a.p, b.p, c.p]]
  | .or2 a b => .tuple [.str "or", .list [a.p, b.p]]
/-- a number in figures -/
def numS (n : Nat) : Str := Str.ofString (toString (n : Int))
/-- as the law holds it -/
def Cnd.l : Cnd → PyData
  | .any => .tuple [.str "any"]
  | .fact k n => .tuple [.str k, .str n]
  | .pair a b => .tuple [.str "pair", .str a, .str b]
  | .over n => .tuple [.str "over", .str (numS n)]
  | .neg c => .tuple [.str "not", c.l]
  | .par c => .tuple [.str "(", c.l]
  | .and2 a b => .tuple [.str "and", .list [a.l, b.l]]
  | .and3 a b c => .tuple [.str "and", .list [a.l, b.l, c.l]]
  | .or2 a b => .tuple [.str "or", .list [a.l, b.l]]
/-- its words -/
def Cnd.told : Cnd → List Str
  | .any => ["any"]
  | .fact k n => [k, n]
  | .pair a b => ["pair", a, b]
  | .over n => ["over", numS n]
  | .neg c => ("not" : Str) :: c.told
  | .par c => ("(" : Str) :: (c.told ++ [(")" : Str)])
  | .and2 a b => a.told ++ (("and" : Str) :: b.told)
  | .and3 a b c => a.told ++ (("and" : Str) :: b.told) ++ (("and" : Str) :: c.told)
  | .or2 a b => a.told ++ (("or" : Str) :: b.told)
def sgnsAz : List Nat := (List.range 26).map (· + 97)
/-- a name: one to ten small letters -/
def Nm (x : Str) : Prop := 1 ≤ x.length ∧ x.length ≤ 10 ∧ ∀ c ∈ x.cps.toList, c ∈ ("abcdefghijklmnopqrstuvwxyz" : Str).cps.toList
def kinds1 : List Str := ["from", "has", "first", "last", "marked"]
def kindsW : List Str := ["has", "first", "last"]
def nums : List Nat := [0, 1, 9, 10, 500, 99998, 99999]
/-- well formed, at level 0 (single), 1 (joined), 2; its names; W: the names that facts of words may speak of -/
def Cnd.wf (W : List Str) : Cnd → Nat → Prop
  | .any, _ => True
  | .fact k n, _ => k ∈ kinds1 ∧ Nm n ∧ (k ∈ kindsW → n ∈ W)
  | .pair a b, _ => Nm a ∧ Nm b ∧ a ∈ W ∧ b ∈ W
  | .over n, _ => n ∈ nums
  | .neg c, _ => c.wf W 0
  | .par c, _ => c.wf W 2
  | .and2 a b, n => 1 ≤ n ∧ a.wf W 0 ∧ b.wf W 0
  | .and3 a b c, n => 1 ≤ n ∧ a.wf W 0 ∧ b.wf W 0 ∧ c.wf W 0
  | .or2 a b, n => 2 ≤ n ∧ a.wf W 1 ∧ b.wf W 1
def Cnd.dep : Cnd → Nat
  | .neg c => c.dep + 1
  | .par c => c.dep + 1
  | .and2 a b => max a.dep b.dep
  | .and3 a b c => max a.dep (max b.dep c.dep)
  | .or2 a b => max a.dep b.dep
  | _ => 0
/-- the parts that and joins -/
def Cnd.js : Cnd → List Cnd
  | .and2 a b => [a, b]
  | .and3 a b c => [a, b, c]
  | c => [c]
/-- the parts that or joins -/
def Cnd.os : Cnd → List Cnd
  | .or2 a b => [a, b]
  | c => [c]
theorem Cnd.wf.up {W : List Str} {c : Cnd} {n m : Nat} (h : c.wf W n) (e : n ≤ m) : c.wf W m := by
  cases c <;> first | exact h | (obtain ⟨h1, h2⟩ := h; exact ⟨Nat.le_trans h1 e, h2⟩)
/-- a letter -/
structure Ltr where
  snd : Str
  ws : List Str
  sz : Nat
def Ltr.p (l : Ltr) : PyData := .tuple [.str l.snd, .list (l.ws.map PyData.str), .int l.sz]
/-- straight ahead of -/
def hasPair (ws : List Str) (a b : Str) : Bool := (ws.zip ws.tail).contains (a, b)
def evFact (l : Ltr) (ms : List Str) (k n : Str) : Bool :=
  if k = "from" then l.snd == n else if k = "marked" then ms.contains n else if k = "has" then l.ws.contains n else if k = "first" then l.ws.head? == some n else l.ws.getLast? == some n
def Cnd.ev (l : Ltr) (ms : List Str) : Cnd → Bool
  | .any => true
  | .fact k n => evFact l ms k n
  | .pair a b => hasPair l.ws a b
  | .over n => decide (n < l.sz)
  | .neg c => !c.ev l ms
  | .par c => c.ev l ms
  | .and2 a b => a.ev l ms && b.ev l ms
  | .and3 a b c => a.ev l ms && (b.ev l ms && c.ev l ms)
  | .or2 a b => a.ev l ms || b.ev l ms
end So
end

section
set_option Elab.async false
set_option linter.all false
set_option maxRecDepth 100000
set_option maxHeartbeats 4000000
namespace So
open PySem PySem.Spec PyProof.Rows L2 GxA
open GxR (TabB TabG Tabbed)
theorem iteD {p A B : Prop} [Decidable p] (hp : p) (h : A) : if decide p = true then A else B := by
  rw [if_pos (decide_eq_true hp)]; exact h
theorem iteN {p A B : Prop} [Decidable p] (hp : ¬ p) (h : B) : if decide p = true then A else B := by
  rw [if_neg (by rw [decide_eq_false hp]; exact Bool.false_ne_true)]; exact h
theorem iteB {b : Bool} {A B : Prop} (hb : b = true) (h : A) : if b = true then A else B := by
  rw [if_pos hb]; exact h
theorem iteNB {b : Bool} {A B : Prop} (hb : b = false) (h : B) : if b = true then A else B := by
  rw [if_neg (by rw [hb]; exact Bool.false_ne_true)]; exact h
theorem Nm.line {x : Str} (h : Nm x) : x.length ≤ sizeLine := Nat.le_trans h.2.1 (by decide)
theorem mtN {K : PySem.W.Frag} : tb_is_name K ∈ tabs K := by simp
theorem mtL {K : PySem.W.Frag} : tb_is_letter K ∈ tabs K := by simp
theorem mtD {K : PySem.W.Frag} : tb_is_number K ∈ tabs K := by simp
theorem mtW {K : PySem.W.Frag} : tb_Way_holds K ∈ tabs K := by simp
theorem g_str {x : Str} {g : TG} {te : TE} {vs : List Nat} {σw : L2.St} {c : Bool} {H1 : Hp} {Qe Qf : Hp → Prop} (Pv : Nat → Hp → Prop) (h0 : Pv 0 H1)
    (hs : ∀ i a H, x.cps[i]? = some a → Pv i H → g (.str ⟨#[a]⟩) σw H fun σ2 H2 => wipe σ2 vs = σw ∧ te σ2 H2 fun y H3 => ∃ b : Bool, y = .bl b ∧ if b = c then Pv (i + 1) H3 else Qf H3) (hd : ∀ H, Pv x.cps.size H → Qe H) :
    ∃ W : Nat → Nat → Hp → Prop, (∃ m, W 0 m H1) ∧ GTurn (Its x) g te vs σw c Qe Qf W := by
  refine ⟨fun i m H => m = x.cps.size - i ∧ i ≤ x.cps.size ∧ Pv i H, ⟨x.cps.size, by simp, Nat.zero_le _, h0⟩, ?_⟩
  rintro i m H ⟨rfl, hi, p⟩
  by_cases e : i = x.cps.size
  · subst e
    exact .inl ⟨Nat.le_refl _, hd H p⟩
  · refine .inr ⟨by show i < x.cps.size; omega, Pv (i + 1), fun H' q => ⟨_, ?_, rfl, by omega, q⟩, ?_⟩
    · omega
    · rintro v H' ⟨rfl, a, ha, rfl⟩
      exact hs i a H' ha p
theorem g_list {K : PySem.W.Frag} {a : Addr} {xs : List V} {g : TG} {te : TE} {vs : List Nat} {σw : L2.St} {c : Bool} {H1 : Hp} {Qe Qf : Hp → Prop} (Pv : Nat → Hp → Prop) (h0 : Pv 0 H1) (hl : ∀ i H, i ≤ xs.length → Pv i H → SqL K H a xs)
    (hs : ∀ i x H, xs[i]? = some x → Pv i H → g x σw H fun σ2 H2 => wipe σ2 vs = σw ∧ te σ2 H2 fun y H3 => ∃ b : Bool, y = .bl b ∧ if b = c then Pv (i + 1) H3 else Qf H3) (hd : ∀ H, Pv xs.length H → Qe H) :
    ∃ W : Nat → Nat → Hp → Prop, (∃ m, W 0 m H1) ∧ GTurn (Itl K a) g te vs σw c Qe Qf W := by
  refine ⟨fun i m H => m = xs.length - i ∧ i ≤ xs.length ∧ Pv i H, ⟨xs.length, by simp, Nat.zero_le _, h0⟩, ?_⟩
  rintro i m H ⟨rfl, hi, p⟩
  have q := hl i H hi p
  by_cases e : i = xs.length
  · subst e
    exact .inl ⟨⟨xs, q, Nat.le_refl _⟩, hd H p⟩
  · have lt : i < xs.length := by omega
    refine .inr ⟨⟨xs, xs[i], q, List.getElem?_eq_getElem lt⟩, Pv (i + 1), fun H' q => ⟨_, ?_, rfl, by omega, q⟩, ?_⟩
    · omega
    · rintro v H' ⟨rfl, hv⟩
      exact hs i v H' (hv xs q) p
end So
end

section
set_option Elab.async false
set_option linter.all false
set_option maxRecDepth 100000
set_option maxHeartbeats 4000000
namespace So
open PySem PySem.Spec PyProof.Rows L2 GxA
open GxR (TabB TabG Tabbed)
section
variable {P : Program} {w : World} {K : PySem.W.Frag} {mg : Str → Option Value} {base : Heap}
def spIsName (K : PySem.W.Frag) : Sp := fun vs H Q _ => ∃ x : Str, vs = [.str x] ∧ Nm x ∧ Tb K H ∧ ∀ H', Fr K [] H H' → Q (.bl true) H'
theorem R_is_name (T : Txt w K mg base) : FnR P w K mg base CX0 6 (a_is_name K) (spIsName K) := by
  refine mkRC (p := ("is_name", none)) rfl T.f_is_name sc_is_name bd_is_name ?_ ?_
  · rintro vs H Q E ⟨x, rfl, _⟩; rfl
  rintro A outer s H vs Q E hr ⟨x, rfl, ⟨n1, n2, n3⟩, tb, k⟩
  obtain ⟨tS, hS⟩ := T.i_SIGNS
  obtain ⟨tL, hL⟩ := T.i_LONGEST_NAME
  have nd := sc_is_name.nd
  refine ⟨_, pss_cons (ps_if (PW.pt (pw_or (pt_not (pt_val (pe_callB call_isi (by rfl) T.z_isinstance (by decide +kernel) (pa_cons (pv 0) (pa_cons (pe_bltn (by rfl) T.z_str (by decide +kernel) (v := .ty "str") rfl) pa_nil)))))
      (pw_or1 (pt_not (pt_chain op_le op_le pe_int (pe_callB call_len_str (by rfl) T.z_len PySem.boot_len (pa_cons (pv 0) pa_nil)) (pe_glob (by rfl) hL (v := .int 10) ⟨_, rfl⟩))))))
      (pss_one (ps_ret pe_bl)) pss_nil)
    (pss_one (ps_ret (pe_allG (own := [("sign", 1)]) (g := gName 1) hr (by rfl) T.z_all T.t_is_name rfl nd (pi_str (pv 0)) (blkOk_by (own := [("sign", 1)]) (N := N_is_name) (sc := defScope s_is_name) (by decide +kernel)) (by decide +kernel) rfl rfl
      (fun _ _ _ _ _ _ => pg_name (i := 1) nd rfl (Or.inl rfl)) (fun _ _ _ _ _ _ => pe_cmpR op_in_sign (pv 1) (pe_glob (by rfl) hS (v := .str "abcdefghijklmnopqrstuvwxyz") ⟨_, rfl⟩) rfl)))), ?_⟩
  refine ⟨_, rfl, _, _, _, _, true, rfl, .ty _, .base (.str x), kit_ty (by decide +kernel), ?_⟩
  refine ⟨true, rfl, ?_⟩
  refine iteF ?_
  refine ⟨_, rfl, x, rfl, Nm.line ⟨n1, n2, n3⟩, ?_⟩
  refine ⟨_, _, rfl, rfl, _, rfl, iteD (Int.ofNat_le.mpr n1) ?_⟩
  refine ⟨_, _, rfl, rfl, _, rfl, ?_⟩
  rw [decide_eq_true (show ((x.length : Int) ≤ 10) by omega)]
  refine iteF ?_
  refine ⟨_, rfl, x, rfl, tb _ mtN, fun H2 t2 => ?_⟩
  refine g_str (fun _ H => Fr K [] H2 H) (Fr.refl (Fr.tab (E := []) tb t2 mtN).2) (fun i a H ha f => ?_) (fun H f => k H ((Fr.tab tb t2 mtN).trans f))
  refine ⟨rfl, _, rfl, _, _, rfl, rfl, _, rfl, ?_⟩
  rw [decide_eq_true (n3 a (by rw [Array.mem_toList_iff]; exact Array.mem_of_getElem? ha))]
  exact iteT f
end
end So
end

section
set_option Elab.async false
set_option linter.all false
set_option maxRecDepth 100000
set_option maxHeartbeats 4000000
namespace So
open PySem PySem.Spec PyProof.Rows L2 GxA
open GxR (TabB TabG Tabbed)
section
variable {P : Program} {w : World} {K : PySem.W.Frag} {mg : Str → Option Value} {base : Heap}
theorem Fr.same {E : List Addr} {H H' : Hp} (t : Tb K H) (s : Same H H') : Fr K E H H' := ⟨fun p o _ e _ => s p o e, fun p m => by
  obtain ⟨ps, e, z⟩ := t p m
  exact ⟨ps, s _ _ e, z⟩, fun p h => s.free h⟩
def spIsSize (K : PySem.W.Frag) : Sp := fun vs H Q _ => ∃ n : Nat, vs = [.int n] ∧ n ≤ 99999 ∧ Q (.bl true) H
theorem R_is_size (T : Txt w K mg base) : FnR P w K mg base CX0 1 (a_is_size K) (spIsSize K) := by
  refine mkR T.f_is_size sc_is_size bd_is_size ?_ ?_
  · rintro vs H Q E ⟨x, rfl, _⟩; rfl
  rintro cdv A outer s H vs Q E hr ⟨n, rfl, hn, k⟩
  obtain ⟨tL, hL⟩ := T.i_BIGGEST_SIZE
  have nd := sc_is_size.nd
  refine ⟨_, pss_cons (ps_if (PW.pt (pw_or (pt_not (pt_val (pe_callB call_isi (by rfl) T.z_isinstance (by decide +kernel) (pa_cons (pv 0) (pa_cons (pe_bltn (by rfl) T.z_int (by decide +kernel) (v := .ty "int") rfl) pa_nil)))))
      (pw_or1 (pt_val (pe_callB call_isi (by rfl) T.z_isinstance (by decide +kernel) (pa_cons (pv 0) (pa_cons (pe_bltn (by rfl) T.z_bool (by decide +kernel) (v := .ty "bool") rfl) pa_nil)))))))
      (pss_one (ps_ret pe_bl)) pss_nil)
    (pss_one (ps_ret (pe_chain op_le op_le pe_int (pv 0) (pe_glob (by rfl) hL (v := .int 99999) ⟨_, rfl⟩)))), ?_⟩
  refine ⟨_, rfl, _, _, _, _, true, rfl, .ty _, .base (.int n), kit_ty (by decide +kernel), ?_⟩
  refine ⟨true, rfl, ?_⟩
  refine iteF ?_
  refine ⟨_, rfl, _, _, _, _, false, rfl, .ty _, .base (.int n), kit_ty (by decide +kernel), ?_⟩
  refine ⟨false, rfl, iteF ?_⟩
  refine ⟨_, rfl, _, _, rfl, rfl, _, rfl, iteD (by omega) ?_⟩
  refine ⟨_, _, rfl, rfl, ?_⟩
  show Q (.bl (decide ((n : Int) ≤ 99999))) H
  rw [decide_eq_true (by omega : (n : Int) ≤ 99999)]
  exact k
def spIsLetter (K : PySem.W.Frag) : Sp := fun vs H Q _ => ∃ (a l : Addr) (L : Ltr), vs = [.ref a] ∧ H a = some (.tup [.str L.snd, .ref l, .int L.sz]) ∧ H l = some (.lst (L.ws.map V.str)) ∧ Nm L.snd ∧ (∀ x ∈ L.ws, Nm x) ∧ L.sz ≤ 99999 ∧ Tb K H ∧ ∀ H', Fr K [] H H' → Q (.bl true) H'
theorem at_map {xs : List Str} {i : Nat} {a : V} (ha : (xs.map V.str)[i]? = some a) : ∃ x, xs[i]? = some x ∧ a = V.str x := by
  rw [List.getElem?_map] at ha
  cases e : xs[i]? with
  | none => rw [e] at ha; cases ha
  | some x => rw [e] at ha; exact ⟨x, rfl, (Option.some.inj ha).symm⟩
theorem R_is_letter (T : Txt w K mg base) : FnR P w K mg base CX0 12 (a_is_letter K) (spIsLetter K) := by
  refine mkRC (p := ("is_letter", none)) rfl T.f_is_letter sc_is_letter bd_is_letter ?_ ?_
  · rintro vs H Q E ⟨a, l, L, rfl, _⟩; rfl
  rintro A outer s H vs Q E hr ⟨a, l, L, rfl, ha, hl, n1, n2, n3, tb, k⟩
  obtain ⟨_, F1⟩ := T.f_is_name
  obtain ⟨_, F2⟩ := T.f_is_size
  have nd := sc_is_letter.nd
  refine ⟨_, pss_cons (ps_if (PW.pt (pw_or (pt_not (pt_val (pe_callB call_isi (by rfl) T.z_isinstance (by decide +kernel) (pa_cons (pv 0) (pa_cons (pe_bltn (by rfl) T.z_tuple (by decide +kernel) (v := .ty "tuple") rfl) pa_nil)))))
      (pw_or1 (pt_cmpR op_ne (pe_callB call_len_seq (by rfl) T.z_len PySem.boot_len (pa_cons (pv 0) pa_nil)) pe_int (nomark _)))))
      (pss_one (ps_ret pe_bl)) pss_nil)
    (pss_cons (ps_asg (pv 0) (pg_tup (by rfl) (pgs_cons (pg_name (i := 1) nd rfl (.inl rfl)) (pgs_cons (pg_name (i := 2) nd rfl (.inl rfl)) (pgs_cons (pg_name (i := 3) nd rfl (.inl rfl)) pgs_nil)))))
    (pss_cons (ps_if (PW.pt (pw_or (pt_not (pt_val (pe_cF (R_is_name T) (hr.mono (by decide)) (by rfl) T.g_is_name F1.kp (pa_cons (pv 1) pa_nil))))
      (pw_or (pt_not (pt_val (pe_callB call_isi (by rfl) T.z_isinstance (by decide +kernel) (pa_cons (pv 2) (pa_cons (pe_bltn (by rfl) T.z_list (by decide +kernel) (v := .ty "list") rfl) pa_nil)))))
      (pw_or1 (pt_not (pt_val (pe_cF (R_is_size T) (hr.mono (by decide)) (by rfl) T.g_is_size F2.kp (pa_cons (pv 3) pa_nil))))))))
      (pss_one (ps_ret pe_bl)) pss_nil)
    (pss_one (ps_ret (pe_allG (own := [("word", 4)]) (g := gName 4) (hr.mono (by decide) : Room (10 + 1) _) (by rfl) T.z_all T.t_is_letter rfl nd (pi_list (pv 2)) (blkOk_by (own := [("word", 4)]) (N := N_is_letter) (sc := defScope s_is_letter) (by decide +kernel)) (by decide +kernel) rfl rfl
      (fun _ _ _ _ _ _ => pg_name (i := 4) nd rfl (Or.inl rfl)) (fun _ _ _ _ _ _ => pe_cF (R_is_name T) ((hr.in1.in1.deeper _).mono (by decide)) (by rfl) T.g_is_name F1.kp (pa_cons (pv 4) pa_nil))))))), ?_⟩
  refine ⟨_, rfl, _, _, _, _, true, rfl, .ty _, .base (.tup ha), kit_ty (by decide +kernel), ?_⟩
  refine ⟨true, rfl, ?_⟩
  refine iteF ?_
  refine ⟨_, rfl, a, _, rfl, .inr (.inl (.inl ha)), ?_⟩
  refine ⟨rfl, _, rfl, ?_⟩
  refine iteF ?_
  refine ⟨_, rfl, a, _, rfl, .inl (.inl ha), rfl, _, _, rfl, _, _, rfl, _, _, rfl, rfl, ?_⟩
  refine ⟨_, rfl, L.snd, rfl, n1, tb, fun H1 f1 => ?_⟩
  refine ⟨true, rfl, iteF ?_⟩
  have hl1 : H1 l = some (.lst (L.ws.map V.str)) := f1.at hl
  refine ⟨_, rfl, _, _, _, _, true, rfl, .ty _, .base (.lst hl1), kit_ty (by decide +kernel), ?_⟩
  refine ⟨true, rfl, iteF ?_⟩
  refine ⟨_, rfl, L.sz, rfl, n3, true, rfl, iteF ?_⟩
  refine ⟨_, rfl, l, rfl, ⟨_, SqL.of hl1⟩, f1.2 _ mtL, fun H2 t2 => ?_⟩
  have f2 : Fr K [] H1 H2 := Fr.tab f1.2 t2 mtL
  have hl2 : H2 l = some (.lst (L.ws.map V.str)) := f2.at hl1
  refine g_list (xs := L.ws.map V.str) (fun _ H => Fr K [] H2 H) (Fr.refl f2.2) (fun i H _ f => SqL.of (f.at hl2)) (fun i a H ha f => ?_) (fun H f => k H (f1.trans (f2.trans f)))
  obtain ⟨x, hx, rfl⟩ := at_map ha
  refine ⟨rfl, _, rfl, x, rfl, n2 x (List.mem_of_getElem? hx), f.2, fun H3 f3 => ⟨true, rfl, iteT (f.trans f3)⟩⟩
open SkX in
theorem R_name_key (T : Txt w K mg base) : ∃ fd, FnOk P w K mg base CX0 1 (a_name_key K) fd ["name"] spKey ∧ Binds K fd ["name"] [] ∧ PySem.W.keepIn K (.ref (a_name_key K)) = true := by
  obtain ⟨fd, F⟩ := T.f_name_key
  refine ⟨fd, F.ok sc_name_key ?_ ?_, F.bindsN bd_name_key, F.kp⟩
  · rintro vs H Q E ⟨x, rfl, _⟩; rfl
  rintro cdv A outer s H vs Q E hr ⟨x, rfl, hx, k⟩
  refine ⟨_, PSs.nox (pss_one (ps_ret (pe_tup (pa_cons (pe_callB call_len_str (by rfl) T.z_len PySem.boot_len (pa_cons (pv 0) pa_nil)) (pa_cons (pv 0) pa_nil))))), ?_⟩
  exact ⟨_, rfl, x, rfl, Nat.le_trans hx (by decide), _, rfl, by show 2 ≤ sizeLine; decide, k⟩
def spInOrder (K : PySem.W.Frag) : Sp := fun vs H Q _ => ∃ (l : Addr) (ns : List Str), vs = [.ref l] ∧ SqL K H l (ns.map V.str) ∧ ns.length ≤ 1000 ∧ (∀ x ∈ ns, x.length ≤ 1000) ∧ Tb K H ∧
  ∀ (H' : Hp) (a : Addr) (ns' : List Str), Fr K [] H H' → H' a = none → ns'.Perm ns → ns'.Pairwise SkX.NLe → Q (.ref a) (upd H' a (.lst (ns'.map V.str)))
theorem R_in_order (T : Txt w K mg base) : FnR P w K mg base CX0 6 (a_in_order K) (spInOrder K) := by
  refine mkR T.f_in_order sc_in_order bd_in_order ?_ ?_
  · rintro vs H Q E ⟨l, ns, rfl, _⟩; rfl
  rintro cdv A outer s H vs Q E hr ⟨l, ns, rfl, hs, hn, hx, tb, k⟩
  obtain ⟨fd, G, b, kp⟩ := R_name_key (P := P) T
  refine ⟨_, pss_one (ps_ret (pe_callBK (SkX.cr_sortedNames G b (hr.mono (by decide) : Room (1 + 2) _)) (by rfl) T.z_sorted (by decide +kernel) (pa_cons (pv 0) pa_nil) (pk_cons (pe_glob (by rfl) T.g_name_key (v := .ref (a_name_key K)) rfl) pk_nil))), ?_⟩
  refine ⟨_, rfl, l, ns, rfl, rfl, hs, hn, hx, fun H' a ns' sm na p o => k H' a ns' (Fr.same tb sm) na p o⟩
end
end So
end

section
set_option Elab.async false
set_option linter.all false
set_option maxRecDepth 100000
set_option maxHeartbeats 4000000
namespace So
open PySem PySem.Spec PyProof.Rows L2 GxA
open GxR (TabB TabG Tabbed)
/-! ### the reader -/
def rfs (wl : Addr) (row : V) (i : Nat) : List (Str × V) := [("words", .ref wl), ("row", row), ("at", .int i)]
theorem rfs_words (wl : Addr) (row : V) (i : Nat) : (rfs wl row i).lookup ("words" : Str) = some (.ref wl) := rfl
theorem rfs_at (wl : Addr) (row : V) (i : Nat) : (rfs wl row i).lookup ("at" : Str) = some (.int i) := rfl
theorem rfs_put (wl : Addr) (row : V) (i j : Nat) : putF "at" (.int j) (rfs wl row i) = rfs wl row j := rfl
theorem rfs_make (wl : Addr) (row : V) : putF "at" (.int 0) (putF "row" row (putF "words" (.ref wl) [])) = rfs wl row 0 := rfl
/-- a reader at r, its words, how far it is -/
structure RdAt (K : PySem.W.Frag) (H : Hp) (r wl : Addr) (ws : List Str) (i : Nat) : Prop where
  ob : ∃ dx row, H r = some (.ins (C_Reader K) dx (rfs wl row i))
  wl : H wl = some (.lst (ws.map V.str))
theorem RdAt.ins {K : PySem.W.Frag} {H : Hp} {r wl : Addr} {ws : List Str} {i : Nat} (R : RdAt K H r wl ws i) : InsAll H [r] := by
  obtain ⟨dx, row, e⟩ := R.ob
  exact InsAll.one e
theorem RdAt.nl {K : PySem.W.Frag} {H : Hp} {r wl : Addr} {ws : List Str} {i : Nat} (R : RdAt K H r wl ws i) : wl ≠ r := by
  obtain ⟨dx, row, e⟩ := R.ob
  exact ne_of R.wl e (by intro z; cases z)
theorem iteNT {c A B : Prop} [Decidable c] (hc : ¬ c) (h : A) : if (!decide c) = true then A else B := by
  rw [decide_eq_false hc]
  exact iteT h
theorem RdAt.move {K : PySem.W.Frag} {H : Hp} {r wl : Addr} {ws : List Str} {i : Nat} (R : RdAt K H r wl ws i) (tb : Tb K H) {dx : Addr} {row : V} (e : H r = some (.ins (C_Reader K) dx (rfs wl row i))) (j : Nat) :
    Fr K [r] H (upd H r (.ins (C_Reader K) dx (rfs wl row j))) ∧ RdAt K (upd H r (.ins (C_Reader K) dx (rfs wl row j))) r wl ws j :=
  ⟨Fr.put tb e (by intro _ z; cases z) (List.mem_singleton.mpr rfl), ⟨⟨dx, row, upd_same⟩, by rw [upd_ne R.nl]; exact R.wl⟩⟩
section
variable {P : Program} {w : World} {K : PySem.W.Frag} {mg : Str → Option Value} {base : Heap}
def spRInit (K : PySem.W.Frag) : Sp := fun vs H Q _ => ∃ (r dx wl : Addr) (row : V) (ws : List Str), vs = [.ref r, .ref wl, row] ∧ H r = some (.ins (C_Reader K) dx []) ∧ H wl = some (.lst (ws.map V.str)) ∧ Tb K H ∧
  ∀ H', Fr K [r] H H' → RdAt K H' r wl ws 0 → Q .non H'
theorem R_Reader_init (T : Txt w K mg base) : FnR P w K mg base CX0 1 (a_Reader_init K) (spRInit K) := by
  refine mkR T.f_Reader_init sc_Reader_init bd_Reader_init ?_ ?_
  · rintro vs H Q E ⟨r, dx, wl, row, ws, rfl, _⟩; rfl
  rintro cdv A outer s H vs Q E hr ⟨r, dx, wl, row, ws, rfl, hr0, hw, tb, k⟩
  refine ⟨_, pss_cons (ps_fld (pv 0) (pv 1) rfl) (pss_cons (ps_fld (pv 0) (pv 2) rfl) (pss_one (ps_fld (pv 0) pe_int rfl))), ?_⟩
  refine ⟨_, rfl, _, rfl, r, _, dx, [], rfl, hr0, T.c_Reader, T.n_Reader_words, by decide, ?_⟩
  refine ⟨_, rfl, _, rfl, r, _, dx, _, rfl, upd_same, T.c_Reader, T.n_Reader_row, (by show 1 < 1000; decide), ?_⟩
  refine ⟨_, rfl, r, _, dx, _, rfl, upd_same, T.c_Reader, T.n_Reader_at, (by show 2 < 1000; decide), ?_⟩
  have nw : wl ≠ r := ne_of hw hr0 (by intro z; cases z)
  refine k _ ⟨fun p o m e n => ?_, ?_, fun p h => upd_live p (upd_live p (upd_live p h))⟩ ⟨⟨dx, row, by rw [upd_same]; exact congrArg (fun z => some (HO.ins (C_Reader K) dx z)) (rfs_make wl row)⟩, ?_⟩
  · have m : p ≠ r := fun z => m (List.mem_singleton.mpr z)
    rw [upd_ne m, upd_ne m, upd_ne m]; exact e
  · have m := tb.ne hr0 (by intro _ z; cases z)
    exact ((tb.upd m).upd m).upd m
  · rw [upd_ne nw, upd_ne nw, upd_ne nw]; exact hw
/-- the word that comes next -/
def nxt (ws : List Str) (i : Nat) : Str := ws.getD i ""
def spPeek (K : PySem.W.Frag) : Sp := fun vs H Q _ => ∃ (r wl : Addr) (ws : List Str) (i : Nat), vs = [.ref r] ∧ RdAt K H r wl ws i ∧ Q (.str (nxt ws i)) H
theorem R_peek (T : Txt w K mg base) : FnR P w K mg base CX0 1 (a_Reader_peek K) (spPeek K) := by
  refine mkR T.f_Reader_peek sc_Reader_peek bd_Reader_peek ?_ ?_
  · rintro vs H Q E ⟨r, wl, ws, i, rfl, _⟩; rfl
  rintro cdv A outer s H vs Q E hr ⟨r, wl, ws, i, rfl, R, k⟩
  refine ⟨_, pss_cons (ps_if (pt_cmpR op_lt (pe_fld (pv 0) rfl) (pe_callB call_len_seq (by rfl) T.z_len PySem.boot_len (pa_cons (pe_fld (pv 0) rfl) pa_nil)) (nomark _))
      (pss_one (ps_ret (pe_ix ix_list (pe_fld (pv 0) rfl) (pe_fld (pv 0) rfl) (fun _ _ => rfl)))) pss_nil)
    (pss_one (ps_ret pe_str)), ?_⟩
  obtain ⟨dx, row, e⟩ := R.ob
  refine ⟨_, rfl, r, _, dx, _, _, rfl, e, T.c_Reader, T.n_Reader_at, rfs_at .., ?_⟩
  refine ⟨_, rfl, r, _, dx, _, _, rfl, e, T.c_Reader, T.n_Reader_words, rfs_words .., wl, _, rfl, .inl (SqL.of R.wl), ?_⟩
  refine ⟨_, _, rfl, rfl, _, rfl, ?_⟩
  by_cases lt : i < ws.length
  · refine iteD (by rw [List.length_map]; omega) ?_
    refine ⟨_, rfl, r, _, dx, _, _, rfl, e, T.c_Reader, T.n_Reader_words, rfs_words .., _, rfl, r, _, dx, _, _, rfl, e, T.c_Reader, T.n_Reader_at, rfs_at .., ?_⟩
    refine ⟨wl, _, _, V.str (nxt ws i), rfl, rfl, SqL.of R.wl, atI_nat ?_, k⟩
    rw [List.getElem?_map, List.getElem?_eq_getElem lt]
    show some (V.str ws[i]) = _
    unfold nxt
    rw [List.getD_eq_getElem?_getD, List.getElem?_eq_getElem lt]
    rfl
  · refine iteN (by rw [List.length_map]; omega) ?_
    have e2 : nxt ws i = "" := by
      unfold nxt
      rw [List.getD_eq_getElem?_getD, List.getElem?_eq_none (by omega)]
      rfl
    rw [e2] at k
    exact k
def spTake (K : PySem.W.Frag) : Sp := fun vs H Q _ => ∃ (r wl : Addr) (ws : List Str) (i : Nat) (x : Str), vs = [.ref r, .str x] ∧ RdAt K H r wl ws i ∧ Tb K H ∧ nxt ws i = x ∧ ∀ H', Fr K [r] H H' → RdAt K H' r wl ws (i + 1) → Q .non H'
theorem R_take (T : Txt w K mg base) : FnR P w K mg base CX0 2 (a_Reader_take K) (spTake K) := by
  refine mkR T.f_Reader_take sc_Reader_take bd_Reader_take ?_ ?_
  · rintro vs H Q E ⟨r, wl, ws, i, x, rfl, _⟩; rfl
  rintro cdv A outer s H vs Q E hr ⟨r, wl, ws, i, x, rfl, R, tb, hx, k⟩
  refine ⟨_, pss_cons (ps_if (pt_cmpR op_ne (pe_m0F (pv 0) T.c_Reader T.m_Reader_peek (R_peek T) hr) (pv 1) (nomark _)) (pss_one ps_never) pss_nil)
    (pss_one (ps_fldaug (pv 0) pe_int in_add)), ?_⟩
  obtain ⟨dx, row, e⟩ := R.ob
  refine ⟨_, rfl, r, dx, _, rfl, e, rfl, r, wl, ws, i, rfl, R, _, rfl, rfl, _, rfl, iteNS (by rw [hx]) ?_⟩
  refine ⟨_, rfl, r, _, dx, _, _, rfl, e, T.c_Reader, T.n_Reader_at, rfs_at .., _, _, rfl, rfl, dx, _, e, (by show 3 < 1000; decide), ?_⟩
  exact k _ (R.move tb e (i + 1)).1 (R.move tb e (i + 1)).2
def spSkip (K : PySem.W.Frag) : Sp := fun vs H Q _ => ∃ (r wl : Addr) (ws : List Str) (i : Nat) (x : Str), vs = [.ref r, .str x] ∧ RdAt K H r wl ws i ∧ Tb K H ∧
  (nxt ws i = x → ∀ H', Fr K [r] H H' → RdAt K H' r wl ws (i + 1) → Q (.bl true) H') ∧ (nxt ws i ≠ x → Q (.bl false) H)
theorem R_skip (T : Txt w K mg base) : FnR P w K mg base CX0 2 (a_Reader_skip K) (spSkip K) := by
  refine mkR T.f_Reader_skip sc_Reader_skip bd_Reader_skip ?_ ?_
  · rintro vs H Q E ⟨r, wl, ws, i, x, rfl, _⟩; rfl
  rintro cdv A outer s H vs Q E hr ⟨r, wl, ws, i, x, rfl, R, tb, k1, k2⟩
  refine ⟨_, pss_cons (ps_if (pt_cmpR op_ne (pe_m0F (pv 0) T.c_Reader T.m_Reader_peek (R_peek T) hr) (pv 1) (nomark _)) (pss_one (ps_ret pe_bl)) pss_nil)
    (pss_cons (ps_fldaug (pv 0) pe_int in_add) (pss_one (ps_ret pe_bl))), ?_⟩
  obtain ⟨dx, row, e⟩ := R.ob
  refine ⟨_, rfl, r, dx, _, rfl, e, rfl, r, wl, ws, i, rfl, R, _, rfl, rfl, _, rfl, ?_⟩
  by_cases hx : nxt ws i = x
  · refine iteNS (by rw [hx]) ?_
    refine ⟨_, rfl, r, _, dx, _, _, rfl, e, T.c_Reader, T.n_Reader_at, rfs_at .., _, _, rfl, rfl, dx, _, e, (by show 3 < 1000; decide), ?_⟩
    exact k1 hx _ (R.move tb e (i + 1)).1 (R.move tb e (i + 1)).2
  · exact iteNT (fun z => hx (by injection z)) (k2 hx)
def spTakeName (K : PySem.W.Frag) : Sp := fun vs H Q _ => ∃ (r wl : Addr) (ws : List Str) (i : Nat), vs = [.ref r] ∧ RdAt K H r wl ws i ∧ Tb K H ∧ Nm (nxt ws i) ∧ ∀ H', Fr K [r] H H' → RdAt K H' r wl ws (i + 1) → Q (.str (nxt ws i)) H'
theorem RdAt.fr {H H' : Hp} {r wl : Addr} {ws : List Str} {i : Nat} (R : RdAt K H r wl ws i) (f : Fr K [] H H') : RdAt K H' r wl ws i := by
  obtain ⟨dx, row, e⟩ := R.ob
  exact ⟨⟨dx, row, f.at e⟩, f.at R.wl⟩
theorem R_take_name (T : Txt w K mg base) : FnR P w K mg base CX0 8 (a_Reader_take_name K) (spTakeName K) := by
  refine mkR T.f_Reader_take_name sc_Reader_take_name bd_Reader_take_name ?_ ?_
  · rintro vs H Q E ⟨r, wl, ws, i, rfl, _⟩; rfl
  rintro cdv A outer s H vs Q E hr ⟨r, wl, ws, i, rfl, R, tb, hn, k⟩
  obtain ⟨_, F1⟩ := T.f_is_name
  have nd := sc_Reader_take_name.nd
  refine ⟨_, pss_cons (ps_set (i := 1) nd rfl (.inl rfl) (pe_m0F (pv 0) T.c_Reader T.m_Reader_peek (R_peek T) (hr.mono (by decide))))
    (pss_cons (ps_if (pt_not (pt_val (pe_cF (R_is_name T) (hr.mono (by decide)) (by rfl) T.g_is_name F1.kp (pa_cons (pv 1) pa_nil)))) (pss_one ps_never) pss_nil)
    (pss_cons (ps_fldaug (pv 0) pe_int in_add) (pss_one (ps_ret (pv 1))))), ?_⟩
  obtain ⟨dx, row, e⟩ := R.ob
  refine ⟨_, rfl, r, dx, _, rfl, e, rfl, r, wl, ws, i, rfl, R, ?_⟩
  refine ⟨_, rfl, _, rfl, hn, tb, fun H1 f1 => ⟨true, rfl, iteF ?_⟩⟩
  refine ⟨_, rfl, r, _, dx, _, _, rfl, f1.at e, T.c_Reader, T.n_Reader_at, rfs_at .., _, _, rfl, rfl, dx, _, f1.at e, (by show 3 < 1000; decide), ?_⟩
  have m := (R.fr f1).move f1.2 (f1.at e) (i + 1)
  exact ⟨_, rfl, k _ (f1.nil.trans m.1) m.2⟩
end
end So
end

section
set_option Elab.async false
set_option linter.all false
set_option maxRecDepth 100000
set_option maxHeartbeats 4000000
namespace So
open PySem PySem.Spec PyProof.Rows L2 GxA
open GxR (TabB TabG Tabbed)
/-! ### numbers -/
def NumOk (x : Str) (n : Nat) : Bool := decide (1 ≤ x.length) && decide (x.length ≤ 5) && (match x.cps.toList with
  | c :: _ => decide (c = 48 → x.length = 1)
  | [] => false) && x.cps.toList.all (fun c => decide (c ∈ ("0123456789" : Str).cps.toList)) && decide (PySem.intText? x = some (n : Int))
theorem num_ok : ∀ n ∈ nums, NumOk (numS n) n = true := by decide +kernel
theorem drop_nxt {ws : List Str} {i : Nat} {x : Str} {r : List Str} (h : ws.drop i = x :: r) : nxt ws i = x ∧ ws.drop (i + 1) = r := by
  have e : ws[i]? = some x := by
    have := congrArg (fun z => z[0]?) h
    simpa [List.getElem?_drop] using this
  refine ⟨?_, ?_⟩
  · unfold nxt
    rw [List.getD_eq_getElem?_getD, e]; rfl
  · rw [← List.tail_drop, h]; rfl
theorem drop_lt {ws : List Str} {i : Nat} {x : Str} {r : List Str} (h : ws.drop i = x :: r) : i < ws.length := by
  rcases Nat.lt_or_ge i ws.length with k | k
  · exact k
  · rw [List.drop_eq_nil_of_le k] at h; cases h
section
variable {P : Program} {w : World} {K : PySem.W.Frag} {mg : Str → Option Value} {base : Heap}
theorem Fr.upNew {E : List Addr} {H H1 : Hp} {D : Addr} {o : HO} (f : Fr K E H H1) (t : Tb K H) (h : H D = none) : Fr K E H (upd H1 D o) :=
  ⟨fun p u n e z => by rw [upd_ne (ne_of_none e h)]; exact f.1 p u n e z, f.2.upd (t.ne0 h), fun p z => f.3 p (upd_live p z)⟩
theorem RdAt.upd {H : Hp} {r wl D : Addr} {ws : List Str} {i : Nat} {o : HO} (R : RdAt K H r wl ws i) (h1 : r ≠ D) (h2 : wl ≠ D) : RdAt K (L2.upd H D o) r wl ws i := by
  obtain ⟨dx, row, e⟩ := R.ob
  exact ⟨⟨dx, row, by rw [upd_ne h1]; exact e⟩, by rw [upd_ne h2]; exact R.wl⟩
def spIsNum (K : PySem.W.Frag) : Sp := fun vs H Q _ => ∃ n : Nat, vs = [.str (numS n)] ∧ n ∈ nums ∧ Tb K H ∧ ∀ H', Fr K [] H H' → Q (.bl true) H'
theorem R_is_number (T : Txt w K mg base) : FnR P w K mg base CX0 6 (a_is_number K) (spIsNum K) := by
  refine mkRC (p := ("is_number", none)) rfl T.f_is_number sc_is_number bd_is_number ?_ ?_
  · rintro vs H Q E ⟨x, rfl, _⟩; rfl
  rintro A outer s H vs Q E hr ⟨n, rfl, hn, tb, k⟩
  obtain ⟨tS, hS⟩ := T.i_DIGITS
  obtain ⟨tL, hL⟩ := T.i_LONGEST_NUMBER
  have nd := sc_is_number.nd
  refine ⟨_, pss_cons (ps_if (pt_not (pt_chain op_le op_le pe_int (pe_callB call_len_str (by rfl) T.z_len PySem.boot_len (pa_cons (pv 0) pa_nil)) (pe_glob (by rfl) hL (v := .int 5) ⟨_, rfl⟩)))
      (pss_one (ps_ret pe_bl)) pss_nil)
    (pss_cons (ps_if (PW.pt (pw_and (pt_cmpR op_eq (pe_ix ix_str (pv 0) pe_int (fun _ _ => rfl)) pe_str (nomark _)) (pw_and1 (pt_cmpR op_gt (pe_callB call_len_str (by rfl) T.z_len PySem.boot_len (pa_cons (pv 0) pa_nil)) pe_int (nomark _)))))
      (pss_one (ps_ret pe_bl)) pss_nil)
    (pss_one (ps_ret (pe_allG (own := [("sign", 1)]) (g := gName 1) hr (by rfl) T.z_all T.t_is_number rfl nd (pi_str (pv 0)) (blkOk_by (own := [("sign", 1)]) (N := N_is_number) (sc := defScope s_is_number) (by decide +kernel)) (by decide +kernel) rfl rfl
      (fun _ _ _ _ _ _ => pg_name (i := 1) nd rfl (Or.inl rfl)) (fun _ _ _ _ _ _ => pe_cmpR op_in_sign (pv 1) (pe_glob (by rfl) hS (v := .str "0123456789") ⟨_, rfl⟩) rfl))))), ?_⟩
  have ok := num_ok n hn
  generalize numS n = x at ok ⊢
  unfold NumOk at ok
  simp only [Bool.and_eq_true, decide_eq_true_eq, List.all_eq_true] at ok
  obtain ⟨⟨⟨⟨h1, h2⟩, h3⟩, h4⟩, h5⟩ := ok
  have line : x.length ≤ sizeLine := Nat.le_trans h2 (by decide)
  refine ⟨_, rfl, x, rfl, line, ?_⟩
  refine ⟨_, _, rfl, rfl, _, rfl, iteD (Int.ofNat_le.mpr h1) ?_⟩
  refine ⟨_, _, rfl, rfl, _, rfl, ?_⟩
  rw [decide_eq_true (show ((x.length : Int) ≤ 5) by omega)]
  refine iteF ?_
  cases hc : x.cps.toList with
  | nil => rw [hc] at h3; cases h3
  | cons c cs =>
    rw [hc] at h3
    have h3 : c = 48 → x.length = 1 := of_decide_eq_true h3
    refine ⟨_, rfl, x, 0, c, rfl, rfl, line, ?_, ?_⟩
    · exact atI_nat (j := 0) (by rw [hc]; rfl)
    refine ⟨rfl, _, rfl, ?_⟩
    have fin : tRet (tGenC true (tb_is_number K) (iStr (tVar 0)) (gName 1) (tOp (fun x y H Q => ∃ c z, x = V.str { cps := #[c] } ∧ y = V.str z ∧ Q (V.bl (decide (c ∈ z.cps.toList))) H) (tVar 1) (tC (V.str "0123456789"))) [1]) { nx := fun _ H' => Q .non H', rt := Q } (start N_is_number [V.str x]) H := by
      refine ⟨_, rfl, x, rfl, tb _ mtD, fun H2 t2 => ?_⟩
      refine g_str (fun _ H => Fr K [] H2 H) (Fr.refl (Fr.tab (E := []) tb t2 mtD).2) (fun i a H ha f => ?_) (fun H f => k H ((Fr.tab tb t2 mtD).trans f))
      refine ⟨rfl, _, rfl, _, _, rfl, rfl, _, rfl, ?_⟩
      rw [decide_eq_true (h4 a (by rw [Array.mem_toList_iff]; exact Array.mem_of_getElem? ha))]
      exact iteT f
    by_cases e0 : V.str ⟨#[c]⟩ = V.str "0"
    · refine iteD e0 ?_
      have ec : c = 48 := by
        injection e0 with e0
        have := congrArg (fun z : Str => z.cps[0]?) e0
        exact Option.some.inj this
      refine ⟨_, rfl, x, rfl, line, _, _, rfl, rfl, _, rfl, ?_⟩
      refine iteN (by rw [h3 ec]; decide) fin
    · exact iteN e0 (iteF fin)
def spTakeNum (K : PySem.W.Frag) : Sp := fun vs H Q _ => ∃ (r wl : Addr) (ws : List Str) (i n : Nat), vs = [.ref r] ∧ RdAt K H r wl ws i ∧ Tb K H ∧ nxt ws i = numS n ∧ n ∈ nums ∧ ∀ H', Fr K [r] H H' → RdAt K H' r wl ws (i + 1) → Q (.int n) H'
theorem R_take_number (T : Txt w K mg base) : FnR P w K mg base CX0 8 (a_Reader_take_number K) (spTakeNum K) := by
  refine mkR T.f_Reader_take_number sc_Reader_take_number bd_Reader_take_number ?_ ?_
  · rintro vs H Q E ⟨r, wl, ws, i, n, rfl, _⟩; rfl
  rintro cdv A outer s H vs Q E hr ⟨r, wl, ws, i, n, rfl, R, tb, hx, hn, k⟩
  obtain ⟨_, F1⟩ := T.f_is_number
  have nd := sc_Reader_take_number.nd
  refine ⟨_, pss_cons (ps_set (i := 1) nd rfl (.inl rfl) (pe_m0F (pv 0) T.c_Reader T.m_Reader_peek (R_peek T) (hr.mono (by decide))))
    (pss_cons (ps_if (pt_not (pt_val (pe_cF (R_is_number T) (hr.mono (by decide)) (by rfl) T.g_is_number F1.kp (pa_cons (pv 1) pa_nil)))) (pss_one ps_never) pss_nil)
    (pss_cons (ps_fldaug (pv 0) pe_int in_add) (pss_one (ps_ret (pe_callTy call_int_str (by rfl) T.z_int (by decide +kernel) (pa_cons (pv 1) pa_nil)))))), ?_⟩
  obtain ⟨dx, row, e⟩ := R.ob
  refine ⟨_, rfl, r, dx, _, rfl, e, rfl, r, wl, ws, i, rfl, R, ?_⟩
  rw [hx]
  refine ⟨_, rfl, n, rfl, hn, tb, fun H1 f1 => ⟨true, rfl, iteF ?_⟩⟩
  refine ⟨_, rfl, r, _, dx, _, _, rfl, f1.at e, T.c_Reader, T.n_Reader_at, rfs_at .., _, _, rfl, rfl, dx, _, f1.at e, (by show 3 < 1000; decide), ?_⟩
  have m := (R.fr f1).move f1.2 (f1.at e) (i + 1)
  have ok := num_ok n hn
  unfold NumOk at ok
  simp only [Bool.and_eq_true, decide_eq_true_eq] at ok
  exact ⟨_, rfl, _, n, rfl, ok.2, Nat.le_trans ok.1.1.1.2 (by decide), k _ (f1.nil.trans m.1) m.2⟩
end
end So
end

section
set_option Elab.async false
set_option linter.all false
set_option maxRecDepth 100000
set_option maxHeartbeats 4000000
namespace So
open PySem PySem.Spec PyProof.Rows L2 GxA
open GxR (TabB TabG Tabbed)
/-! ### facts and deeds -/
def factN : Cnd → List Str
  | .fact _ n => [n]
  | .pair a b => [a, b]
  | _ => []
def factK : Cnd → Str
  | .fact k _ => k
  | .pair _ _ => "pair"
  | _ => ""
def isF : Cnd → Prop
  | .fact k n => k ∈ kinds1 ∧ Nm n
  | .pair a b => Nm a ∧ Nm b
  | _ => False
abbrev factsL : List (Str × Int) := [("from", 1), ("has", 1), ("first", 1), ("last", 1), ("pair", 2), ("marked", 1)]
theorem isF_told {c : Cnd} (h : isF c) : c.told = factK c :: factN c := by cases c <;> first | rfl | exact h.elim
theorem isF_p {c : Cnd} (h : isF c) : c.p = .tuple ((factK c :: factN c).map PyData.str) := by cases c <;> first | rfl | exact h.elim
theorem isF_mem {c : Cnd} (h : isF c) : (factK c, ((factN c).length : Int)) ∈ factsL := by
  cases c with
  | fact k n =>
    have hk : k ∈ kinds1 := h.1
    simp only [kinds1, List.mem_cons, List.not_mem_nil, or_false] at hk
    rcases hk with rfl | rfl | rfl | rfl | rfl <;> simp [factsL, factK, factN]
  | pair a b => simp [factsL, factK, factN]
  | _ => exact h.elim
theorem isF_nm {c : Cnd} (h : isF c) : ∀ x ∈ factN c, Nm x := by
  cases c with
  | fact k n => intro x hx; rw [List.mem_singleton.mp hx]; exact h.2
  | pair a b =>
    intro x hx
    rcases List.mem_cons.mp hx with rfl | hx
    · exact h.1
    · rw [List.mem_singleton.mp hx]; exact h.2
  | _ => exact h.elim
theorem isF_len {c : Cnd} (h : isF c) : (factN c).length ≤ 2 := by
  cases c <;> first | exact h.elim | (simp [factN])
/-- a deed: its kind, its name -/
abbrev Deed := Str × Str
def dTold (d : Deed) : List Str := if d.1 = "stop" then ["stop"] else [d.1, d.2]
def dP (d : Deed) : PyData := .tuple [.str d.1, .str d.2]
def kindsD : List Str := ["mark", "unmark", "file", "pass"]
def dWf (d : Deed) : Prop := d = (("stop" : Str), ("" : Str)) ∨ (d.1 ∈ kindsD ∧ Nm d.2)
theorem take_snoc {xs : List Str} {j : Nat} {x : Str} (h : xs[j]? = some x) : (xs.take j).map V.str ++ [V.str x] = (xs.take (j + 1)).map V.str := by
  rw [List.take_add_one, h, List.map_append]; rfl
theorem drop_at {ws xs r : List Str} {i : Nat} (h : ws.drop i = xs ++ r) {j : Nat} {x : Str} (e : xs[j]? = some x) : nxt ws (i + j) = x := by
  have : ws[i + j]? = some x := by
    rw [← List.getElem?_drop, h, List.getElem?_append_left (List.getElem?_eq_some_iff.mp e).1]
    exact e
  unfold nxt
  rw [List.getD_eq_getElem?_getD, this]; rfl
theorem drop_app {ws xs r : List Str} {i : Nat} (h : ws.drop i = xs ++ r) : ws.drop (i + xs.length) = r := by
  rw [← List.drop_drop, h, List.drop_left]
section
variable {P : Program} {w : World} {K : PySem.W.Frag} {mg : Str → Option Value} {base : Heap}
def spReadFact (K : PySem.W.Frag) : Sp := fun vs H Q _ => ∃ (r wl : Addr) (ws : List Str) (i : Nat) (c : Cnd) (rest : List Str), vs = [.ref r] ∧ RdAt K H r wl ws i ∧ Tb K H ∧ isF c ∧ ws.drop i = c.told ++ rest ∧
  ∀ H' v, Fr K [r] H H' → RdAt K H' r wl ws (i + c.told.length) → ND K H [] H' v c.p → Q v H'
theorem R_read_fact (T : Txt w K mg base) : FnR P w K mg base CX0 10 (a_Reader_read_fact K) (spReadFact K) := by
  refine mkR T.f_Reader_read_fact sc_Reader_read_fact bd_Reader_read_fact ?_ ?_
  · rintro vs H Q E ⟨r, wl, ws, i, c, rest, rfl, _⟩; rfl
  rintro cdv A outer s H vs Q E hr ⟨r, wl, ws, i, c, rest, rfl, R, tb, hc, hd, k⟩
  have nd := sc_Reader_read_fact.nd
  obtain ⟨es, nn, D⟩ := T.t_FACTS
  refine ⟨_, pss_cons (ps_set (i := 1) nd rfl (.inl rfl) (pe_m0F (pv 0) T.c_Reader T.m_Reader_peek (R_peek T) (hr.mono (by decide))))
    (pss_cons (ps_if (pt_cmpR (op_notIn_kd D) (pv 1) (pe_glob (by rfl) T.g_FACTS (v := .ref (He.ga K "FACTS")) rfl) (by rfl)) (pss_one ps_never) pss_nil)
    (pss_cons (ps_fldaug (pv 0) pe_int in_add)
    (pss_cons (ps_setLc (i := 2) (own := [("_", 3)]) (g := gName 3) (tt := tYes) rfl nd rfl rfl (sw_true rfl rfl rfl (by decide +kernel))
        (pi_range1 (by rfl) T.z_range (pa_cons (pe_ix ix_kdict (pe_glob (by rfl) T.g_FACTS (v := .ref (He.ga K "FACTS")) rfl) (pv 1) (fun _ _ => rfl)) pa_nil))
        (blkOk_by (own := [("_", 3)]) (N := N_Reader_read_fact) (sc := defScope s_Reader_read_fact) (by decide +kernel)) (fun _ _ _ _ _ => pg_name (i := 3) nd rfl (Or.inl rfl)) (fun _ _ _ _ _ => pts_nil)
        (fun _ _ _ _ _ => pe_m0F (pv 0) T.c_Reader T.m_Reader_take_name (R_take_name T) (hr.mono (by decide))))
    (pss_one (ps_ret (pe_tup (pa_cons (pv 1) (StX.pa_star (pv 2) pa_nil)))))))), ?_⟩
  obtain ⟨dx, row, e⟩ := R.ob
  have ht := isF_told hc
  have hx : nxt ws i = factK c := by
    rw [ht] at hd
    exact (drop_nxt hd).1
  have hN : ws.drop (i + 1) = factN c ++ rest := by
    rw [ht] at hd
    exact (drop_nxt hd).2
  obtain ⟨u, hu, ru⟩ := T.v_FACTS _ (isF_mem hc)
  refine ⟨_, rfl, r, dx, _, rfl, e, rfl, r, wl, ws, i, rfl, R, ?_⟩
  rw [hx]
  refine ⟨_, rfl, _, _, rfl, rfl, hu, _, rfl, iteF ?_⟩
  refine ⟨_, rfl, r, _, dx, _, _, rfl, e, T.c_Reader, T.n_Reader_at, rfs_at .., _, _, rfl, rfl, dx, _, e, (by show 3 < 1000; decide), ?_⟩
  have m := R.move tb e (i + 1)
  obtain ⟨f1, R1⟩ := m
  let H1 : Hp := L2.upd H r (.ins (C_Reader K) dx (rfs wl row (i + 1)))
  have ll := isF_len hc
  refine ⟨_, rfl, He.ga K "FACTS", factK c, .int (factN c).length, rfl, rfl, ⟨es, nn, u, D.at_, D.lit, hu, ru⟩, _, rfl, by omega, by omega, fun D2 hD => ?_⟩
  have nD : r ≠ D2 := by
    obtain ⟨_, _, e1⟩ := R1.ob
    exact ne_of_none e1 hD
  have nw : wl ≠ D2 := ne_of_none R1.wl hD
  refine lc_range (lo := 0) (n := (factN c).length) (fun j H => Fr K [r] H1 H ∧ RdAt K H r wl ws (i + 1 + j) ∧ H D2 = some (.lst (((factN c).take j).map V.str))) ⟨(Fr.refl f1.2).upNew f1.2 hD, R1.upd nD nw, by rw [upd_same]; rfl⟩
    (fun j H hj ⟨f, R2, h2⟩ => ?_) (fun H ⟨f, R2, h2⟩ => ?_)
  · refine ⟨rfl, ?_⟩
    obtain ⟨dx2, row2, e2⟩ := R2.ob
    have hj2 : (factN c)[j]? = some (factN c)[j] := List.getElem?_eq_getElem hj
    have hn := drop_at hN hj2
    refine ⟨_, rfl, r, dx2, _, rfl, e2, rfl, r, wl, ws, i + 1 + j, rfl, R2, f.2, by rw [hn]; exact isF_nm hc _ (List.getElem_mem hj), fun H3 f3 R3 => ?_⟩
    have h3 : H3 D2 = _ := f3.at h2 (by intro _ z; cases z) (fun z => nD (List.mem_singleton.mp z).symm)
    refine ⟨_, h3, ?_, (f.trans f3).upNew f1.2 hD, R3.upd nD nw, ?_⟩
    · rw [List.length_map, List.length_take]
      exact Nat.lt_of_le_of_lt (Nat.le_trans (Nat.min_le_right _ _) ll) (by decide)
    · rw [upd_same, hn, ← take_snoc hj2]
  · refine ⟨_, rfl, _, rfl, D2, _, rfl, .inr (SqL.of h2), ?_, ?_⟩
    · rw [List.take_length]
      simp only [List.length_cons, List.length_append, List.length_map, List.length_nil]
      exact Nat.le_trans (by omega : (factN c).length + 0 + 1 ≤ 3) (by decide)
    intro t nt
    have i1 : i + c.told.length = i + 1 + (factN c).length := by rw [ht, List.length_cons]; omega
    have g1 : Fr K [r] H (L2.upd H t (.tup [])) → True := fun _ => trivial
    have nr : r ≠ t := by
      obtain ⟨_, _, e2⟩ := R2.ob
      exact ne_of_none e2 nt
    refine k _ _ ((f1.trans f).trans (Fr.new f.2 nt)) (by rw [i1]; exact R2.upd nr (ne_of_none R2.wl nt)) ?_
    rw [isF_p hc]
    refine ND.tup ?_ upd_same ((f1.trans f).3 _ nt) (by simp)
    rw [List.take_length, List.append_nil]
    exact strs_trAll (xs := factK c :: factN c)
def spReadDeed (K : PySem.W.Frag) : Sp := fun vs H Q _ => ∃ (r wl : Addr) (ws : List Str) (i : Nat) (d : Deed) (rest : List Str), vs = [.ref r] ∧ RdAt K H r wl ws i ∧ Tb K H ∧ dWf d ∧ ws.drop i = dTold d ++ rest ∧
  ∀ H' v, Fr K [r] H H' → RdAt K H' r wl ws (i + (dTold d).length) → ND K H [] H' v (dP d) → Q v H'
theorem R_read_deed (T : Txt w K mg base) : FnR P w K mg base CX0 10 (a_Reader_read_deed K) (spReadDeed K) := by
  refine mkR T.f_Reader_read_deed sc_Reader_read_deed bd_Reader_read_deed ?_ ?_
  · rintro vs H Q E ⟨r, wl, ws, i, c, rest, rfl, _⟩; rfl
  rintro cdv A outer s H vs Q E hr ⟨r, wl, ws, i, d, rest, rfl, R, tb, hw, hd, k⟩
  have nd := sc_Reader_read_deed.nd
  refine ⟨_, pss_cons (ps_if (pt_val (pe_methR (pv 0) T.c_Reader T.m_Reader_skip (R_skip T) (hr.mono (by decide)) pass0 (pa_cons pe_str pa_nil))) (pss_one (ps_ret (pe_tup (pa_cons pe_str (pa_cons pe_str pa_nil))))) pss_nil)
    (pss_cons (ps_set (i := 1) nd rfl (.inl rfl) (pe_m0F (pv 0) T.c_Reader T.m_Reader_peek (R_peek T) (hr.mono (by decide))))
    (pss_cons (ps_if (pt_cmpR op_notIn_seq (pv 1) (pe_glob (by rfl) T.g_DEEDS (v := .ref (He.ga K "DEEDS")) rfl) (by rfl)) (pss_one ps_never) pss_nil)
    (pss_cons (ps_fldaug (pv 0) pe_int in_add)
    (pss_one (ps_ret (pe_tup (pa_cons (pv 1) (pa_cons (pe_m0F (pv 0) T.c_Reader T.m_Reader_take_name (R_take_name T) (hr.mono (by decide))) pa_nil)))))))), ?_⟩
  obtain ⟨dx, row, e⟩ := R.ob
  refine ⟨_, rfl, r, dx, _, rfl, e, rfl, r, wl, ws, i, "stop", rfl, R, tb, fun hx H1 f1 R1 => ?_, fun hx => ?_⟩
  · refine ⟨true, rfl, iteT ?_⟩
    refine ⟨by show 2 ≤ sizeLine; decide, fun t nt => ?_⟩
    rcases hw with rfl | ⟨h1, h2⟩
    · have e1 : dTold ((("stop" : Str), ("" : Str)) : Deed) = [("stop" : Str)] := by unfold dTold; exact if_pos rfl
      refine k _ _ (f1.trans (Fr.new f1.2 nt)) ?_ (ND.tup (.cons (.str _) (.cons (.str _) .nil)) upd_same (f1.3 _ nt) (by simp))
      rw [e1]
      obtain ⟨_, _, e2⟩ := R1.ob
      exact R1.upd (ne_of_none e2 nt) (ne_of_none R1.wl nt)
    · exfalso
      have n1 : d.1 ≠ "stop" := by
        intro z
        rw [z] at h1
        revert h1
        decide +kernel
      unfold dTold at hd
      rw [if_neg n1] at hd
      exact n1 ((drop_nxt hd).1.symm.trans hx)
  · refine ⟨false, rfl, iteF ?_⟩
    rcases hw with rfl | ⟨h1, h2⟩
    · exfalso
      have e1 : dTold ((("stop" : Str), ("" : Str)) : Deed) = [("stop" : Str)] := by unfold dTold; exact if_pos rfl
      rw [e1] at hd
      exact hx (drop_nxt hd).1
    · have n1 : d.1 ≠ "stop" := by
        intro z
        rw [z] at h1
        revert h1
        decide +kernel
      have e1 : dTold d = [d.1, d.2] := by unfold dTold; exact if_neg n1
      rw [e1] at hd k
      have q1 := drop_nxt hd
      have q2 := drop_nxt q1.2
      refine ⟨_, rfl, r, dx, _, rfl, e, rfl, r, wl, ws, i, rfl, R, ?_⟩
      rw [q1.1]
      refine ⟨_, rfl, _, _, rfl, .inr (T.t_DEEDS _), rfl, rfl, _, rfl, ?_⟩
      have hin : inV (V.str d.1) [.str "mark", .str "unmark", .str "file", .str "pass"] = true := by
        simp only [kindsD, List.mem_cons, List.not_mem_nil, or_false] at h1
        rcases h1 with h | h | h | h <;> rw [h] <;> decide +kernel
      show (if (if true = true then !inV (V.str d.1) [.str "mark", .str "unmark", .str "file", .str "pass"] else inV (V.str d.1) [.str "mark", .str "unmark", .str "file", .str "pass"]) = true then _ else _)
      rw [hin]
      refine iteF ?_
      refine ⟨_, rfl, r, _, dx, _, _, rfl, e, T.c_Reader, T.n_Reader_at, rfs_at .., _, _, rfl, rfl, dx, _, e, (by show 3 < 1000; decide), ?_⟩
      obtain ⟨f1, R1⟩ := R.move tb e (i + 1)
      obtain ⟨dx2, row2, e2⟩ := R1.ob
      refine ⟨_, rfl, _, rfl, r, dx2, _, rfl, e2, rfl, r, wl, ws, i + 1, rfl, R1, f1.2, by rw [q2.1]; exact h2, fun H3 f3 R3 => ?_⟩
      rw [q2.1]
      refine ⟨by show 2 ≤ sizeLine; decide, fun t nt => ?_⟩
      refine k _ _ ((f1.trans f3).trans (Fr.new f3.2 nt)) ?_ (ND.tup (.cons (.str _) (.cons (.str _) .nil)) upd_same ((f1.trans f3).3 _ nt) (by simp))
      obtain ⟨_, _, e3⟩ := R3.ob
      exact R3.upd (ne_of_none e3 nt) (ne_of_none R3.wl nt)
end
end So
end

section
set_option Elab.async false
set_option linter.all false
set_option maxRecDepth 100000
set_option maxHeartbeats 4000000
namespace So
open PySem PySem.Spec PyProof.Rows L2 GxA
open GxR (TabB TabG Tabbed)
/-! ### conditions read -/
theorem nxt_drop {ws rest : List Str} {i : Nat} (h : ws.drop i = rest) : nxt ws i = rest.headD "" := by
  cases rest with
  | nil =>
    have : ws.length ≤ i := by
      rcases Nat.lt_or_ge i ws.length with k | k
      · have := congrArg List.length h
        rw [List.length_drop, List.length_nil] at this
        omega
      · exact k
    unfold nxt
    rw [List.getD_eq_getElem?_getD, List.getElem?_eq_none this]
    rfl
  | cons x r => exact (drop_nxt h).1
/-- what may not come behind -/
def Stop (l : Nat) (rest : List Str) : Prop := (1 ≤ l → rest.headD "" ≠ "and") ∧ (2 ≤ l → rest.headD "" ≠ "or")
theorem Stop.zero {rest : List Str} : Stop 0 rest := ⟨fun h => by omega, fun h => by omega⟩
theorem ne_kind {k : Str} (h : k ∈ kinds1) : k ≠ "not" ∧ k ≠ "(" ∧ k ≠ "any" ∧ k ≠ "over" := by
  simp only [kinds1, List.mem_cons, List.not_mem_nil, or_false] at h
  rcases h with rfl | rfl | rfl | rfl | rfl <;> decide +kernel
section
variable {P : Program} {w : World} {K : PySem.W.Frag} {mg : Str → Option Value} {base : Heap}
abbrev tSkip (K : PySem.W.Frag) (x : Str) : TT := tB (tMethR (C_Reader K) "skip" (spSkip K) E0 (tVar 0) (tCons (tC (.str x)) tNil))
theorem rd_no {σ : L2.St} {H : Hp} {r wl : Addr} {ws : List Str} {i : Nat} {x : Str} {Q : Bool → Hp → Prop} (hs : σ[0]? = some (some (.ref r))) (R : RdAt K H r wl ws i) (tb : Tb K H) (hx : nxt ws i ≠ x) (q : Q false H) : tSkip K x σ H Q := by
  obtain ⟨dx, row, e⟩ := R.ob
  exact ⟨_, hs, r, dx, _, rfl, e, rfl, r, wl, ws, i, x, rfl, R, tb, fun z => absurd z hx, fun _ => ⟨false, rfl, q⟩⟩
theorem rd_yes {σ : L2.St} {H : Hp} {r wl : Addr} {ws : List Str} {i : Nat} {x : Str} {Q : Bool → Hp → Prop} (hs : σ[0]? = some (some (.ref r))) (R : RdAt K H r wl ws i) (tb : Tb K H) (hx : nxt ws i = x)
    (q : ∀ H1, Fr K [r] H H1 → RdAt K H1 r wl ws (i + 1) → Q true H1) : tSkip K x σ H Q := by
  obtain ⟨dx, row, e⟩ := R.ob
  exact ⟨_, hs, r, dx, _, rfl, e, rfl, r, wl, ws, i, x, rfl, R, tb, fun _ H1 f1 R1 => ⟨true, rfl, q H1 f1 R1⟩, fun z => absurd hx z⟩
def spRd (l m : Nat) (K : PySem.W.Frag) : Sp := fun vs H Q _ => ∃ (r wl : Addr) (ws : List Str) (i : Nat) (c : Cnd) (rest W : List Str), vs = [.ref r] ∧ RdAt K H r wl ws i ∧ Tb K H ∧ c.wf W l ∧ c.dep < m ∧ ws.drop i = c.told ++ rest ∧ Stop l rest ∧
  ∀ H' v, Fr K [r] H H' → RdAt K H' r wl ws (i + c.told.length) → ND K H [] H' v c.p → Q v H'
theorem fnr_false {k : Nat} {f : Addr} {sp : Sp} (h : ∀ vs H Q E, ¬ sp vs H Q E) : FnR P w K mg base CX0 k f sp := fun _ _ _ _ _ _ _ _ _ _ _ z => absurd z (h _ _ _ _)
theorem RdAt.new {H : Hp} {r wl t : Addr} {ws : List Str} {i : Nat} {o : HO} (R : RdAt K H r wl ws i) (nt : H t = none) : RdAt K (L2.upd H t o) r wl ws i := by
  obtain ⟨_, _, e⟩ := R.ob
  exact R.upd (ne_of_none e nt) (ne_of_none R.wl nt)
theorem RdAt.some {H : Hp} {r wl : Addr} {ws : List Str} {i : Nat} (R : RdAt K H r wl ws i) : H r ≠ none := by
  obtain ⟨_, _, e⟩ := R.ob
  rw [e]
  intro z; cases z
theorem single_step (T : Txt w K mg base) {m n : Nat} (hS : FnR P w K mg base CX0 (n + 10) (a_Reader_read_single K) (spRd 0 m K)) (hC : FnR P w K mg base CX0 (n + 12) (a_Reader_read_condition K) (spRd 2 m K)) :
    FnR P w K mg base CX0 (n + 13) (a_Reader_read_single K) (spRd 0 (m + 1) K) := by
  refine mkR T.f_Reader_read_single sc_Reader_read_single bd_Reader_read_single ?_ ?_
  · rintro vs H Q E ⟨r, wl, ws, i, c, rest, W, rfl, _⟩; rfl
  rintro cdv A outer s H vs Q E hr ⟨r, wl, ws, i, c, rest, W, rfl, R, tb, hw, hm, hd, _, k⟩
  have nd := sc_Reader_read_single.nd
  refine ⟨_, pss_cons (ps_if (pt_val (pe_methR (pv 0) T.c_Reader T.m_Reader_skip (R_skip T) (hr.mono (by omega)) pass0 (pa_cons pe_str pa_nil)))
      (pss_one (ps_ret (pe_tup (pa_cons pe_str (pa_cons (pe_m0F (pv 0) T.c_Reader T.m_Reader_read_single hS (hr.mono (by omega))) pa_nil))))) pss_nil)
    (pss_cons (ps_if (pt_val (pe_methR (pv 0) T.c_Reader T.m_Reader_skip (R_skip T) (hr.mono (by omega)) pass0 (pa_cons pe_str pa_nil)))
      (pss_cons (ps_set (i := 1) nd rfl (.inl rfl) (pe_m0F (pv 0) T.c_Reader T.m_Reader_read_condition hC hr))
        (pss_cons (ps_expr (pe_methR (pv 0) T.c_Reader T.m_Reader_take (R_take T) (hr.mono (by omega)) pass0 (pa_cons pe_str pa_nil))) (pss_one (ps_ret (pv 1))))) pss_nil)
    (pss_cons (ps_if (pt_val (pe_methR (pv 0) T.c_Reader T.m_Reader_skip (R_skip T) (hr.mono (by omega)) pass0 (pa_cons pe_str pa_nil)))
      (pss_one (ps_ret (pe_tup (pa_cons pe_str pa_nil)))) pss_nil)
    (pss_cons (ps_if (pt_val (pe_methR (pv 0) T.c_Reader T.m_Reader_skip (R_skip T) (hr.mono (by omega)) pass0 (pa_cons pe_str pa_nil)))
      (pss_one (ps_ret (pe_tup (pa_cons pe_str (pa_cons (pe_m0F (pv 0) T.c_Reader T.m_Reader_take_number (R_take_number T) (hr.mono (by omega))) pa_nil))))) pss_nil)
    (pss_one (ps_ret (pe_m0F (pv 0) T.c_Reader T.m_Reader_read_fact (R_read_fact T) (hr.mono (by omega)))))))), ?_⟩
  have fct : isF c → tRet (tM0 (C_Reader K) "read_fact" (spReadFact K) (tVar 0)) { nx := fun _ H' => Q .non H', rt := Q } (start ["self", "inner"] [V.ref r]) H := fun hf => by
    obtain ⟨dx, row, e⟩ := R.ob
    exact ⟨_, rfl, r, dx, _, rfl, e, rfl, r, wl, ws, i, c, rest, rfl, R, tb, hf, hd, k⟩
  cases c with
  | any =>
    have q := drop_nxt hd
    refine rd_no rfl R tb (by rw [q.1]; decide +kernel) (iteF ?_)
    refine rd_no rfl R tb (by rw [q.1]; decide +kernel) (iteF ?_)
    refine rd_yes rfl R tb q.1 fun H1 f1 R1 => iteT ?_
    refine ⟨by show 1 ≤ sizeLine; decide, fun t nt => ?_⟩
    exact k _ _ (f1.trans (Fr.new f1.2 nt)) (R1.new nt) (ND.tup (.cons (.str _) .nil) upd_same (f1.3 _ nt) (by simp))
  | over nn =>
    have q := drop_nxt hd
    refine rd_no rfl R tb (by rw [q.1]; decide +kernel) (iteF ?_)
    refine rd_no rfl R tb (by rw [q.1]; decide +kernel) (iteF ?_)
    refine rd_no rfl R tb (by rw [q.1]; decide +kernel) (iteF ?_)
    refine rd_yes rfl R tb q.1 fun H1 f1 R1 => iteT ?_
    obtain ⟨dx, row, e⟩ := R1.ob
    refine ⟨_, rfl, r, dx, _, rfl, e, rfl, r, wl, ws, i + 1, nn, rfl, R1, f1.2, (drop_nxt q.2).1, hw, fun H2 f2 R2 => ?_⟩
    refine ⟨by show 2 ≤ sizeLine; decide, fun t nt => ?_⟩
    exact k _ _ ((f1.trans f2).trans (Fr.new f2.2 nt)) (R2.new nt) (ND.tup (.cons (.str _) (.cons (.int _) .nil)) upd_same ((f1.trans f2).3 _ nt) (by simp))
  | fact kk nn =>
    have q := drop_nxt hd
    obtain ⟨h1, h2, h3, h4⟩ := ne_kind hw.1
    refine rd_no rfl R tb (by rw [q.1]; exact h1) (iteF ?_)
    refine rd_no rfl R tb (by rw [q.1]; exact h2) (iteF ?_)
    refine rd_no rfl R tb (by rw [q.1]; exact h3) (iteF ?_)
    refine rd_no rfl R tb (by rw [q.1]; exact h4) (iteF ?_)
    exact fct ⟨hw.1, hw.2.1⟩
  | pair a b =>
    have q := drop_nxt hd
    refine rd_no rfl R tb (by rw [q.1]; decide +kernel) (iteF ?_)
    refine rd_no rfl R tb (by rw [q.1]; decide +kernel) (iteF ?_)
    refine rd_no rfl R tb (by rw [q.1]; decide +kernel) (iteF ?_)
    refine rd_no rfl R tb (by rw [q.1]; decide +kernel) (iteF ?_)
    exact fct ⟨hw.1, hw.2.1⟩
  | neg c =>
    have q := drop_nxt (show ws.drop i = ("not" : Str) :: (c.told ++ rest) from hd)
    refine rd_yes rfl R tb q.1 fun H1 f1 R1 => iteT ?_
    obtain ⟨dx, row, e⟩ := R1.ob
    refine ⟨_, rfl, r, dx, _, rfl, e, rfl, r, wl, ws, i + 1, c, rest, W, rfl, R1, f1.2, hw, Nat.lt_of_succ_lt_succ hm, q.2, Stop.zero, fun H2 v f2 R2 d2 => ?_⟩
    refine ⟨by show 2 ≤ sizeLine; decide, fun t nt => ?_⟩
    have hl : i + (Cnd.neg c).told.length = i + 1 + c.told.length := by show i + (c.told.length + 1) = _; omega
    exact k _ _ ((f1.trans f2).trans (Fr.new f2.2 nt)) (by rw [hl]; exact R2.new nt) (ND.tup (.cons (.str _) (.cons (Tr.same (Same.trans (nu_back f1.3 (by simp)) (nu_upd (.inr (.inr nt)))) d2) .nil)) upd_same ((f1.trans f2).3 _ nt) (by simp))
  | par c =>
    have hd : ws.drop i = ("(" : Str) :: (c.told ++ ((")" : Str) :: rest)) := by
      rw [hd]
      show ("(" : Str) :: ((c.told ++ [(")" : Str)]) ++ rest) = _
      rw [List.append_assoc]
      rfl
    have q := drop_nxt hd
    refine rd_no rfl R tb (by rw [q.1]; decide +kernel) (iteF ?_)
    refine rd_yes rfl R tb q.1 fun H1 f1 R1 => iteT ?_
    obtain ⟨dx, row, e⟩ := R1.ob
    refine ⟨_, rfl, r, dx, _, rfl, e, rfl, r, wl, ws, i + 1, c, (")" : Str) :: rest, W, rfl, R1, f1.2, hw, Nat.lt_of_succ_lt_succ hm, q.2, ⟨fun _ => (by decide +kernel : (")" : Str) ≠ "and"), fun _ => (by decide +kernel : (")" : Str) ≠ "or")⟩, fun H2 v f2 R2 d2 => ?_⟩
    have q2 := drop_nxt (drop_app q.2)
    obtain ⟨dx2, row2, e2⟩ := R2.ob
    refine ⟨_, rfl, r, dx2, _, rfl, e2, rfl, r, wl, ws, _, ")", rfl, R2, f2.2, q2.1, fun H3 f3 R3 => ?_⟩
    have hl : i + (Cnd.par c).told.length = i + 1 + c.told.length + 1 := by show i + ((c.told ++ [(")" : Str)]).length + 1) = _; rw [List.length_append]; show i + (c.told.length + 1 + 1) = _; omega
    exact ⟨_, rfl, k _ _ ((f1.trans f2).trans f3) (by rw [hl]; exact R3) (Tr.same (Same.trans (nu_back f1.3 (by simp)) (nu_fr f3 fun e m => .inr (by rw [List.mem_singleton.mp m]; exact R.some))) d2)⟩
  | and2 a b => exact absurd hw.1 (by omega)
  | and3 a b c => exact absurd hw.1 (by omega)
  | or2 a b => exact absurd hw.1 (by omega)
end
end So
end

section
set_option Elab.async false
set_option linter.all false
set_option maxRecDepth 100000
set_option maxHeartbeats 4000000
namespace So
open PySem PySem.Spec PyProof.Rows L2 GxA
open GxR (TabB TabG Tabbed)
section
variable {P : Program} {w : World} {K : PySem.W.Frag} {mg : Str → Option Value} {base : Heap}
abbrev rLenS (K : PySem.W.Frag) : List V → Hp → VK → Prop := fun xs H Q => ∃ p ys, xs = [.ref p] ∧ (SqL K H p ys ∨ SqT K H p ys) ∧ Q (.int ys.length) H
def jn (x : Str) (ps : List Cnd) : List Str := ps.flatMap fun p => x :: p.told
def joinP (x : Str) : List Cnd → PyData
  | [p] => p.p
  | ps => .tuple [.str x, .list (ps.map Cnd.p)]
abbrev tParts (K : PySem.W.Frag) (mth x : Str) (sp : Sp) : TS := tSeq (tAsg (tLst (tCons (tM0 (C_Reader K) mth sp (tVar 0)) tNil)) (gName 1)) (tSeq (tWhile (tSkip K x) (tDrop (tBM K "list" rAppend (tVar 1) (tCons (tM0 (C_Reader K) mth sp (tVar 0)) tNil))))
  (tRet (tIf (tTest (tOp rEq (tCB (rLenS K) (tCons (tVar 1) tNil)) (tC (.int 1)))) (tOp (rIxL K) (tVar 1) (tC (.int 0))) (tTup (tCons (tC (.str x)) (tCons (tVar 1) tNil))))))
theorem nu_ex {H0 H1 : Hp} {D : Addr} (h : H1 D = none) : Same (Nu H0 [] H1) (Nu H0 [D] H1) := Nu.le fun p o a _ c _ => ⟨a, (fun m => by rw [List.mem_singleton.mp m, h] at c; cases c), c⟩
theorem nu_drop {H0 H1 : Hp} {E : List Addr} : Same (Nu H0 E H1) (Nu H0 [] H1) := Nu.le fun p o a _ c _ => ⟨a, by simp, c⟩
theorem parts_read {l m : Nat} {x mth : Str} {Q : VK} {H : Hp} {r wl : Addr} {ws : List Str} {i : Nat} {p0 : Cnd} {ps : List Cnd} {rest W : List Str} (R : RdAt K H r wl ws i) (tb : Tb K H) (hw : ∀ p ∈ p0 :: ps, p.wf W l ∧ p.dep < m)
    (hd : ws.drop i = p0.told ++ (jn x ps ++ rest)) (hx : rest.headD "" ≠ x) (hs1 : ∀ t, Stop l (x :: t)) (hs2 : Stop l rest) (hl : ps.length ≤ 10) (hm : ∀ wl row i, (rfs wl row i).lookup mth = none)
    (k : ∀ H' v, Fr K [r] H H' → RdAt K H' r wl ws (i + (p0.told ++ jn x ps).length) → ND K H [] H' v (joinP x (p0 :: ps)) → Q v H') :
    tParts K mth x (spRd l m K) { nx := fun _ H' => Q .non H', rt := Q } (start ["self", "parts"] [.ref r]) H := by
  have stp : ∀ qs : List Cnd, Stop l (jn x qs ++ rest) := fun qs => by
    cases qs with
    | nil => exact hs2
    | cons q qs => exact hs1 _
  obtain ⟨dx, row, e⟩ := R.ob
  refine ⟨_, rfl, r, dx, _, rfl, e, hm _ _ _, r, wl, ws, i, p0, _, W, rfl, R, tb, (hw p0 List.mem_cons_self).1, (hw p0 List.mem_cons_self).2, hd, stp ps, fun H1 v1 f1 R1 d1 => ?_⟩
  refine ⟨by show 1 ≤ sizeLine; decide, fun D nD => ?_⟩
  have hD : H D = none := f1.3 _ nD
  have nr : r ≠ D := ne_of_none e hD
  have nw : wl ≠ D := ne_of_none R.wl hD
  refine ⟨fun mm σ H' => ∃ (done todo : List Cnd) (vs : List V) (j : Nat), mm = todo.length ∧ σ = [some (V.ref r), some (V.ref D)] ∧ p0 :: ps = done ++ todo ∧ Fr K [r] H H' ∧ RdAt K H' r wl ws j ∧ ws.drop j = jn x todo ++ rest ∧
    j + (jn x todo).length = i + (p0.told ++ jn x ps).length ∧ H' D = some (.lst vs) ∧ NDs K H [D] H' vs (done.map Cnd.p), ⟨ps.length, [p0], ps, [v1], i + p0.told.length, rfl, rfl, rfl, f1.upNew tb hD, R1.upd nr nw, drop_app hd, ?_, upd_same, ?_⟩, ?_⟩
  · rw [List.length_append]; omega
  · exact .cons (Tr.same (Same.trans (nu_ex nD) (nu_upd (.inl (List.mem_singleton.mpr rfl)))) d1) .nil
  rintro mm σ H2 ⟨done, todo, vs, j, rfl, rfl, hp, f2, R2, hd2, hj, h2, n2⟩
  cases todo with
  | nil =>
    refine rd_no rfl R2 f2.2 (by rw [nxt_drop hd2]; exact hx) (iteF ?_)
    have hdn : p0 :: ps = done := by rw [hp, List.append_nil]
    subst hdn
    have hlen : vs.length = ps.length + 1 := by rw [TrAll.len n2, List.length_map, List.length_cons]
    have hj2 : j = i + (p0.told ++ jn x ps).length := by simpa [jn] using hj
    subst hj2
    refine ⟨_, rfl, D, vs, rfl, .inl (SqL.of h2), rfl, _, rfl, ?_⟩
    cases ps with
    | nil =>
      refine iteD (by rw [hlen]; rfl) ?_
      match vs, hlen, n2, h2 with
      | [v], _, n2, h2 =>
        cases n2 with
        | cons a _ => exact ⟨_, rfl, D, _, _, v, rfl, rfl, SqL.of h2, rfl, k _ _ f2 R2 (Tr.same nu_drop a)⟩
    | cons p ps =>
      refine iteN (by rw [hlen]; intro z; injection z with z; simp only [List.length_cons] at z; omega) ?_
      refine ⟨_, rfl, by show 2 ≤ sizeLine; decide, fun t nt => ?_⟩
      have tD : D ≠ t := ne_of_none h2 nt
      refine k _ _ (f2.trans (Fr.new f2.2 nt)) (R2.new nt) (ND.tup (.cons (.str x) (.cons (ND.lst (TrAll.same (Same.trans nu_drop (nu_upd (.inr (.inr nt)))) n2) (by rw [upd_ne tD]; exact h2) hD (by simp)) .nil)) upd_same (f2.3 _ nt) (by simp))
  | cons p todo =>
    have hd3 : ws.drop j = x :: (p.told ++ (jn x todo ++ rest)) := by
      rw [hd2]
      simp [jn]
    have q := drop_nxt hd3
    refine rd_yes rfl R2 f2.2 q.1 fun H3 f3 R3 => iteT ?_
    refine ⟨fun σ' H' => ∃ (done todo' : List Cnd) (vs : List V) (j : Nat), todo.length = todo'.length ∧ σ' = [some (V.ref r), some (V.ref D)] ∧ p0 :: ps = done ++ todo' ∧ Fr K [r] H H' ∧ RdAt K H' r wl ws j ∧ ws.drop j = jn x todo' ++ rest ∧
      j + (jn x todo').length = i + (p0.told ++ jn x ps).length ∧ H' D = some (.lst vs) ∧ NDs K H [D] H' vs (done.map Cnd.p), fun σ' H' h => ⟨todo.length, by simp, h⟩, ?_⟩
    have h3 : H3 D = some (.lst vs) := f3.at h2 (by intro _ z; cases z) (fun z => nr (List.mem_singleton.mp z).symm)
    obtain ⟨dx3, row3, e3⟩ := R3.ob
    have hmem : p ∈ p0 :: ps := by rw [hp]; simp
    refine ⟨_, rfl, .inl ⟨rfl, _, SqL.of h3⟩, _, rfl, r, dx3, _, rfl, e3, hm _ _ _, r, wl, ws, j + 1, p, _, W, rfl, R3, f3.2, (hw p hmem).1, (hw p hmem).2, q.2, stp todo, fun H4 v4 f4 R4 d4 => ?_⟩
    have h4 : H4 D = some (.lst vs) := f4.at h3 (by intro _ z; cases z) (fun z => nr (List.mem_singleton.mp z).symm)
    have rT : ∀ e ∈ [r], e ∈ [D] ∨ H e ≠ none := fun e m => .inr (by rw [List.mem_singleton.mp m]; exact R.some)
    have hlen : vs.length = done.length := by rw [TrAll.len n2, List.length_map]
    have hle : done.length ≤ 11 := by
      have := congrArg List.length hp
      rw [List.length_append, List.length_cons] at this
      omega
    refine ⟨D, vs, v4, rfl, rfl, h4, Nat.lt_of_le_of_lt (by rw [hlen]; exact hle) (by decide), ?_⟩
    refine ⟨done ++ [p], todo, vs ++ [v4], _, rfl, rfl, by rw [hp]; simp, ((f2.trans f3).trans f4).upNew tb hD, R4.upd nr nw, drop_app q.2, ?_, upd_same, ?_⟩
    · have e1 : (jn x (p :: todo)).length = 1 + p.told.length + (jn x todo).length := by simp [jn]; omega
      omega
    · rw [List.map_append]
      refine TrAll.snoc (TrAll.same (Same.trans (Same.trans (nu_fr f3 rT) (nu_fr f4 rT)) (nu_upd (.inl (List.mem_singleton.mpr rfl)))) n2) (Tr.same (Same.trans (nu_back (fun p z => f2.3 p (f3.3 p z)) (fun e m => .inr (by rw [List.mem_singleton.mp m, h3]; intro z; cases z))) (nu_upd (.inl (List.mem_singleton.mpr rfl)))) d4)
theorem R_joined (T : Txt w K mg base) {m n : Nat} (hS : FnR P w K mg base CX0 (n + 2) (a_Reader_read_single K) (spRd 0 m K)) : FnR P w K mg base CX0 (n + 3) (a_Reader_read_joined K) (spRd 1 m K) := by
  refine mkR T.f_Reader_read_joined sc_Reader_read_joined bd_Reader_read_joined ?_ ?_
  · rintro vs H Q E ⟨r, wl, ws, i, c, rest, W, rfl, _⟩; rfl
  rintro cdv A outer s H vs Q E hr ⟨r, wl, ws, i, c, rest, W, rfl, R, tb, hw, hm, hd, hs, k⟩
  have nd := sc_Reader_read_joined.nd
  refine ⟨_, PSs.nox <| pss_cons (ps_set (i := 1) nd rfl (.inl rfl) (pe_lst (pa_cons (pe_m0F (pv 0) T.c_Reader T.m_Reader_read_single hS hr) pa_nil)))
    (pss_cons (ps_while PassesOwn.never (pt_val (pe_methR (pv 0) T.c_Reader T.m_Reader_skip (R_skip T) (hr.mono (by omega)) pass0 (pa_cons pe_str pa_nil)))
      (pss_one (ps_expr (pe_bm PySem.F.plainAttrs_list PySem.F.slot_list_append PySem.F.type_list_append mt_append (pv 1) (pa_cons (pe_m0F (pv 0) T.c_Reader T.m_Reader_read_single hS hr) pa_nil)))))
    (pss_one (ps_ret (pe_ifExp (pt_cmpR op_eq (pe_callB call_len_seq (by rfl) T.z_len PySem.boot_len (pa_cons (pv 1) pa_nil)) pe_int (nomark _)) (pe_ix ix_list (pv 1) pe_int (fun _ _ => rfl)) (pe_tup (pa_cons pe_str (pa_cons (pv 1) pa_nil))))))), ?_⟩
  have st : ∀ t, Stop 0 (("and" : Str) :: t) := fun _ => Stop.zero
  have go : ∀ p0 ps, c.told = p0.told ++ jn "and" ps → joinP "and" (p0 :: ps) = c.p → (∀ p ∈ p0 :: ps, p.wf W 0 ∧ p.dep < m) → ps.length ≤ 10 → tParts K "read_single" "and" (spRd 0 m K) { nx := fun _ H' => Q .non H', rt := Q } (start ["self", "parts"] [.ref r]) H := fun p0 ps e1 e2 h3 h4 =>
    parts_read R tb h3 (by rw [hd, e1, List.append_assoc]) (hs.1 (Nat.le_refl _)) st Stop.zero h4 (fun _ _ _ => rfl) fun H' v f R' d => k H' v f (by rw [e1]; exact R') (by rw [← e2]; exact d)
  have go1 : c.wf W 0 → c.dep < m → tParts K "read_single" "and" (spRd 0 m K) { nx := fun _ H' => Q .non H', rt := Q } (start ["self", "parts"] [.ref r]) H := fun h h' => go c [] (by simp [jn]) rfl (by intro p hp; rw [List.mem_singleton.mp hp]; exact ⟨h, h'⟩) (by simp)
  cases c with
  | and2 a b => exact go a [b] (by simp [jn, Cnd.told]) rfl (by
      intro p hp
      simp only [List.mem_cons, List.not_mem_nil, or_false] at hp
      simp only [Cnd.dep] at hm
      rcases hp with rfl | rfl
      · exact ⟨hw.2.1, by omega⟩
      · exact ⟨hw.2.2, by omega⟩) (by simp)
  | and3 a b c => exact go a [b, c] (by simp [jn, Cnd.told]) rfl (by
      intro p hp
      simp only [List.mem_cons, List.not_mem_nil, or_false] at hp
      simp only [Cnd.dep] at hm
      rcases hp with rfl | rfl | rfl
      · exact ⟨hw.2.1, by omega⟩
      · exact ⟨hw.2.2.1, by omega⟩
      · exact ⟨hw.2.2.2, by omega⟩) (by simp)
  | or2 a b => exact absurd hw.1 (by omega)
  | _ => exact go1 hw hm
theorem R_cond (T : Txt w K mg base) {m n : Nat} (hS : FnR P w K mg base CX0 (n + 2) (a_Reader_read_joined K) (spRd 1 m K)) : FnR P w K mg base CX0 (n + 3) (a_Reader_read_condition K) (spRd 2 m K) := by
  refine mkR T.f_Reader_read_condition sc_Reader_read_condition bd_Reader_read_condition ?_ ?_
  · rintro vs H Q E ⟨r, wl, ws, i, c, rest, W, rfl, _⟩; rfl
  rintro cdv A outer s H vs Q E hr ⟨r, wl, ws, i, c, rest, W, rfl, R, tb, hw, hm, hd, hs, k⟩
  have nd := sc_Reader_read_condition.nd
  refine ⟨_, PSs.nox <| pss_cons (ps_set (i := 1) nd rfl (.inl rfl) (pe_lst (pa_cons (pe_m0F (pv 0) T.c_Reader T.m_Reader_read_joined hS hr) pa_nil)))
    (pss_cons (ps_while PassesOwn.never (pt_val (pe_methR (pv 0) T.c_Reader T.m_Reader_skip (R_skip T) (hr.mono (by omega)) pass0 (pa_cons pe_str pa_nil)))
      (pss_one (ps_expr (pe_bm PySem.F.plainAttrs_list PySem.F.slot_list_append PySem.F.type_list_append mt_append (pv 1) (pa_cons (pe_m0F (pv 0) T.c_Reader T.m_Reader_read_joined hS hr) pa_nil)))))
    (pss_one (ps_ret (pe_ifExp (pt_cmpR op_eq (pe_callB call_len_seq (by rfl) T.z_len PySem.boot_len (pa_cons (pv 1) pa_nil)) pe_int (nomark _)) (pe_ix ix_list (pv 1) pe_int (fun _ _ => rfl)) (pe_tup (pa_cons pe_str (pa_cons (pv 1) pa_nil))))))), ?_⟩
  have st : ∀ t, Stop 1 (("or" : Str) :: t) := fun _ => ⟨fun _ => (by decide +kernel : ("or" : Str) ≠ "and"), fun h => by omega⟩
  have go : ∀ p0 ps, c.told = p0.told ++ jn "or" ps → joinP "or" (p0 :: ps) = c.p → (∀ p ∈ p0 :: ps, p.wf W 1 ∧ p.dep < m) → ps.length ≤ 10 → tParts K "read_joined" "or" (spRd 1 m K) { nx := fun _ H' => Q .non H', rt := Q } (start ["self", "parts"] [.ref r]) H := fun p0 ps e1 e2 h3 h4 =>
    parts_read R tb h3 (by rw [hd, e1, List.append_assoc]) (hs.2 (Nat.le_refl _)) st ⟨fun _ => hs.1 (by omega), fun h => by omega⟩ h4 (fun _ _ _ => rfl) fun H' v f R' d => k H' v f (by rw [e1]; exact R') (by rw [← e2]; exact d)
  have go1 : c.wf W 1 → c.dep < m → tParts K "read_joined" "or" (spRd 1 m K) { nx := fun _ H' => Q .non H', rt := Q } (start ["self", "parts"] [.ref r]) H := fun h h' => go c [] (by simp [jn]) rfl (by intro p hp; rw [List.mem_singleton.mp hp]; exact ⟨h, h'⟩) (by simp)
  cases c with
  | or2 a b => exact go a [b] (by simp [jn, Cnd.told]) rfl (by
      intro p hp
      simp only [List.mem_cons, List.not_mem_nil, or_false] at hp
      simp only [Cnd.dep] at hm
      rcases hp with rfl | rfl
      · exact ⟨hw.2.1, by omega⟩
      · exact ⟨hw.2.2, by omega⟩) (by simp)
  | and2 a b => exact go1 ⟨Nat.le_refl _, hw.2⟩ hm
  | and3 a b c => exact go1 ⟨Nat.le_refl _, hw.2⟩ hm
  | _ => exact go1 hw hm
/-- all conditions of less depth than m -/
theorem R_all (T : Txt w K mg base) : ∀ m : Nat, FnR P w K mg base CX0 (3 * m + 12) (a_Reader_read_single K) (spRd 0 m K) ∧ FnR P w K mg base CX0 (3 * m + 14) (a_Reader_read_condition K) (spRd 2 m K)
  | 0 => ⟨fnr_false fun vs H Q E ⟨_, _, _, _, _, _, _, _, _, _, _, h, _⟩ => absurd h (Nat.not_lt_zero _), fnr_false fun vs H Q E ⟨_, _, _, _, _, _, _, _, _, _, _, h, _⟩ => absurd h (Nat.not_lt_zero _)⟩
  | m + 1 => by
    obtain ⟨h1, h2⟩ := R_all T m
    have s1 : FnR P w K mg base CX0 (3 * (m + 1) + 12) (a_Reader_read_single K) (spRd 0 (m + 1) K) := single_step T (n := 3 * m + 2) (h1.mono (by omega)) h2
    exact ⟨s1, R_cond T (R_joined T s1)⟩
end
end So
end

section
set_option Elab.async false
set_option linter.all false
set_option maxRecDepth 100000
set_option maxHeartbeats 4000000
namespace So
open PySem PySem.Spec PyProof.Rows L2 GxA
open GxR (TabB TabG Tabbed)
theorem upd_upd {H : Hp} {a : Addr} {x y : HO} : L2.upd (L2.upd H a x) a y = L2.upd H a y := by
  funext p
  by_cases h : p = a
  · rw [h, upd_same, upd_same]
  · rw [upd_ne h, upd_ne h, upd_ne h]
def rufs (wl v dl : V) : List (Str × V) := [("words", wl), ("condition", v), ("deeds", dl)]
theorem rufs_make (wl v dl : V) : putF "deeds" dl (putF "condition" v (putF "words" wl [])) = rufs wl v dl := rfl
/-- a rule at a, its data new since H0 but for E -/
def RuleN (K : PySem.W.Frag) (H0 : Hp) (E : List Addr) (H : Hp) (a : Addr) (c : Cnd) (ds : List Deed) : Prop := ∃ (dx : Addr) (wl v dl : V), H a = some (.ins (C_Rule K) dx (rufs wl v dl)) ∧ ND K H0 E H v c.p ∧ ND K H0 E H dl (.list (ds.map dP))
def RuleAt (K : PySem.W.Frag) (H : Hp) (a : Addr) (c : Cnd) (ds : List Deed) : Prop := ∃ (dx : Addr) (wl v dl : V), H a = some (.ins (C_Rule K) dx (rufs wl v dl)) ∧ Tr H v c.p ∧ Tr H dl (.list (ds.map dP))
def dsT : List Deed → List Str
  | [] => []
  | d :: ds => dTold d ++ ds.flatMap fun e => ("," : Str) :: dTold e
def ruleT (c : Cnd) (ds : List Deed) : List Str := ("if" : Str) :: (c.told ++ (("then" : Str) :: dsT ds))
section
variable {P : Program} {w : World} {K : PySem.W.Frag} {mg : Str → Option Value} {base : Heap}
def spRuInit (K : PySem.W.Frag) : Sp := fun vs H Q _ => ∃ (a dx : Addr) (wl v dl : V), vs = [.ref a, wl, v, dl] ∧ H a = some (.ins (C_Rule K) dx []) ∧ Q .non (L2.upd H a (.ins (C_Rule K) dx (rufs wl v dl)))
theorem R_Rule_init (T : Txt w K mg base) : FnR P w K mg base CX0 1 (a_Rule_init K) (spRuInit K) := by
  refine mkR T.f_Rule_init sc_Rule_init bd_Rule_init ?_ ?_
  · rintro vs H Q E ⟨a, dx, wl, v, dl, rfl, _⟩; rfl
  rintro cdv A outer s H vs Q E hr ⟨a, dx, wl, v, dl, rfl, ha, k⟩
  refine ⟨_, pss_cons (ps_fld (pv 0) (pv 1) rfl) (pss_cons (ps_fld (pv 0) (pv 2) rfl) (pss_one (ps_fld (pv 0) (pv 3) rfl))), ?_⟩
  refine ⟨_, rfl, _, rfl, a, _, dx, [], rfl, ha, T.c_Rule, T.n_Rule_words, by decide, ?_⟩
  refine ⟨_, rfl, _, rfl, a, _, dx, _, rfl, upd_same, T.c_Rule, T.n_Rule_condition, (by show 1 < 1000; decide), ?_⟩
  refine ⟨_, rfl, _, rfl, a, _, dx, _, rfl, upd_same, T.c_Rule, T.n_Rule_deeds, (by show 2 < 1000; decide), ?_⟩
  show Q .non _
  rw [upd_upd, upd_upd, rufs_make]
  exact k
def spReadRule (K : PySem.W.Frag) : Sp := fun vs H Q _ => ∃ (r wl : Addr) (c : Cnd) (d0 : Deed) (ds : List Deed) (W : List Str), vs = [.ref r] ∧ RdAt K H r wl (ruleT c (d0 :: ds)) 0 ∧ Tb K H ∧ c.wf W 2 ∧ c.dep < 4 ∧ (∀ d ∈ d0 :: ds, dWf d) ∧ ds.length ≤ 5 ∧
  ∀ H' a, Fr K [r] H H' → RuleN K H [] H' a c (d0 :: ds) → Q (.ref a) H'
def jd (ds : List Deed) : List Str := ds.flatMap fun e => ("," : Str) :: dTold e
theorem Fr.drop1 {E : List Addr} {H H' : Hp} {D : Addr} (f : Fr K (E ++ [D]) H H') (h : H D = none) : Fr K E H H' := ⟨fun p o n e z => f.1 p o (fun m => by
  rcases List.mem_append.mp m with m | m
  · exact n m
  · rw [List.mem_singleton.mp m, h] at e; cases e) e z, f.2, f.3⟩
theorem deeds_loop {T : Txt w K mg base} {D : Ends} {H H1 : Hp} {r wl Dl : Addr} {ws : List Str} {i : Nat} {d0 : Deed} {ds : List Deed} {cv : V} {v1 : V} (tb : Tb K H1) (hr : H r ≠ none) (R : RdAt K H1 r wl ws i) (lv : ∀ p, H1 p = none → H p = none) (nr : r ≠ Dl) (nw : wl ≠ Dl) (hD1 : H1 Dl = some (.lst [v1])) (n1 : NDs K H [Dl] H1 [v1] [dP d0])
    (hw : ∀ d ∈ ds, dWf d) (hd : ws.drop i = jd ds) (hl : ds.length ≤ 10)
    (k : ∀ H' vs, Fr K [r, Dl] H1 H' → RdAt K H' r wl ws (i + (jd ds).length) → H' Dl = some (.lst vs) → NDs K H [Dl] H' vs ((d0 :: ds).map dP) → D.nx [some (V.ref r), some cv, some (V.ref Dl)] H') :
    tWhile (tSkip K ",") (tDrop (tBM K "list" rAppend (tVar 2) (tCons (tM0 (C_Reader K) "read_deed" (spReadDeed K) (tVar 0)) tNil))) D [some (V.ref r), some cv, some (V.ref Dl)] H1 := by
  refine ⟨fun mm σ H' => ∃ (done todo : List Deed) (vs : List V) (j : Nat), mm = todo.length ∧ σ = [some (V.ref r), some cv, some (V.ref Dl)] ∧ d0 :: ds = done ++ todo ∧ (∀ d ∈ todo, dWf d) ∧ Fr K [r, Dl] H1 H' ∧ RdAt K H' r wl ws j ∧ ws.drop j = jd todo ∧
    j + (jd todo).length = i + (jd ds).length ∧ H' Dl = some (.lst vs) ∧ NDs K H [Dl] H' vs (done.map dP), ⟨ds.length, [d0], ds, [v1], i, rfl, rfl, rfl, hw, Fr.refl tb, R, hd, rfl, hD1, n1⟩, ?_⟩
  rintro mm σ H2 ⟨done, todo, vs, j, rfl, rfl, hp, hw2, f2, R2, hd2, hj, h2, n2⟩
  cases todo with
  | nil =>
    refine rd_no rfl R2 f2.2 (by rw [nxt_drop hd2]; exact (by decide +kernel : ("" : Str) ≠ ",")) (iteF ?_)
    have hdn : d0 :: ds = done := by rw [hp, List.append_nil]
    subst hdn
    have hj2 : j = i + (jd ds).length := by simpa [jd] using hj
    subst hj2
    exact k _ _ f2 R2 h2 n2
  | cons p todo =>
    have hd3 : ws.drop j = ("," : Str) :: (dTold p ++ jd todo) := by
      rw [hd2]
      simp [jd]
    have q := drop_nxt hd3
    refine rd_yes rfl R2 f2.2 q.1 fun H3 f3 R3 => iteT ?_
    refine ⟨fun σ' H' => ∃ (done todo' : List Deed) (vs : List V) (j : Nat), todo.length = todo'.length ∧ σ' = [some (V.ref r), some cv, some (V.ref Dl)] ∧ d0 :: ds = done ++ todo' ∧ (∀ d ∈ todo', dWf d) ∧ Fr K [r, Dl] H1 H' ∧ RdAt K H' r wl ws j ∧ ws.drop j = jd todo' ∧
      j + (jd todo').length = i + (jd ds).length ∧ H' Dl = some (.lst vs) ∧ NDs K H [Dl] H' vs (done.map dP), fun σ' H' h => ⟨todo.length, by simp, h⟩, ?_⟩
    have h3 : H3 Dl = some (.lst vs) := f3.at h2 (by intro _ z; cases z) (fun z => nr (List.mem_singleton.mp z).symm)
    obtain ⟨dx3, row3, e3⟩ := R3.ob
    refine ⟨_, rfl, .inl ⟨rfl, _, SqL.of h3⟩, _, rfl, r, dx3, _, rfl, e3, rfl, r, wl, ws, j + 1, p, _, rfl, R3, f3.2, hw2 p List.mem_cons_self, q.2, fun H4 v4 f4 R4 d4 => ?_⟩
    have h4 : H4 Dl = some (.lst vs) := f4.at h3 (by intro _ z; cases z) (fun z => nr (List.mem_singleton.mp z).symm)
    have rT : ∀ e ∈ [r], e ∈ [Dl] ∨ H e ≠ none := fun e m => .inr (by rw [List.mem_singleton.mp m]; exact hr)
    have hlen : vs.length = done.length := by rw [TrAll.len n2, List.length_map]
    have hle : done.length ≤ 11 := by
      have := congrArg List.length hp
      rw [List.length_append, List.length_cons] at this
      omega
    refine ⟨Dl, vs, v4, rfl, rfl, h4, Nat.lt_of_le_of_lt (by rw [hlen]; exact hle) (by decide), ?_⟩
    refine ⟨done ++ [p], todo, vs ++ [v4], _, rfl, rfl, by rw [hp]; simp, fun d m => hw2 d (List.mem_cons_of_mem _ m), (f2.trans ((f3.trans f4).mono (by simp))).trans (Fr.put f4.2 h4 (by intro _ z; cases z) (by simp)), R4.upd nr nw, drop_app q.2, ?_, upd_same, ?_⟩
    · have e1 : (jd (p :: todo)).length = 1 + (dTold p).length + (jd todo).length := by simp [jd]; omega
      omega
    · rw [List.map_append]
      refine TrAll.snoc (TrAll.same (Same.trans (Same.trans (nu_fr f3 rT) (nu_fr f4 rT)) (nu_upd (.inl (List.mem_singleton.mpr rfl)))) n2) (Tr.same (Same.trans (nu_back (fun p z => lv p (f2.3 p (f3.3 p z))) (fun e m => .inr (by rw [List.mem_singleton.mp m, h3]; intro z; cases z))) (nu_upd (.inl (List.mem_singleton.mpr rfl)))) d4)
theorem R_read_rule (T : Txt w K mg base) : FnR P w K mg base CX0 40 (a_Reader_read_rule K) (spReadRule K) := by
  refine mkR T.f_Reader_read_rule sc_Reader_read_rule bd_Reader_read_rule ?_ ?_
  · rintro vs H Q E ⟨r, wl, c, d0, ds, W, rfl, _⟩; rfl
  rintro cdv A outer s H vs Q E hr ⟨r, wl, c, d0, ds, W, rfl, R, tb, hw, hm, hdw, hdl, k⟩
  have nd := sc_Reader_read_rule.nd
  refine ⟨_, PSs.nox <| pss_cons (ps_expr (pe_methR (pv 0) T.c_Reader T.m_Reader_take (R_take T) (hr.mono (by decide)) pass0 (pa_cons pe_str pa_nil)))
    (pss_cons (ps_set (i := 1) nd rfl (.inl rfl) (pe_m0F (pv 0) T.c_Reader T.m_Reader_read_condition (R_all T 4).2 (hr.mono (by decide))))
    (pss_cons (ps_expr (pe_methR (pv 0) T.c_Reader T.m_Reader_take (R_take T) (hr.mono (by decide)) pass0 (pa_cons pe_str pa_nil)))
    (pss_cons (ps_set (i := 2) nd rfl (.inl rfl) (pe_lst (pa_cons (pe_m0F (pv 0) T.c_Reader T.m_Reader_read_deed (R_read_deed T) (hr.mono (by decide))) pa_nil)))
    (pss_cons (ps_while PassesOwn.never (pt_val (pe_methR (pv 0) T.c_Reader T.m_Reader_skip (R_skip T) (hr.mono (by decide)) pass0 (pa_cons pe_str pa_nil)))
      (pss_one (ps_expr (pe_bm PySem.F.plainAttrs_list PySem.F.slot_list_append PySem.F.type_list_append mt_append (pv 2) (pa_cons (pe_m0F (pv 0) T.c_Reader T.m_Reader_read_deed (R_read_deed T) (hr.mono (by decide))) pa_nil)))))
    (pss_cons (ps_if (pt_cmpR op_lt (pe_fld (pv 0) rfl) (pe_callB call_len_seq (by rfl) T.z_len PySem.boot_len (pa_cons (pe_fld (pv 0) rfl) pa_nil)) (nomark _)) (pss_one ps_never) pss_nil)
    (pss_one (ps_ret (StX.pe_makeR T.mk_Rule (R_Rule_init T) (hr.mono (by decide)) (by rfl) T.g_Rule pass0 (pa_cons (pe_fld (pv 0) rfl) (pa_cons (pv 1) (pa_cons (pv 2) pa_nil))))))))))), ?_⟩
  have hd : (ruleT c (d0 :: ds)).drop 0 = ("if" : Str) :: (c.told ++ (("then" : Str) :: (dTold d0 ++ jd ds))) := rfl
  generalize hws : ruleT c (d0 :: ds) = ws at R hd
  have q1 := drop_nxt hd
  have q2 := drop_nxt (drop_app q1.2)
  obtain ⟨dx, row, e⟩ := R.ob
  refine ⟨_, rfl, r, dx, _, rfl, e, rfl, r, wl, ws, 0, "if", rfl, R, tb, q1.1, fun H1 f1 R1 => ?_⟩
  obtain ⟨dx1, row1, e1⟩ := R1.ob
  refine ⟨_, rfl, r, dx1, _, rfl, e1, rfl, r, wl, ws, 0 + 1, c, _, W, rfl, R1, f1.2, hw, hm, q1.2, ⟨fun _ => (by decide +kernel : ("then" : Str) ≠ "and"), fun _ => (by decide +kernel : ("then" : Str) ≠ "or")⟩, fun H2 v f2 R2 d2 => ?_⟩
  obtain ⟨dx2, row2, e2⟩ := R2.ob
  refine ⟨_, rfl, r, dx2, _, rfl, e2, rfl, r, wl, ws, _, "then", rfl, R2, f2.2, q2.1, fun H3 f3 R3 => ?_⟩
  obtain ⟨dx3, row3, e3⟩ := R3.ob
  refine ⟨_, rfl, r, dx3, _, rfl, e3, rfl, r, wl, ws, _, d0, _, rfl, R3, f3.2, hdw d0 List.mem_cons_self, q2.2, fun H4 v4 f4 R4 d4 => ?_⟩
  refine ⟨by show 1 ≤ sizeLine; decide, fun Dl nD => ?_⟩
  have F3 : Fr K [r] H H3 := (f1.trans f2).trans f3
  have F4 : Fr K [r] H H4 := F3.trans f4
  have hD : H Dl = none := F4.3 _ nD
  have rs := R.some
  have rT : ∀ E : List Addr, ∀ e ∈ [r], e ∈ E ∨ H e ≠ none := fun E e m => .inr (by rw [List.mem_singleton.mp m]; exact rs)
  have d2' : ND K H [] H4 v c.p := Tr.same (Same.trans (nu_back f1.3 (by simp)) (Same.trans (nu_fr f3 (rT [])) (nu_fr f4 (rT [])))) d2
  refine deeds_loop (T := T) (H := H) (d0 := d0) (ds := ds) (F4.2.upd (F4.2.ne0 nD)) rs (R4.new nD) (fun p z => F4.3 p (upd_live p z)) (ne_of_none e hD) (ne_of_none R.wl hD) upd_same (.cons (Tr.same (Same.trans (nu_back (E := []) (E' := []) F3.3 (by simp)) (Same.trans (nu_ex nD) (nu_upd (.inl (List.mem_singleton.mpr rfl))))) d4) .nil)
    (fun d m => hdw d (List.mem_cons_of_mem _ m)) (drop_app q2.2) (by omega) fun H5 vs g5 R5 h5 n5 => ?_
  have f5 : Fr K [r] H H5 := Fr.drop1 (((F4.trans (Fr.new F4.2 nD)).mono (by simp)).trans g5) hD
  have hlen : ws.length = 0 + 1 + c.told.length + 1 + (dTold d0).length + (jd ds).length := by
    have := congrArg List.length hd
    simp only [List.drop_zero, List.length_cons, List.length_append] at this
    omega
  obtain ⟨dx5, row5, e5⟩ := R5.ob
  refine ⟨_, rfl, r, _, dx5, _, _, rfl, e5, T.c_Reader, T.n_Reader_at, rfs_at .., ?_⟩
  refine ⟨_, rfl, r, _, dx5, _, _, rfl, e5, T.c_Reader, T.n_Reader_words, rfs_words .., wl, _, rfl, .inl (SqL.of R5.wl), ?_⟩
  refine ⟨_, _, rfl, rfl, _, rfl, iteN (by rw [List.length_map, hlen]; omega) ?_⟩
  refine ⟨_, rfl, r, _, dx5, _, _, rfl, e5, T.c_Reader, T.n_Reader_words, rfs_words .., _, rfl, _, rfl, fun x dx nx ndx ne => ?_⟩
  refine ⟨x, dx, _, _, _, rfl, upd_same, rfl, ?_⟩
  rw [upd_upd]
  have nx' : (L2.upd H5 dx (.own x)) x = none := by rw [upd_ne ne.symm]; exact nx
  refine k _ x ((f5.trans (Fr.new f5.2 ndx)).trans (Fr.new (Fr.new (E := []) f5.2 ndx).2 nx')) ⟨dx, _, _, _, upd_same, ?_, ?_⟩
  · refine Tr.same ?_ d2'
    refine Same.trans (nu_ex nD) (Same.trans (nu_upd (.inl (List.mem_singleton.mpr rfl))) (Same.trans (nu_fr g5 fun e m => ?_) (Same.trans nu_drop (Same.trans (nu_upd (.inr (.inr ndx))) (nu_upd (.inr (.inr nx')))))))
    simp only [List.mem_cons, List.not_mem_nil, or_false] at m
    rcases m with rfl | rfl
    · exact .inr rs
    · exact .inl (List.mem_singleton.mpr rfl)
  · have hx5 : Dl ≠ x := ne_of_none h5 nx
    have hx6 : Dl ≠ dx := ne_of_none h5 ndx
    exact ND.lst (TrAll.same (Same.trans nu_drop (Same.trans (nu_upd (.inr (.inr ndx))) (nu_upd (.inr (.inr nx'))))) n5) (by rw [upd_ne hx5, upd_ne hx6]; exact h5) hD (by simp)
end
end So
end

section
set_option Elab.async false
set_option linter.all false
set_option maxRecDepth 100000
set_option maxHeartbeats 4000000
/-! the words of a row, as lists of signs -/
namespace So
open PySem PySem.Spec PyProof.Rows L2 TL
def sg : List Nat := [40, 41, 44]
def padL (c : Nat) (l : List Nat) : List Nat := l.flatMap fun d => if d = c then [32, c, 32] else [d]
theorem repl1 (c : Nat) (z : List Nat) : ∀ l : List Nat, StrLaws.replL [c] z l = l.flatMap fun d => if d = c then z else [d]
  | [] => StrLaws.replL_nil
  | d :: l => by
    by_cases h : d = c
    · subst h
      rw [StrLaws.replL_hit (by simp) (by simp)]
      simp [repl1 d z l]
    · rw [StrLaws.replL_miss (by simp [h])]
      simp [repl1 c z l, h]
theorem tl_pad (c : Nat) (x : Str) : tl (Txt.replace x ⟨#[c]⟩ (RpX.pad c)) = padL c (tl x) := by
  have h := StrLaws.replace_list (x := x) (y := ⟨#[c]⟩) (z := RpX.pad c) (by show 1 ≤ 1; decide)
  show (Txt.replace x ⟨#[c]⟩ (RpX.pad c)).cps.toList = _
  rw [h]
  have e : (RpX.pad c).cps.toList = [32, c, 32] := rfl
  rw [e]
  exact repl1 c _ _
def padG (l : List Nat) : List Nat := l.flatMap fun d => if d ∈ sg then [32, d, 32] else [d]
theorem padL3 (l : List Nat) : padL 44 (padL 41 (padL 40 l)) = padG l := by
  induction l with
  | nil => rfl
  | cons d l ih =>
    have ap : ∀ c a b, padL c (a ++ b) = padL c a ++ padL c b := fun c a b => by simp [padL]
    have e : ∀ c, padL c (d :: l) = padL c [d] ++ padL c l := fun c => ap c [d] l
    have g : padG (d :: l) = padG [d] ++ padG l := by simp [padG]
    rw [e, ap, ap, ih, g]
    congr 1
    by_cases h1 : d = 40
    · subst h1; rfl
    · by_cases h2 : d = 41
      · subst h2; rfl
      · by_cases h3 : d = 44
        · subst h3; rfl
        · simp [padL, padG, sg, h1, h2, h3]
theorem tl_padAll (x : Str) : tl (RpX.padAll x [40, 41, 44]) = padG (tl x) := by
  show tl (Txt.replace (Txt.replace (Txt.replace x ⟨#[40]⟩ (RpX.pad 40)) ⟨#[41]⟩ (RpX.pad 41)) ⟨#[44]⟩ (RpX.pad 44)) = _
  rw [tl_pad, tl_pad, tl_pad, padL3]
/-- a word of a row: plain, or a sign -/
def Wd (w : List Nat) : Prop := (w ≠ [] ∧ 32 ∉ w ∧ ∀ d ∈ w, d ∉ sg) ∨ ∃ c ∈ sg, w = [c]
def wdP (w : List Nat) : List (List Nat) := if ∃ c ∈ sg, w = [c] then [[], w, []] else [w]
theorem wdP_ne (w : List Nat) : wdP w ≠ [] := by
  unfold wdP
  split <;> simp
theorem joinL_app {a b : List (List Nat)} (ha : a ≠ []) (hb : b ≠ []) : joinL [32] (a ++ b) = joinL [32] a ++ (32 :: joinL [32] b) := by
  induction a with
  | nil => exact absurd rfl ha
  | cons x a ih =>
    cases a with
    | nil =>
      cases b with
      | nil => exact absurd rfl hb
      | cons y b => rfl
    | cons x2 a =>
      have := ih (by simp)
      show x ++ ([32] ++ joinL [32] ((x2 :: a) ++ b)) = x ++ ([32] ++ joinL [32] (x2 :: a)) ++ _
      rw [this]
      simp
theorem padG_plain {w : List Nat} (h : ∀ d ∈ w, d ∉ sg) : padG w = w := by
  induction w with
  | nil => rfl
  | cons d w ih =>
    have h1 : d ∉ sg := h d List.mem_cons_self
    have h2 := ih fun e m => h e (List.mem_cons_of_mem _ m)
    show (if d ∈ sg then [32, d, 32] else [d]) ++ padG w = _
    rw [if_neg h1, h2]
    rfl
theorem padG_wd {w : List Nat} (h : Wd w) : padG w = joinL [32] (wdP w) := by
  by_cases hs : ∃ c ∈ sg, w = [c]
  · unfold wdP
    rw [if_pos hs]
    obtain ⟨c, hc, rfl⟩ := hs
    show (if c ∈ sg then [32, c, 32] else [c]) ++ [] = _
    rw [if_pos hc]
    rfl
  · unfold wdP
    rw [if_neg hs]
    rcases h with h | h
    · rw [padG_plain h.2.2]; rfl
    · exact absurd h hs
theorem padG_join : ∀ ws : List (List Nat), (∀ w ∈ ws, Wd w) → padG (joinL [32] ws) = joinL [32] (ws.flatMap wdP)
  | [], _ => rfl
  | [w], h => by
    show padG w = joinL [32] (wdP w ++ [])
    rw [List.append_nil, padG_wd (h w List.mem_cons_self)]
  | w :: v :: r, h => by
    have ih := padG_join (v :: r) fun u m => h u (List.mem_cons_of_mem _ m)
    have e : padG (w ++ ([32] ++ joinL [32] (v :: r))) = padG w ++ (32 :: padG (joinL [32] (v :: r))) := by
      simp [padG, sg]
    show padG (w ++ ([32] ++ joinL [32] (v :: r))) = joinL [32] (wdP w ++ (v :: r).flatMap wdP)
    rw [e, ih, padG_wd (h w List.mem_cons_self), joinL_app (wdP_ne w) (by simp [wdP_ne])]
theorem wdP_no32 {w : List Nat} (h : Wd w) : ∀ p ∈ wdP w, 32 ∉ p := by
  unfold wdP
  split
  · rename_i hs
    obtain ⟨c, hc, rfl⟩ := hs
    intro p hp
    simp only [List.mem_cons, List.not_mem_nil, or_false] at hp
    rcases hp with rfl | rfl | rfl
    · simp
    · simp only [sg, List.mem_cons, List.not_mem_nil, or_false] at hc
      rcases hc with rfl | rfl | rfl <;> decide
    · simp
  · rename_i hs
    intro p hp
    rw [List.mem_singleton.mp hp]
    rcases h with h | h
    · exact h.2.1
    · exact absurd h hs
theorem wdP_filter {w : List Nat} (h : Wd w) : (wdP w).filter (fun p => !p.isEmpty) = [w] := by
  have ne : w ≠ [] := by
    rcases h with h | ⟨c, _, rfl⟩
    · exact h.1
    · simp
  unfold wdP
  split <;> simp [ne]
/-- the words of a row -/
def wordsOf (x : Str) : List Str := (Txt.split (RpX.padAll x [40, 41, 44]) " ").filter fun z => decide (z.length ≠ 0)
theorem map_filter_tl (l : List Str) : (l.filter fun z => decide (z.length ≠ 0)).map tl = (l.map tl).filter (fun p => !p.isEmpty) := by
  induction l with
  | nil => rfl
  | cons z l ih =>
    have e : decide (z.length ≠ 0) = !(tl z).isEmpty := by
      rw [len_tl z]
      cases tl z <;> rfl
    rw [List.filter_cons, List.map_cons, List.filter_cons, e]
    split
    · rw [List.map_cons, ih]
    · exact ih
theorem spl32 (x : Str) : (Txt.split x " ").map tl = spl [32] 0 [] (tl x) := split_spl x " " (by decide +kernel) (kind_ok (by decide +kernel))
theorem wordsOf_tl (x : Str) : (wordsOf x).map tl = (spl [32] 0 [] (padG (tl x))).filter (fun p => !p.isEmpty) := by
  unfold wordsOf
  rw [map_filter_tl, spl32, tl_padAll]
theorem wordsOf_join {ws : List Str} (hne : ws ≠ []) (h : ∀ w ∈ ws, Wd (tl w)) : wordsOf (Txt.join " " ws) = ws := by
  refine map_tl_inj ?_
  have hw : ∀ w ∈ ws.map tl, Wd w := fun w m => by
    obtain ⟨z, hz, rfl⟩ := List.mem_map.mp m
    exact h z hz
  have e32 : tl (" " : Str) = [32] := by decide +kernel
  rw [wordsOf_tl, join_eq, tl_join, e32, padG_join _ hw, spl_join (S := [])]
  · generalize ws.map tl = vs at hw
    induction vs with
    | nil => rfl
    | cons v vs ih =>
      rw [List.flatMap_cons, List.filter_append, wdP_filter (hw v List.mem_cons_self), ih fun w m => hw w (List.mem_cons_of_mem _ m)]
      rfl
  · intro z
    cases ws with
    | nil => exact hne rfl
    | cons w ws =>
      have := (List.flatMap_eq_nil_iff.mp z) (tl w) (by simp)
      exact wdP_ne _ this
  · intro p hp
    obtain ⟨w, m, hp⟩ := List.mem_flatMap.mp hp
    exact wdP_no32 (hw w m) p hp
end So
end

section
set_option Elab.async false
set_option linter.all false
set_option maxRecDepth 100000
set_option maxHeartbeats 4000000
namespace So
open PySem PySem.Spec PyProof.Rows L2 GxA TL
open GxR (TabB TabG Tabbed)
section
variable {P : Program} {w : World} {K : PySem.W.Frag} {mg : Str → Option Value} {base : Heap}
def spWordsOf (K : PySem.W.Frag) : Sp := fun vs H Q _ => ∃ x : Str, vs = [.str x] ∧ x.length ≤ 1000 ∧ Tb K H ∧ ∀ H' D, Fr K [] H H' → H D = none → H' D = some (.lst ((wordsOf x).map V.str)) → Q (.ref D) H'
theorem len_word {L : List Str} {i : Nat} {x : Str} (h : L[i]? = some x) : (L.take (i + 1)).filter (fun z => decide (z.length ≠ 0)) = (L.take i).filter (fun z => decide (z.length ≠ 0)) ++ (if x.length ≠ 0 then [x] else []) := by
  rw [List.take_add_one, h, List.filter_append]
  congr 1
  show List.filter _ [x] = _
  by_cases e : x.length ≠ 0
  · rw [if_pos e]; simp [e]
  · rw [if_neg e]; simp [e]
theorem spl_len : ∀ (l acc : List Nat), (spl [32] 0 acc l).length ≤ l.length + 1 := by
  intro l
  induction l with
  | nil => intro acc; exact Nat.le_refl _
  | cons c r ih =>
    intro acc
    show (if _ then acc :: spl [32] 0 [] r else spl [32] 0 (acc ++ [c]) r).length ≤ r.length + 1 + 1
    split
    · exact Nat.succ_le_succ (ih [])
    · exact Nat.le_succ_of_le (ih _)
theorem spl_part : ∀ (l acc p : List Nat), p ∈ spl [32] 0 acc l → p.length ≤ acc.length + l.length := by
  intro l
  induction l with
  | nil =>
    intro acc p h
    rw [List.mem_singleton.mp (show p ∈ [acc] from h)]
    exact Nat.le_refl _
  | cons c r ih =>
    intro acc p h
    have h : p ∈ (if pre [32] (c :: r) = true then acc :: spl [32] 0 [] r else spl [32] 0 (acc ++ [c]) r) := h
    split at h
    · rcases List.mem_cons.mp h with rfl | h
      · omega
      · have := ih [] p h
        simp only [List.length_nil, List.length_cons] at *
        omega
    · have := ih _ p h
      simp only [List.length_append, List.length_cons, List.length_nil] at *
      omega
def tTru (K : PySem.W.Frag) (ta : TE) : TT := fun σ H Q => ta σ H fun x H' => ∃ k, TruV K x H' k ∧ Q k H'
theorem R_words_of (T : Txt w K mg base) : FnR P w K mg base CX0 2 (a_words_of K) (spWordsOf K) := by
  refine mkR T.f_words_of sc_words_of bd_words_of ?_ ?_
  · rintro vs H Q E ⟨x, rfl, _⟩; rfl
  rintro cdv A outer s H vs Q E hr ⟨x, rfl, hx, tb, k⟩
  have nd := sc_words_of.nd
  refine ⟨_, PSs.nox <| pss_cons (RpX.ps_forRepl (ix := 1) (ir := 0) PassesOwn.never rfl nd rfl rfl (by decide) rfl rfl (by decide +kernel))
    (pss_one (ps_ret (pe_lc (own := [("word", 2)]) (g := gName 2) (tt := tTru K (tVar 2)) rfl nd (pi_list (pe_split (pv 0) pe_str)) (blkOk_by (own := [("word", 2)]) (N := N_words_of) (sc := defScope s_words_of) (by decide +kernel))
      (fun _ _ _ _ _ => pg_name (i := 2) nd rfl (Or.inl rfl)) (fun _ _ _ _ _ => pts_one (pt_truth (pv 2) (by intro _; rfl))) (fun _ _ _ _ _ => pv 2)))), ?_⟩
  have el : ("()," : Str).cps.toList = [40, 41, 44] := by decide +kernel
  refine ⟨x, rfl, hx, by decide, fun v => ?_⟩
  rw [el]
  have hl := RpX.padAll_len [40, 41, 44] x
  have hl2 : (RpX.padAll x [40, 41, 44]).length ≤ 64064 := Nat.le_trans hl (by show (x.length + 1) * 64 ≤ 64064; omega)
  generalize hw : Txt.split (RpX.padAll x [40, 41, 44]) " " = L
  refine ⟨_, rfl, ⟨_, rfl⟩, _, _, rfl, rfl, by decide, Nat.le_trans (Nat.add_le_add_right hl2 2) (by decide), fun S nS => ?_⟩
  rw [hw]
  refine ⟨S, rfl, ⟨_, SqL.of upd_same⟩, fun D nD => ?_⟩
  have f1 : Fr K [] H (L2.upd H S (.lst (L.map V.str))) := Fr.new tb nS
  have hSD : S ≠ D := ne_of_none upd_same nD
  have hD : H D = none := upd_live _ nD
  have lenL : L.length ≤ 64065 := by
    have e : L.map tl = spl [32] 0 [] (tl (RpX.padAll x [40, 41, 44])) := by rw [← hw]; exact spl32 _
    have := congrArg List.length e
    rw [List.length_map] at this
    have h3 := spl_len (tl (RpX.padAll x [40, 41, 44])) []
    rw [← len_tl] at h3
    omega
  refine lc_list (xs := L.map V.str) (fun i H' => Fr K [] H H' ∧ H' S = some (.lst (L.map V.str)) ∧ H' D = some (.lst (((L.take i).filter fun z => decide (z.length ≠ 0)).map V.str)))
    ⟨f1.upNew tb hD, by rw [upd_ne hSD]; exact upd_same, upd_same⟩ (fun i H' _ ⟨_, h, _⟩ => SqL.of h) (fun i y H' hy ⟨f, h1, h2⟩ => ?_) (fun H' ⟨f, h1, h2⟩ => ?_)
  · obtain ⟨z, hz, rfl⟩ := at_map hy
    have lw := len_word hz
    have mz : z ∈ L := List.mem_of_getElem? hz
    have zl : z.length ≤ sizeLine := by
      have e : L.map tl = spl [32] 0 [] (tl (RpX.padAll x [40, 41, 44])) := by rw [← hw]; exact spl32 _
      have h3 := spl_part (tl (RpX.padAll x [40, 41, 44])) [] (tl z) (by rw [← e]; exact List.mem_map.mpr ⟨z, mz, rfl⟩)
      rw [← len_tl, ← len_tl] at h3
      exact Nat.le_trans h3 (Nat.le_trans (by simpa using hl2) (by decide))
    refine ⟨rfl, _, rfl, decide (z.length ≠ 0), ⟨zl, ?_⟩, ?_⟩
    · cases e : z.length <;> rfl
    by_cases e : z.length ≠ 0
    · refine iteD e ?_
      rw [if_pos e] at lw
      refine ⟨_, rfl, _, h2, ?_, f.upNew tb hD, by rw [upd_ne hSD]; exact h1, ?_⟩
      · rw [List.length_map]
        have g1 := List.length_filter_le (fun z : Str => decide (z.length ≠ 0)) (L.take i)
        have g2 : (L.take i).length ≤ L.length := by rw [List.length_take]; omega
        exact Nat.lt_of_le_of_lt (by omega : _ ≤ 64065) (by decide)
      · rw [upd_same, lw, List.map_append]
        rfl
    · refine iteN e ⟨f, h1, ?_⟩
      rw [if_neg e, List.append_nil] at lw
      rw [lw]
      exact h2
  · refine k _ _ f hD ?_
    rw [h2, List.length_map, List.take_length]
    show _ = some (HO.lst ((wordsOf x).map V.str))
    unfold wordsOf
    rw [hw]
end
end So
end

section
set_option Elab.async false
set_option linter.all false
set_option maxRecDepth 100000
set_option maxHeartbeats 4000000
namespace So
open PySem PySem.Spec PyProof.Rows L2 GxA TL
open GxR (TabB TabG Tabbed)
section
variable {P : Program} {w : World} {K : PySem.W.Frag} {mg : Str → Option Value} {base : Heap}
theorem RuleN.back {H0 H0' H : Hp} {E E' : List Addr} {a : Addr} {c : Cnd} {ds : List Deed} (l : ∀ p, H0' p = none → H0 p = none) (i : ∀ e ∈ E, e ∈ E' ∨ H0' e ≠ none) (h : RuleN K H0' E' H a c ds) : RuleN K H0 E H a c ds := by
  obtain ⟨dx, wl, v, dl, e, a1, a2⟩ := h
  exact ⟨dx, wl, v, dl, e, Tr.same (nu_back l i) a1, Tr.same (nu_back l i) a2⟩
theorem cut_take {xs : List V} {n : Nat} (h : xs.length ≤ n) : cutV xs none (some (n : Int)) = xs := by
  unfold cutV
  rw [HT.sIx_none, HT.sIx_nat, List.drop_zero, Nat.min_eq_right h]
  exact List.take_of_length_le (by omega)
def spRuleOf (K : PySem.W.Frag) : Sp := fun vs H Q _ => ∃ (wl : Addr) (row : V) (c : Cnd) (d0 : Deed) (ds : List Deed) (W : List Str), vs = [.ref wl, row] ∧ H wl = some (.lst ((ruleT c (d0 :: ds)).map V.str)) ∧ (ruleT c (d0 :: ds)).length ≤ 60 ∧ Tb K H ∧ c.wf W 2 ∧ c.dep < 4 ∧ (∀ d ∈ d0 :: ds, dWf d) ∧ ds.length ≤ 5 ∧
  ∀ H' a, Fr K [] H H' → RuleN K H [] H' a c (d0 :: ds) → Q (.ref a) H'
theorem R_rule_of (T : Txt w K mg base) : FnR P w K mg base CX0 44 (a_rule_of K) (spRuleOf K) := by
  refine mkR T.f_rule_of sc_rule_of bd_rule_of ?_ ?_
  · rintro vs H Q E ⟨wl, row, c, d0, ds, W, rfl, _⟩; rfl
  rintro cdv A outer s H vs Q E hr ⟨wl, row, c, d0, ds, W, rfl, hw, hlen, tb, hc, hm, hdw, hdl, k⟩
  have nd := sc_rule_of.nd
  obtain ⟨tM, hM⟩ := T.i_MOST_WORDS
  refine ⟨_, pss_cons (ps_set (i := 2) nd rfl (.inl rfl) (pe_m0F (StX.pe_makeR T.mk_Reader (R_Reader_init T) (hr.mono (by decide)) (by rfl) T.g_Reader pass0
      (pa_cons (pe_slice sl_list (pv 0) po_none (po_some (pe_op op_add (pe_glob (by rfl) hM (v := .int 60) ⟨_, rfl⟩) pe_int))) (pa_cons (pv 1) pa_nil))) T.c_Reader T.m_Reader_read_rule (R_read_rule T) (hr.mono (by decide))))
    (pss_cons (ps_if (pt_cmpR op_gt (pe_callB call_len_seq (by rfl) T.z_len PySem.boot_len (pa_cons (pv 0) pa_nil)) (pe_glob (by rfl) hM (v := .int 60) ⟨_, rfl⟩) (nomark _)) (pss_one ps_never) pss_nil)
    (pss_one (ps_ret (pv 2)))), ?_⟩
  generalize hws : ruleT c (d0 :: ds) = ws at hw hlen
  refine ⟨_, rfl, ?_⟩
  refine ⟨60, 1, rfl, rfl, _, rfl, wl, ws.map V.str, rfl, SqL.of hw, fun cl ncl => ?_⟩
  rw [show ((60 : Int) + 1) = ((61 : Nat) : Int) from rfl, cut_take (by rw [List.length_map]; omega)]
  refine ⟨_, rfl, fun x dx nx ndx ne => ?_⟩
  have f1 : Fr K [] H (L2.upd H cl (.lst (ws.map V.str))) := Fr.new tb ncl
  have nx' : (L2.upd (L2.upd H cl (.lst (ws.map V.str))) dx (.own x)) x = none := by rw [upd_ne ne.symm]; exact nx
  have f2 := f1.trans (Fr.new (E := []) (o := .own x) f1.2 ndx)
  have f3 := f2.trans (Fr.new (E := []) (o := .ins (C_Reader K) dx []) f2.2 nx')
  refine ⟨x, dx, cl, _, ws, rfl, upd_same, ?_, f3.2, fun H2 g2 R2 => ⟨rfl, ?_⟩⟩
  · rw [upd_ne (ne_of_none upd_same nx).symm.symm, upd_ne (ne_of_none upd_same ndx)]
    exact upd_same
  obtain ⟨dx2, row2, e2⟩ := R2.ob
  refine ⟨x, dx2, _, rfl, e2, rfl, x, cl, c, d0, ds, W, rfl, by rw [hws]; exact R2, g2.2, hc, hm, hdw, hdl, fun H3 a g3 r3 => ?_⟩
  have hx : H x = none := upd_live _ nx
  have f4 : Fr K [] H H3 := Fr.drop1 (E := []) (((f3.mono (E' := [x]) (by simp)).trans g2).trans g3) hx
  have hw3 := f4.at hw
  refine ⟨_, rfl, wl, _, rfl, .inl (SqL.of hw3), _, _, rfl, rfl, _, rfl, iteN (by rw [List.length_map]; omega) ?_⟩
  exact ⟨_, rfl, k _ _ f4 (r3.back (fun p z => f3.3 p (g2.3 p z)) (by simp))⟩
end
end So
end

section
set_option Elab.async false
set_option linter.all false
set_option maxRecDepth 100000
set_option maxHeartbeats 4000000
namespace So
open PySem PySem.Spec PyProof.Rows L2 GxA TL
open GxR (TabB TabG Tabbed)
/-! ### facts gathered -/
/-- a fact's key, of words that W names -/
def KeyOk (W : List Str) (k : List Key) : Prop := (∃ a n : Str, k = [.inr a, .inr n] ∧ a ∈ kinds1 ∧ (a ∈ kindsW → n ∈ W)) ∨ (∃ a b : Str, k = [.inr "pair", .inr a, .inr b] ∧ a ∈ W ∧ b ∈ W) ∨ ∃ n : Int, k = [.inr "over", .inl n]
def Cnd.nf : Cnd → Nat
  | .any => 0
  | .neg c => c.nf
  | .par c => c.nf
  | .and2 a b => a.nf + b.nf
  | .and3 a b c => a.nf + (b.nf + c.nf)
  | .or2 a b => a.nf + b.nf
  | _ => 1
def Cnd.hgt : Cnd → Nat
  | .neg c => c.hgt + 1
  | .par c => c.hgt
  | .and2 a b => max a.hgt b.hgt + 1
  | .and3 a b c => max a.hgt (max b.hgt c.hgt) + 1
  | .or2 a b => max a.hgt b.hgt + 1
  | _ => 0
theorem ne_kind2 {k : Str} (h : k ∈ kinds1) : k ≠ "not" ∧ k ≠ "and" ∧ k ≠ "or" ∧ k ≠ "any" := by
  simp only [kinds1, List.mem_cons, List.not_mem_nil, or_false] at h
  rcases h with rfl | rfl | rfl | rfl | rfl <;> decide +kernel
theorem keys_putK {κ : Type} [DecidableEq κ] (kvs : List (κ × V)) (k : κ) (v : V) : (putK kvs k v).map (·.1) = if k ∈ kvs.map (·.1) then kvs.map (·.1) else kvs.map (·.1) ++ [k] := by
  unfold putK
  by_cases h : k ∈ kvs.map (·.1)
  · rw [if_pos h, if_pos]
    · rw [List.map_map]
      refine List.map_congr_left fun p _ => ?_
      show (if p.1 = k then (p.1, v) else p).1 = p.1
      split <;> rfl
    · obtain ⟨p, hp, e⟩ := List.mem_map.mp h
      exact List.any_eq_true.mpr ⟨p, hp, decide_eq_true e⟩
  · rw [if_neg h, if_neg]
    · rw [List.map_append]; rfl
    · intro z
      obtain ⟨p, hp, e⟩ := List.any_eq_true.mp z
      exact h (List.mem_map.mpr ⟨p, hp, of_decide_eq_true e⟩)
theorem all_putK {κ : Type} [DecidableEq κ] {C : κ → Prop} {kvs : List (κ × V)} {k : κ} {v : V} (h : ∀ x ∈ kvs.map (·.1), C x) (hk : C k) : ∀ x ∈ (putK kvs k v).map (·.1), C x := by
  intro x m
  rw [keys_putK] at m
  split at m
  · exact h x m
  · rcases List.mem_append.mp m with m | m
    · exact h x m
    · rw [List.mem_singleton.mp m]; exact hk
def Cnd.isPar : Cnd → Bool
  | .par _ => true
  | _ => false
theorem unpar (W : List Str) : ∀ (c : Cnd) (l : Nat), c.wf W l → ∃ (c' : Cnd) (l' : Nat), c'.p = c.p ∧ c'.nf = c.nf ∧ c'.hgt = c.hgt ∧ c'.wf W l' ∧ c'.isPar = false ∧ (∀ L ms, c'.ev L ms = c.ev L ms) := by
  intro c
  induction c with
  | par c ih => intro l h; exact ih 2 h
  | _ => intro l h; exact ⟨_, l, rfl, rfl, rfl, h, rfl, fun _ _ => rfl⟩
section
variable {P : Program} {w : World} {K : PySem.W.Frag} {mg : Str → Option Value} {base : Heap}
abbrev DT (W : List Str) (H : Hp) (d : Addr) (n : Nat) : Prop := ∃ kvs : List (List Key × V), H d = some (.dT kvs) ∧ (∀ x ∈ kvs.map (·.1), KeyOk W x) ∧ kvs.length ≤ n
def spAdd (m : Nat) (K : PySem.W.Frag) : Sp := fun vs H Q _ => ∃ (v : V) (d : Addr) (c : Cnd) (W : List Str) (l n : Nat), vs = [v, .ref d] ∧ Tr H v c.p ∧ c.wf W l ∧ c.hgt < m ∧ DT W H d n ∧ n + c.nf ≤ 1000 ∧ Tb K H ∧
  ∀ H', Fr K [d] H H' → DT W H' d (n + c.nf) → Q .non H'
theorem dt_ok {W : List Str} {H : Hp} {d : Addr} {n : Nat} (h : DT W H d n) : ∀ e ∈ [d], ∀ o, H e = some o → seqO o = false := by
  obtain ⟨kvs, e, _⟩ := h
  intro a m o ho
  rw [List.mem_singleton.mp m, e] at ho
  cases ho
  rfl
theorem add_step (T : Txt w K mg base) {m n : Nat} (hA : FnR P w K mg base CX0 (n + 1) (a_add_facts K) (spAdd m K)) : FnR P w K mg base CX0 (n + 2) (a_add_facts K) (spAdd (m + 1) K) := by
  refine mkR T.f_add_facts sc_add_facts bd_add_facts ?_ ?_
  · rintro vs H Q E ⟨v, d, c, W, l, n, rfl, _⟩; rfl
  rintro cdv A outer s H vs Q E hr ⟨v, d, c, W, l, N, rfl, hv, hw, hh, hd, hn, tb, k⟩
  obtain ⟨c', l', p1, p2, p3, hw, np, _⟩ := unpar W c l hw
  rw [← p1] at hv
  rw [← p3] at hh
  rw [← p2] at hn k
  clear p1 p2 p3
  generalize c' = c at *
  have nd := sc_add_facts.nd
  obtain ⟨_, FA⟩ := T.f_add_facts
  refine ⟨_, PSs.nox <| pss_cons (ps_set (i := 2) nd rfl (.inl rfl) (pe_ix ix_tup (pv 0) pe_int (fun _ _ => rfl)))
    (pss_one (ps_if (pt_cmpR op_eq (pv 2) pe_str (nomark _))
      (pss_one (ps_expr (pe_cF hA hr (by rfl) T.g_add_facts FA.kp (pa_cons (pe_ix ix_tup (pv 0) pe_int (fun _ _ => rfl)) (pa_cons (pv 1) pa_nil)))))
      (pss_one (ps_if (PW.pt (pw_or (pt_cmpR op_eq (pv 2) pe_str (nomark _)) (pw_or1 (pt_cmpR op_eq (pv 2) pe_str (nomark _)))))
        (pss_one (ps_for PassesOwn.never rfl (pi_list (pe_ix ix_tup (pv 0) pe_int (fun _ _ => rfl))) (pg_name (i := 3) nd rfl (.inl rfl))
          (pss_one (ps_expr (pe_cF hA hr (by rfl) T.g_add_facts FA.kp (pa_cons (pv 3) (pa_cons (pv 1) pa_nil)))))))
        (pss_one (ps_if (pt_cmpR op_ne (pv 2) pe_str (nomark _))
          (pss_one (ps_dput (hu_of hr) (pv 1) (pv 0) pe_bl rfl)) pss_nil)))))), ?_⟩
  -- a fact put into the dict
  have put : ∀ (a : Addr) (key : List Key), v = .ref a → H a = some (.tup (key.map kV)) → KeyOk W key → c.nf = 1 → ∀ σ : L2.St, σ[0]? = some (some v) → σ[1]? = some (some (.ref d)) →
      sDPut (tVar 1) (tVar 0) (tC (.bl true)) { nx := fun _ H' => Q .non H', rt := Q } σ H := by
    intro a key e1 e2 e3 e4 σ s0 s1
    subst e1
    obtain ⟨kvs, h1, h2, h3⟩ := hd
    refine ⟨_, s1, _, s0, d, _, rfl, DPut.t h1 e2 (Nat.lt_of_le_of_lt (Nat.le_trans h3 (by omega : N ≤ 1000)) (by decide)), ?_⟩
    refine k _ (Fr.put tb h1 (by intro _ z; cases z) (List.mem_singleton.mpr rfl)) ⟨_, upd_same, all_putK h2 e3, ?_⟩
    rw [e4]
    exact Nat.le_trans (length_putK _ _ _) (by omega)
  -- the parts of and, or
  have loop : ∀ (a lst : Addr) (x : Str) (ps : List Cnd) (xs : List V), v = .ref a → H a = some (.tup [.str x, .ref lst]) → H lst = some (.lst xs) → TrAll H xs (ps.map Cnd.p) → (∀ p ∈ ps, (∃ l, p.wf W l) ∧ p.hgt < m) → c.nf = (ps.map Cnd.nf).sum → ∀ σ : L2.St, σ = [some v, some (.ref d), some (.str x), none] →
      tFor (iList K (tOp (rIxT K) (tVar 0) (tC (.int 1)))) (gName 3) (tDrop (tCF (spAdd m K) (tCons (tVar 3) (tCons (tVar 1) tNil)))) { nx := fun _ H' => Q .non H', rt := Q } σ H := by
    intro a lst x ps xs e1 e2 e3 e4 e5 e6 σ es
    subst e1
    subst es
    refine ⟨_, rfl, a, _, _, .ref lst, rfl, rfl, .inl (.inl e2), rfl, lst, rfl, ⟨_, SqL.of e3⟩, ?_⟩
    have hlen : xs.length = ps.length := by rw [e4.len, List.length_map]
    refine for_list (xs := xs) (fun i σ H' => (∃ z, σ = [some (V.ref a), some (.ref d), some (.str x), z]) ∧ Fr K [d] H H' ∧ DT W H' d (N + ((ps.take i).map Cnd.nf).sum)) ⟨⟨_, rfl⟩, Fr.refl tb, hd⟩
      (fun i σ H' _ ⟨_, f, _⟩ => SqL.of (f.at e3 (by intro _ z; cases z) (fun z => ?_))) (fun i y σ H' hy ⟨⟨z, es⟩, f, hd2⟩ => ?_) (fun σ H' ⟨_, f, hd2⟩ => ?_)
    · obtain ⟨kvs, h1, _⟩ := hd
      rw [List.mem_singleton.mp z, h1] at e3
      cases e3
    · subst es
      obtain ⟨p, hp⟩ : ∃ p, ps[i]? = some p := by
        have : i < ps.length := by rw [← hlen]; exact (List.getElem?_eq_some_iff.mp hy).1
        exact ⟨_, List.getElem?_eq_getElem this⟩
      have hm := List.mem_of_getElem? hp
      obtain ⟨⟨l', hl'⟩, hh'⟩ := e5 p hm
      have ht : Tr H y p.p := e4.at i y p.p hy (by rw [List.getElem?_map, hp]; rfl)
      have sum_le : ((ps.take (i + 1)).map Cnd.nf).sum ≤ (ps.map Cnd.nf).sum := by
        conv => rhs; rw [← List.take_append_drop (i + 1) ps, List.map_append, List.sum_append]
        omega
      have sum_s : ((ps.take (i + 1)).map Cnd.nf).sum = ((ps.take i).map Cnd.nf).sum + p.nf := by
        rw [List.take_add_one, hp, List.map_append, List.sum_append]
        simp
      refine ⟨_, rfl, _, rfl, y, d, p, W, l', _, rfl, f.tr (dt_ok hd) ht, hl', hh', hd2, by omega, f.2, fun H2 f2 hd3 => ?_⟩
      exact ⟨⟨_, rfl⟩, f.trans f2, by rw [sum_s, ← Nat.add_assoc]; exact hd3⟩
    · rw [hlen, List.take_length] at hd2
      exact k H' f (by rw [e6]; exact hd2)
  cases c with
  | any =>
    obtain ⟨a, xs, rfl, ha, hx⟩ := tr_tup hv
    cases hx with
    | cons a1 a2 =>
      cases a2
      rw [tr_str a1] at ha
      refine ⟨_, rfl, a, _, _, _, rfl, rfl, .inl (.inl ha), rfl, ?_⟩
      refine ⟨_, rfl, rfl, _, rfl, iteN (by decide +kernel) ?_⟩
      refine ⟨_, rfl, rfl, _, rfl, iteN (by decide +kernel) ?_⟩
      refine ⟨_, rfl, rfl, _, rfl, iteN (by decide +kernel) ?_⟩
      refine ⟨_, rfl, rfl, _, rfl, iteNS rfl ?_⟩
      exact k H (Fr.refl tb) hd
  | over nn =>
    obtain ⟨a, xs, rfl, ha, hx⟩ := tr_tup hv
    cases hx with
    | cons a1 a2 =>
      cases a2 with
      | cons a2 a3 =>
      cases a3
      rw [tr_str a1, tr_int a2] at ha
      refine ⟨_, rfl, a, _, _, _, rfl, rfl, .inl (.inl ha), rfl, ?_⟩
      refine ⟨_, rfl, rfl, _, rfl, iteN (by decide +kernel) ?_⟩
      refine ⟨_, rfl, rfl, _, rfl, iteN (by decide +kernel) ?_⟩
      refine ⟨_, rfl, rfl, _, rfl, iteN (by decide +kernel) ?_⟩
      refine ⟨_, rfl, rfl, _, rfl, iteNT (by decide +kernel) ?_⟩
      exact put a [.inr "over", .inl nn] rfl ha (.inr (.inr ⟨_, rfl⟩)) rfl _ rfl rfl
  | pair x y =>
    obtain ⟨a, xs, rfl, ha, hx⟩ := tr_tup hv
    have hx := trAll_strs (xs := ["pair", x, y]) hx
    subst hx
    refine ⟨_, rfl, a, _, _, .str "pair", rfl, rfl, .inl (.inl ha), rfl, ?_⟩
    refine ⟨_, rfl, rfl, _, rfl, iteN (by decide +kernel) ?_⟩
    refine ⟨_, rfl, rfl, _, rfl, iteN (by decide +kernel) ?_⟩
    refine ⟨_, rfl, rfl, _, rfl, iteN (by decide +kernel) ?_⟩
    refine ⟨_, rfl, rfl, _, rfl, iteNT (by decide +kernel) ?_⟩
    exact put a [.inr "pair", .inr x, .inr y] rfl ha (.inr (.inl ⟨_, _, rfl, hw.2.2.1, hw.2.2.2⟩)) rfl _ rfl rfl
  | fact x y =>
    obtain ⟨a, xs, rfl, ha, hx⟩ := tr_tup hv
    have hx := trAll_strs (xs := [x, y]) hx
    subst hx
    obtain ⟨h1, h2, h3, h4⟩ := ne_kind2 hw.1
    refine ⟨_, rfl, a, _, _, .str x, rfl, rfl, .inl (.inl ha), rfl, ?_⟩
    refine ⟨_, rfl, rfl, _, rfl, iteN (fun z => h1 (by injection z)) ?_⟩
    refine ⟨_, rfl, rfl, _, rfl, iteN (fun z => h2 (by injection z)) ?_⟩
    refine ⟨_, rfl, rfl, _, rfl, iteN (fun z => h3 (by injection z)) ?_⟩
    refine ⟨_, rfl, rfl, _, rfl, iteNT (fun z => h4 (by injection z)) ?_⟩
    exact put a [.inr x, .inr y] rfl ha (.inl ⟨_, _, rfl, hw.1, hw.2.2⟩) rfl _ rfl rfl
  | neg c =>
    obtain ⟨a, xs, rfl, ha, hx⟩ := tr_tup hv
    cases hx with
    | cons a1 a2 =>
      cases a2 with
      | cons a2 a3 =>
      cases a3
      rw [tr_str a1] at ha
      refine ⟨_, rfl, a, _, _, _, rfl, rfl, .inl (.inl ha), rfl, ?_⟩
      refine ⟨_, rfl, rfl, _, rfl, iteD rfl ?_⟩
      refine ⟨_, rfl, a, _, _, _, rfl, rfl, .inl (.inl ha), rfl, _, rfl, _, d, c, W, 0, N, rfl, a2, hw, Nat.lt_of_succ_lt_succ hh, hd, hn, tb, k⟩
  | par c => cases np
  | and2 x y =>
    obtain ⟨a, xs, rfl, ha, hx⟩ := tr_tup hv
    cases hx with
    | cons a1 a2 =>
      cases a2 with
      | cons a2 a3 =>
      cases a3
      obtain ⟨lst, ys, rfl, hl, ht⟩ := tr_lst a2
      rw [tr_str a1] at ha
      refine ⟨_, rfl, a, _, _, _, rfl, rfl, .inl (.inl ha), rfl, ?_⟩
      refine ⟨_, rfl, rfl, _, rfl, iteN (by decide +kernel) ?_⟩
      refine ⟨_, rfl, rfl, _, rfl, iteD rfl (iteT ?_)⟩
      refine loop a lst "and" [x, y] ys rfl ha hl ht ?_ ?_ _ rfl
      · intro p hp
        simp only [List.mem_cons, List.not_mem_nil, or_false] at hp
        simp only [Cnd.hgt] at hh
        rcases hp with rfl | rfl
        · exact ⟨⟨_, hw.2.1⟩, by omega⟩
        · exact ⟨⟨_, hw.2.2⟩, by omega⟩
      · simp [Cnd.nf]
  | and3 x y z =>
    obtain ⟨a, xs, rfl, ha, hx⟩ := tr_tup hv
    cases hx with
    | cons a1 a2 =>
      cases a2 with
      | cons a2 a3 =>
      cases a3
      obtain ⟨lst, ys, rfl, hl, ht⟩ := tr_lst a2
      rw [tr_str a1] at ha
      refine ⟨_, rfl, a, _, _, _, rfl, rfl, .inl (.inl ha), rfl, ?_⟩
      refine ⟨_, rfl, rfl, _, rfl, iteN (by decide +kernel) ?_⟩
      refine ⟨_, rfl, rfl, _, rfl, iteD rfl (iteT ?_)⟩
      refine loop a lst "and" [x, y, z] ys rfl ha hl ht ?_ ?_ _ rfl
      · intro p hp
        simp only [List.mem_cons, List.not_mem_nil, or_false] at hp
        simp only [Cnd.hgt] at hh
        rcases hp with rfl | rfl | rfl
        · exact ⟨⟨_, hw.2.1⟩, by omega⟩
        · exact ⟨⟨_, hw.2.2.1⟩, by omega⟩
        · exact ⟨⟨_, hw.2.2.2⟩, by omega⟩
      · simp [Cnd.nf]
  | or2 x y =>
    obtain ⟨a, xs, rfl, ha, hx⟩ := tr_tup hv
    cases hx with
    | cons a1 a2 =>
      cases a2 with
      | cons a2 a3 =>
      cases a3
      obtain ⟨lst, ys, rfl, hl, ht⟩ := tr_lst a2
      rw [tr_str a1] at ha
      refine ⟨_, rfl, a, _, _, _, rfl, rfl, .inl (.inl ha), rfl, ?_⟩
      refine ⟨_, rfl, rfl, _, rfl, iteN (by decide +kernel) ?_⟩
      refine ⟨_, rfl, rfl, _, rfl, iteN (by decide +kernel) ?_⟩
      refine ⟨_, rfl, rfl, _, rfl, iteD rfl ?_⟩
      refine loop a lst "or" [x, y] ys rfl ha hl ht ?_ ?_ _ rfl
      · intro p hp
        simp only [List.mem_cons, List.not_mem_nil, or_false] at hp
        simp only [Cnd.hgt] at hh
        rcases hp with rfl | rfl
        · exact ⟨⟨_, hw.2.1⟩, by omega⟩
        · exact ⟨⟨_, hw.2.2⟩, by omega⟩
      · simp [Cnd.nf]
theorem R_add_facts (T : Txt w K mg base) : ∀ m : Nat, FnR P w K mg base CX0 (m + 1) (a_add_facts K) (spAdd m K)
  | 0 => fnr_false fun vs H Q E ⟨_, _, _, _, _, _, _, _, _, h, _⟩ => absurd h (Nat.not_lt_zero _)
  | m + 1 => add_step T (R_add_facts T m)
end
end So
end

section
set_option Elab.async false
set_option linter.all false
set_option maxRecDepth 100000
set_option maxHeartbeats 4000000
namespace So
open PySem PySem.Spec PyProof.Rows L2 GxA TL
open GxR (TabB TabG Tabbed)
abbrev RuleD := Cnd × List Deed
def RulesAt (K : PySem.W.Frag) (H : Hp) (as : List Addr) (rs : List RuleD) : Prop := as.length = rs.length ∧ ∀ (i : Nat) (a : Addr) (r : RuleD), as[i]? = some a → rs[i]? = some r → RuleAt K H a r.1 r.2
/-- a rule of the law: its condition, its deeds, the names that its words facts speak of -/
def RWf (W : List Str) (r : RuleD) : Prop := r.1.wf W 2 ∧ r.1.dep < 4 ∧ r.1.hgt < 8 ∧ r.1.nf ≤ 20 ∧ r.2 ≠ [] ∧ (∀ d ∈ r.2, dWf d) ∧ r.2.length ≤ 5 ∧ (ruleT r.1 r.2).length ≤ 60
theorem filter_ne_len {l : List Key} {a : Key} (h : l.Nodup) : l.length ≤ (l.filter fun x => decide (x ≠ a)).length + 1 := by
  induction l with
  | nil => simp
  | cons x l ih =>
    obtain ⟨h1, h2⟩ := List.nodup_cons.mp h
    by_cases e : x = a
    · subst e
      have : l.filter (fun y => decide (y ≠ x)) = l := List.filter_eq_self.mpr fun y m => decide_eq_true fun z => h1 (by rw [← z]; exact m)
      rw [List.filter_cons, if_neg (by simp), this]
      simp
    · rw [List.filter_cons, if_pos (by simp [e])]
      have := ih h2
      simp only [List.length_cons]
      omega
theorem nodup_le : ∀ (W : List Str) (l : List Key), l.Nodup → (∀ x ∈ l, ∃ n ∈ W, x = .inr n) → l.length ≤ W.length
  | [], l, _, h => by
    cases l with
    | nil => exact Nat.le_refl _
    | cons x l => obtain ⟨n, m, _⟩ := h x List.mem_cons_self; cases m
  | n :: W, l, hn, h => by
    have h1 := nodup_le W (l.filter fun x => decide (x ≠ .inr n)) (hn.sublist List.filter_sublist) fun x m => by
      obtain ⟨m1, m2⟩ := List.mem_filter.mp m
      have m2 : x ≠ .inr n := of_decide_eq_true m2
      obtain ⟨n', m', e⟩ := h x m1
      rcases List.mem_cons.mp m' with z | z
      · rw [z] at e; exact absurd e m2
      · exact ⟨n', z, e⟩
    have h2 := filter_ne_len (a := .inr n) hn
    rw [List.length_cons]
    omega
section
variable {P : Program} {w : World} {K : PySem.W.Frag} {mg : Str → Option Value} {base : Heap}
theorem RuleAt.fr {H H' : Hp} {a : Addr} {c : Cnd} {ds : List Deed} (h : RuleAt K H a c ds) (f : Fr K [] H H') : RuleAt K H' a c ds := by
  obtain ⟨dx, wl, v, dl, e, a1, a2⟩ := h
  exact ⟨dx, wl, v, dl, f.at e, f.tr (fun _ m => nomatch m) a1, f.tr (fun _ m => nomatch m) a2⟩
theorem RulesAt.fr {H H' : Hp} {as : List Addr} {rs : List RuleD} (h : RulesAt K H as rs) (f : Fr K [] H H') : RulesAt K H' as rs := ⟨h.1, fun i a r e1 e2 => (h.2 i a r e1 e2).fr f⟩
theorem at_ref {as : List Addr} {i : Nat} {y : V} (h : (as.map V.ref)[i]? = some y) : ∃ a, as[i]? = some a ∧ y = .ref a := by
  rw [List.getElem?_map] at h
  cases e : as[i]? with
  | none => rw [e] at h; cases h
  | some a => rw [e] at h; exact ⟨a, rfl, (Option.some.inj h).symm⟩
theorem paired_at {α β : Type} {F : α → β → Prop} : ∀ {l₁ : List α} {l₂ : List β}, Paired F l₁ l₂ → ∀ {i : Nat} {a : α} {b : β}, l₁[i]? = some a → l₂[i]? = some b → F a b
  | _, _, .nil, i, _, _, h, _ => by simp at h
  | _, _, .cons h1 h2, 0, _, _, e1, e2 => by
    simp only [List.getElem?_cons_zero, Option.some.injEq] at e1 e2
    subst e1 e2
    exact h1
  | _, _, .cons h1 h2, i + 1, _, _, e1, e2 => paired_at h2 (by simpa using e1) (by simpa using e2)
def spFactsOf (K : PySem.W.Frag) : Sp := fun vs H Q _ => ∃ (D : Addr) (as : List Addr) (rs : List RuleD) (W : List Str), vs = [.ref D] ∧ H D = some (.lst (as.map V.ref)) ∧ RulesAt K H as rs ∧ (∀ r ∈ rs, RWf W r) ∧ rs.length ≤ 20 ∧ Tb K H ∧
  ∀ H' p (kvs : List (List Key × V)) bs, Fr K [] H H' → H' p = some (.lst (bs.map V.ref)) → IsKeys H' kvs bs → (∀ x ∈ kvs.map (·.1), KeyOk W x) → kvs.length ≤ 400 → Q (.ref p) H'
theorem R_facts_of (T : Txt w K mg base) : FnR P w K mg base CX0 10 (a_facts_of K) (spFactsOf K) := by
  refine mkR T.f_facts_of sc_facts_of bd_facts_of ?_ ?_
  · rintro vs H Q E ⟨D, as, rs, W, rfl, _⟩; rfl
  rintro cdv A outer s H vs Q E hr ⟨D, as, rs, W, rfl, hD, hR, hW, hl, tb, k⟩
  have nd := sc_facts_of.nd
  obtain ⟨_, FA⟩ := T.f_add_facts
  refine ⟨_, PSs.nox <| pss_cons (ps_set (i := 1) nd rfl (.inl rfl) pe_dnewT)
    (pss_cons (ps_for PassesOwn.never rfl (pi_list (pv 0)) (pg_name (i := 2) nd rfl (.inl rfl))
      (pss_one (ps_expr (pe_cF (R_add_facts T 8) hr (by rfl) T.g_add_facts FA.kp (pa_cons (pe_fld (pv 2) rfl) (pa_cons (pv 1) pa_nil))))))
    (pss_one (ps_ret (pe_callTy (call_list_dT rfl) (by rfl) T.z_list (by decide +kernel) (pa_cons (pv 1) pa_nil))))), ?_⟩
  refine fun d nd2 => ?_
  have hd : H d = none := nd2
  have f1 : Fr K [] H (L2.upd H d (.dT [])) := Fr.new tb hd
  have Dd : D ≠ d := ne_of_none hD hd
  refine ⟨_, rfl, D, rfl, ⟨_, SqL.of (by rw [upd_ne Dd]; exact hD)⟩, ?_⟩
  refine for_list (xs := as.map V.ref) (fun i σ H' => (∃ z, σ = [some (V.ref D), some (.ref d), z]) ∧ Fr K [] H H' ∧ DT W H' d (20 * i)) ⟨⟨_, rfl⟩, f1, ⟨[], upd_same, (fun x m => nomatch m), Nat.zero_le _⟩⟩
    (fun i σ H' _ ⟨_, f, _⟩ => SqL.of (f.at hD)) (fun i y σ H' hy ⟨⟨z, es⟩, f, hd2⟩ => ?_) (fun σ H' ⟨⟨z, es⟩, f, hd2⟩ => ?_)
  · subst es
    obtain ⟨a, ha, rfl⟩ := at_ref hy
    obtain ⟨r, hr2⟩ : ∃ r, rs[i]? = some r := by
      have : i < rs.length := by rw [← hR.1]; exact (List.getElem?_eq_some_iff.mp ha).1
      exact ⟨_, List.getElem?_eq_getElem this⟩
    have hi : i < 20 := by have := (List.getElem?_eq_some_iff.mp hr2).1; omega
    obtain ⟨dx, wl, v, dl, e, a1, a2⟩ := (hR.2 i a r ha hr2).fr f
    obtain ⟨w1, w2, w3, w4, _⟩ := hW r (List.mem_of_getElem? hr2)
    refine ⟨_, rfl, a, _, dx, _, _, rfl, e, T.c_Rule, T.n_Rule_condition, rfl, _, rfl, v, d, r.1, W, 2, 20 * i, rfl, a1, w1, w3, hd2, by omega, f.2, fun H2 f2 hd3 => ?_⟩
    obtain ⟨kvs, e1, e2, e3⟩ := hd3
    exact ⟨⟨_, rfl⟩, Fr.drop1 (E := []) ((f.mono (by simp)).trans f2) hd, ⟨kvs, e1, e2, by omega⟩⟩
  · subst es
    obtain ⟨kvs, e1, e2, e3⟩ := hd2
    rw [List.length_map, hR.1] at e3
    refine ⟨_, rfl, d, kvs, rfl, .inl e1, fun p bs np ik => ?_⟩
    exact k _ p kvs bs (f.trans (Fr.new f.2 np)) upd_same (Paired.mapP ik fun q b e => by rw [upd_ne (ne_of_none e np)]; exact e) e2 (by omega)
def NK (W : List Str) (H : Hp) (d : Addr) : Prop := ∃ kvs : List (Key × V), H d = some (.dK kvs) ∧ (∀ x ∈ kvs.map (·.1), ∃ n ∈ W, x = .inr n) ∧ (kvs.map (·.1)).Nodup
theorem nodup_putK {κ : Type} [DecidableEq κ] {kvs : List (κ × V)} {k : κ} {v : V} (h : (kvs.map (·.1)).Nodup) : ((putK kvs k v).map (·.1)).Nodup := by
  rw [keys_putK]
  split
  · exact h
  · rename_i e
    exact nd_snoc h e
def spWordNames (K : PySem.W.Frag) : Sp := fun vs H Q _ => ∃ (D : Addr) (as : List Addr) (rs : List RuleD) (W : List Str), vs = [.ref D] ∧ H D = some (.lst (as.map V.ref)) ∧ RulesAt K H as rs ∧ (∀ r ∈ rs, RWf W r) ∧ rs.length ≤ 20 ∧ W.length ≤ 4 ∧ Tb K H ∧
  ∀ H' p (xs : List V), Fr K [] H H' → H' p = some (.lst xs) → xs.length ≤ 4 → Q (.ref p) H'
theorem R_word_names (T : Txt w K mg base) : FnR P w K mg base CX0 12 (a_word_names K) (spWordNames K) := by
  refine mkR T.f_word_names sc_word_names bd_word_names ?_ ?_
  · rintro vs H Q E ⟨D, as, rs, W, rfl, _⟩; rfl
  rintro cdv A outer s H vs Q E hr ⟨D, as, rs, W, rfl, hD, hR, hW, hl, hw4, tb, k⟩
  have nd := sc_word_names.nd
  obtain ⟨_, FA⟩ := T.f_facts_of
  refine ⟨_, PSs.nox <| pss_cons (ps_set (i := 1) nd rfl (.inl rfl) pe_dnewK)
    (pss_cons (ps_for PassesOwn.never rfl (pi_list (pe_cF (R_facts_of T) (hr.mono (by decide)) (by rfl) T.g_facts_of FA.kp (pa_cons (pv 0) pa_nil))) (pg_name (i := 2) nd rfl (.inl rfl))
      (pss_one (ps_if (pt_cmpR op_in_seq (pe_ix ix_tup (pv 2) pe_int (fun _ _ => rfl)) (pe_glob (by rfl) T.g_WORD_FACTS (v := .ref (He.ga K "WORD_FACTS")) rfl) (by rfl))
        (pss_one (ps_for PassesOwn.never rfl (pi_tup (pe_slice sl_tup (pv 2) (po_some pe_int) po_none)) (pg_name (i := 3) nd rfl (.inl rfl))
          (pss_one (ps_dput (hu_of hr) (pv 1) (pv 3) pe_bl rfl)))) pss_nil)))
    (pss_one (ps_ret (pe_callTy (call_list_dK rfl) (by rfl) T.z_list (by decide +kernel) (pa_cons (pv 1) pa_nil))))), ?_⟩
  refine fun d hd => ?_
  have hd : H d = none := hd
  have f1 : Fr K [] H (L2.upd H d (.dK [])) := Fr.new tb hd
  have Dd : D ≠ d := ne_of_none hD hd
  refine ⟨_, rfl, D, as, rs, W, rfl, by rw [upd_ne Dd]; exact hD, hR.fr f1, hW, hl, f1.2, fun H2 p kvs bs f2 hp ik ok hk => ?_⟩
  have hd2 : H2 d = some (.dK []) := f2.at upd_same
  have F2 := f1.trans f2
  have pd : p ≠ d := ne_of hp hd2 (by intro z; cases z)
  refine ⟨p, rfl, ⟨_, SqL.of hp⟩, ?_⟩
  refine for_list (xs := bs.map V.ref) (fun i σ H' => (∃ y z, σ = [some (V.ref D), some (.ref d), y, z]) ∧ Fr K [d] H2 H' ∧ NK W H' d) ⟨⟨_, _, rfl⟩, Fr.refl f2.2, ⟨[], hd2, (fun x m => nomatch m), List.nodup_nil⟩⟩
    (fun i σ H' _ ⟨_, f, _⟩ => SqL.of (f.at hp (by intro _ z; cases z) (fun m => pd (List.mem_singleton.mp m)))) (fun i y σ H' hy ⟨⟨z1, z2, es⟩, f, hn⟩ => ?_) (fun σ H' ⟨⟨z1, z2, es⟩, f, hn⟩ => ?_)
  · subst es
    obtain ⟨b, hb, rfl⟩ := at_ref hy
    obtain ⟨q, hq⟩ : ∃ q, kvs[i]? = some q := by
      have e := Paired.length ik
      have : i < kvs.length := by rw [e]; exact (List.getElem?_eq_some_iff.mp hb).1
      exact ⟨_, List.getElem?_eq_getElem this⟩
    have hb2 : H2 b = some (.tup (q.1.map kV)) := paired_at ik hq hb
    have bd : b ∉ [d] := fun m => (ne_of hb2 hd2 (by intro z; cases z)) (List.mem_singleton.mp m)
    have hb3 : H' b = some (.tup (q.1.map kV)) := f.at hb2 (by intro _ z; cases z) bd
    have inner : ∀ (x : Str) (ns : List Str) (De : Ends), ns ≠ [] → H' b = some (.tup (.str x :: ns.map V.str)) → (∀ n ∈ ns, n ∈ W) → (∀ z H'', Fr K [d] H2 H'' → NK W H'' d → De.nx [some (V.ref D), some (.ref d), some (.ref b), z] H'') →
        tFor (iTup K (tSl (rSlT K) (tVar 2) (tPart (tC (.int 1))) tNoPart)) (gName 3) (sDPut (tVar 1) (tVar 3) (tC (.bl true))) De [some (V.ref D), some (.ref d), some (.ref b), z2] H' := by
      intro x ns De hne hx hns kk
      have hcut : cutV (V.str x :: ns.map V.str) (some 1) none = ns.map V.str := by
        have e : (V.str x :: ns.map V.str).length = ns.length + 1 := by simp
        unfold cutV
        rw [show (some (1 : Int)) = some ((1 : Nat) : Int) from rfl, HT.sIx_none, HT.sIx_nat, e, Nat.min_eq_left (by omega)]
        show (ns.map V.str).take _ = _
        exact List.take_of_length_le (by rw [List.length_map]; omega)
      refine ⟨_, rfl, 1, rfl, b, _, rfl, .inl (.inl hx), fun z => ?_, fun t nt => ?_⟩
      · have e : (V.str x :: ns.map V.str).length = ns.length + 1 := by simp
        have z1 := z.1
        rw [show (some (1 : Int)) = some ((1 : Nat) : Int) from rfl, HT.sIx_nat, e] at z1
        omega
      rw [hcut]
      have td : d ≠ t := by
        obtain ⟨kvs', e1, _⟩ := hn
        exact ne_of_none e1 nt
      refine ⟨t, rfl, ⟨_, .inl (.inl upd_same)⟩, ?_⟩
      have hn' : NK W (L2.upd H' t (.tup (ns.map V.str))) d := by
        obtain ⟨kvs', e1, e2, e3⟩ := hn
        exact ⟨kvs', by rw [upd_ne td]; exact e1, e2, e3⟩
      refine for_tup (xs := ns.map V.str) (fun i σ H'' => (∃ z, σ = [some (V.ref D), some (.ref d), some (.ref b), z]) ∧ Fr K [d] H2 H'' ∧ NK W H'' d ∧ H'' t = some (.tup (ns.map V.str))) ⟨⟨_, rfl⟩, f.trans (Fr.new f.2 nt), hn', upd_same⟩
        (fun i σ H'' _ ⟨_, _, _, h⟩ => .inl (.inl h)) (fun i y σ H'' hy ⟨⟨z3, es⟩, f3, hn3, h3⟩ => ?_) (fun σ H'' ⟨⟨z3, es⟩, f3, hn3, h3⟩ => by subst es; exact kk _ _ f3 hn3)
      subst es
      obtain ⟨n, hn4, rfl⟩ := at_map hy
      obtain ⟨kvs', e1, e2, e3⟩ := hn3
      have hnW := hns n (List.mem_of_getElem? hn4)
      have hlen : kvs'.length ≤ 4 := by
        rw [← List.length_map (f := (·.1))]
        exact Nat.le_trans (nodup_le W _ e3 e2) hw4
      refine ⟨_, rfl, _, rfl, d, _, rfl, DPut.k (k := Sum.inr n) e1 (Nat.lt_of_le_of_lt hlen (by decide)), ?_⟩
      exact ⟨⟨_, rfl⟩, f3.trans (Fr.put f3.2 e1 (by intro _ z; cases z) (List.mem_singleton.mpr rfl)), ⟨_, upd_same, all_putK e2 ⟨n, hnW, rfl⟩, nodup_putK e3⟩, by rw [upd_ne td.symm]; exact h3⟩
    have fin : ∀ z H'', Fr K [d] H2 H'' → NK W H'' d → (∃ y z', ([some (V.ref D), some (.ref d), some (.ref b), z] : L2.St) = [some (V.ref D), some (.ref d), y, z']) ∧ Fr K [d] H2 H'' ∧ NK W H'' d := fun z H'' a1 a2 => ⟨⟨_, _, rfl⟩, a1, a2⟩
    rcases ok q.1 (List.mem_map.mpr ⟨q, List.mem_of_getElem? hq, rfl⟩) with ⟨x, n, e1, e2, e3⟩ | ⟨x, y, e1, e2, e3⟩ | ⟨n, e1⟩
    · rw [e1] at hb3
      refine ⟨_, rfl, b, _, _, .str x, rfl, rfl, .inl (.inl hb3), rfl, _, _, rfl, .inr (T.t_WORD_FACTS _), rfl, rfl, _, rfl, ?_⟩
      show (if inV (V.str x) [.str "has", .str "first", .str "last", .str "pair"] = true then _ else _)
      by_cases hx : x ∈ kindsW
      · refine iteB ?_ ?_
        · simp only [kindsW, List.mem_cons, List.not_mem_nil, or_false] at hx
          rcases hx with rfl | rfl | rfl <;> decide +kernel
        · exact inner x [n] _ (by simp) hb3 (fun m hm => by rw [List.mem_singleton.mp hm]; exact e3 hx) fin
      · refine iteNB ?_ (fin _ _ f hn)
        simp only [kinds1, List.mem_cons, List.not_mem_nil, or_false] at e2
        rcases e2 with rfl | rfl | rfl | rfl | rfl <;> first | decide +kernel | exact absurd (by decide +kernel) hx
    · rw [e1] at hb3
      refine ⟨_, rfl, b, _, _, .str "pair", rfl, rfl, .inl (.inl hb3), rfl, _, _, rfl, .inr (T.t_WORD_FACTS _), rfl, rfl, _, rfl, ?_⟩
      show (if inV (V.str "pair") [.str "has", .str "first", .str "last", .str "pair"] = true then _ else _)
      refine iteB (by decide +kernel) (inner "pair" [x, y] _ (by simp) hb3 (fun m hm => ?_) fin)
      simp only [List.mem_cons, List.not_mem_nil, or_false] at hm
      rcases hm with rfl | rfl
      · exact e2
      · exact e3
    · rw [e1] at hb3
      refine ⟨_, rfl, b, _, _, .str "over", rfl, rfl, .inl (.inl hb3), rfl, _, _, rfl, .inr (T.t_WORD_FACTS _), rfl, rfl, _, rfl, ?_⟩
      show (if inV (V.str "over") [.str "has", .str "first", .str "last", .str "pair"] = true then _ else _)
      exact iteNB (by decide +kernel) (fin _ _ f hn)
  · subst es
    obtain ⟨kvs', e1, e2, e3⟩ := hn
    refine ⟨_, rfl, d, kvs', rfl, e1, fun r nr => ?_⟩
    have fb := Fr.drop1 (E := []) ((F2.mono (E' := [] ++ [d]) (by simp)).trans f) hd
    refine k _ r _ (fb.trans (Fr.new fb.2 nr)) upd_same ?_
    rw [List.length_map, ← List.length_map (f := (·.1))]
    exact Nat.le_trans (nodup_le W _ e3 e2) hw4
def spCheckNames (K : PySem.W.Frag) : Sp := fun vs H Q _ => ∃ (D : Addr) (as : List Addr) (rs : List RuleD) (W : List Str), vs = [.ref D] ∧ H D = some (.lst (as.map V.ref)) ∧ RulesAt K H as rs ∧ (∀ r ∈ rs, RWf W r) ∧ rs.length ≤ 20 ∧ W.length ≤ 4 ∧ Tb K H ∧
  ∀ H', Fr K [] H H' → Q .non H'
theorem R_check_names (T : Txt w K mg base) : FnR P w K mg base CX0 14 (a_check_names K) (spCheckNames K) := by
  refine mkR T.f_check_names sc_check_names bd_check_names ?_ ?_
  · rintro vs H Q E ⟨D, as, rs, W, rfl, _⟩; rfl
  rintro cdv A outer s H vs Q E hr ⟨D, as, rs, W, rfl, hD, hR, hW, hl, hw4, tb, k⟩
  obtain ⟨_, FA⟩ := T.f_word_names
  obtain ⟨tM, hM⟩ := T.i_MOST_NAMES
  refine ⟨_, pss_one (ps_if (pt_cmpR op_gt (pe_callB call_len_seq (by rfl) T.z_len PySem.boot_len (pa_cons (pe_cF (R_word_names T) (hr.mono (by decide)) (by rfl) T.g_word_names FA.kp (pa_cons (pv 0) pa_nil)) pa_nil)) (pe_glob (by rfl) hM (v := .int 4) ⟨_, rfl⟩) (nomark _))
    (pss_one ps_never) pss_nil), ?_⟩
  refine ⟨_, rfl, D, as, rs, W, rfl, hD, hR, hW, hl, hw4, tb, fun H' p xs f hp hx => ?_⟩
  exact ⟨p, xs, rfl, .inl (SqL.of hp), _, _, rfl, rfl, _, rfl, iteN (by omega) (k _ f)⟩
end
end So
end

section
set_option Elab.async false
set_option linter.all false
set_option maxRecDepth 100000
set_option maxHeartbeats 4000000
namespace So
open PySem PySem.Spec PyProof.Rows L2 GxA TL
open GxR (TabB TabG Tabbed)
theorem for_enum {K : PySem.W.Frag} {a : Addr} {xs : List V} {g : TG} {tb : TS} {D : Ends} {σ : L2.St} {H : Hp} (Pv : Nat → L2.St → Hp → Prop) (h0 : Pv 0 σ H) (hl : ∀ i σ H, i ≤ xs.length → Pv i σ H → SqL K H a xs)
    (hs : ∀ i x T σ H, xs[i]? = some x → Pv i σ H → H T = none → g (.ref T) σ (upd H T (.tup [.int (i : Nat), x])) fun σ2 H2 => tb { D with nx := Pv (i + 1), ct := Pv (i + 1), bk := D.nx } σ2 H2) (hd : ∀ σ H, Pv xs.length σ H → D.nx σ H) :
    ∃ W : Nat → Nat → L2.St → Hp → Prop, (∃ m, W 0 m σ H) ∧ ∀ i m σ H, W i m σ H →
      ((Ite K a).stop i H ∧ D.nx σ H) ∨ ((Ite K a).go i H ∧ ∃ N : L2.St → Hp → Prop, (∀ σ' H', N σ' H' → ∃ m', m' < m ∧ W (i + 1) m' σ' H') ∧ ∀ x H', (Ite K a).yld i H x H' → g x σ H' fun σ2 H2 => tb { D with nx := N, ct := N, bk := D.nx } σ2 H2) := by
  refine ⟨fun i m σ H => m = xs.length - i ∧ i ≤ xs.length ∧ Pv i σ H, ⟨xs.length, by simp, Nat.zero_le _, h0⟩, ?_⟩
  rintro i m σ H ⟨rfl, hi, p⟩
  have q := hl i σ H hi p
  by_cases e : i = xs.length
  · subst e
    exact .inl ⟨⟨xs, q, Nat.le_refl _⟩, hd σ H p⟩
  · have lt : i < xs.length := by omega
    refine .inr ⟨⟨xs, xs[i], q, List.getElem?_eq_getElem lt⟩, Pv (i + 1), fun σ' H' q => ⟨_, ?_, rfl, by omega, q⟩, ?_⟩
    · omega
    · rintro v H' ⟨T, x, rfl, hT, rfl, hx⟩
      exact hs i x T σ H (hx xs q) p hT
/-- a row of a text: none: it says nothing; else its rule -/
def RowOk (W : List Str) (row : Str) : Option RuleD → Prop
  | none => wordsOf row = [] ∨ Txt.startswith row "#" = true
  | some r => wordsOf row = ruleT r.1 r.2 ∧ Txt.startswith row "#" = false ∧ RWf W r
section
variable {P : Program} {w : World} {K : PySem.W.Frag} {mg : Str → Option Value} {base : Heap}
theorem RuleN.step {H0 H H' : Hp} {E F : List Addr} {a : Addr} {c : Cnd} {ds : List Deed} (h : RuleN K H0 E H a c ds) (f : Fr K F H H') (i : ∀ e ∈ F, e ∈ E ∨ H0 e ≠ none) (n : a ∉ F) : RuleN K H0 E H' a c ds := by
  obtain ⟨dx, wl, v, dl, e, a1, a2⟩ := h
  exact ⟨dx, wl, v, dl, f.at e (by intro _ z; cases z) n, Tr.same (nu_fr f i) a1, Tr.same (nu_fr f i) a2⟩
theorem RuleN.upd {H0 H : Hp} {E : List Addr} {D a : Addr} {c : Cnd} {ds : List Deed} {o : HO} (h : RuleN K H0 E H a c ds) (i : D ∈ E) (n : a ≠ D) : RuleN K H0 E (L2.upd H D o) a c ds := by
  obtain ⟨dx, wl, v, dl, e, a1, a2⟩ := h
  exact ⟨dx, wl, v, dl, by rw [upd_ne n]; exact e, Tr.same (nu_upd (.inl i)) a1, Tr.same (nu_upd (.inl i)) a2⟩
theorem RuleN.at {H0 H : Hp} {E : List Addr} {a : Addr} {c : Cnd} {ds : List Deed} (h : RuleN K H0 E H a c ds) : RuleAt K H a c ds := by
  obtain ⟨dx, wl, v, dl, e, a1, a2⟩ := h
  exact ⟨dx, wl, v, dl, e, ND.tr a1, ND.tr a2⟩
/-- the rules so far -/
def RulesN (K : PySem.W.Frag) (H0 : Hp) (E : List Addr) (H : Hp) (as : List Addr) (rs : List RuleD) : Prop := as.length = rs.length ∧ ∀ (i : Nat) (a : Addr) (r : RuleD), as[i]? = some a → rs[i]? = some r → RuleN K H0 E H a r.1 r.2
theorem at_snoc {α : Type} {l : List α} {x y : α} {i : Nat} (h : (l ++ [x])[i]? = some y) : l[i]? = some y ∨ (i = l.length ∧ y = x) := by
  rcases Nat.lt_trichotomy i l.length with q | q | q
  · rw [List.getElem?_append_left q] at h; exact .inl h
  · subst q
    rw [List.getElem?_append_right (Nat.le_refl _), Nat.sub_self] at h
    exact .inr ⟨rfl, (Option.some.inj h).symm⟩
  · rw [List.getElem?_eq_none (by simp; omega)] at h; cases h
theorem RulesN.snoc {H0 H : Hp} {E : List Addr} {as : List Addr} {rs : List RuleD} {a : Addr} {r : RuleD} (h : RulesN K H0 E H as rs) (n : RuleN K H0 E H a r.1 r.2) : RulesN K H0 E H (as ++ [a]) (rs ++ [r]) := by
  refine ⟨by simp [h.1], fun i b q e1 e2 => ?_⟩
  rcases at_snoc e1 with e1 | ⟨hi, rfl⟩
  · rcases at_snoc e2 with e2 | ⟨hi, rfl⟩
    · exact h.2 i b q e1 e2
    · have := (List.getElem?_eq_some_iff.mp e1).1
      rw [h.1] at this
      omega
  · rcases at_snoc e2 with e2 | ⟨_, rfl⟩
    · have := (List.getElem?_eq_some_iff.mp e2).1
      rw [← h.1] at this
      omega
    · exact n
def spRead (K : PySem.W.Frag) : Sp := fun vs H Q _ => ∃ (x : Str) (rows : List Str) (os : List (Option RuleD)) (W : List Str), vs = [.str x] ∧ x.length + 2 ≤ sizeLine ∧ Txt.split x "\n" = rows ∧ Paired (RowOk W) rows os ∧ (∀ r ∈ rows, r.length ≤ 1000) ∧ rows.length ≤ 20 ∧ W.length ≤ 4 ∧ Tb K H ∧
  ∀ H' D as, Fr K [] H H' → H' D = some (.lst (as.map V.ref)) → RulesAt K H' as (os.filterMap id) → Q (.ref D) H'
theorem R_read (T : Txt w K mg base) : FnR P w K mg base CX0 48 (a_read K) (spRead K) := by
  refine mkR T.f_read sc_read bd_read ?_ ?_
  · rintro vs H Q E ⟨x, rows, os, W, rfl, _⟩; rfl
  rintro cdv A outer s H vs Q E hr ⟨x, rows, os, W, rfl, hx, hsp, hrow, hlen, hrl, hw4, tb, k⟩
  have nd := sc_read.nd
  obtain ⟨_, F1⟩ := T.f_words_of
  obtain ⟨_, F2⟩ := T.f_rule_of
  obtain ⟨_, F3⟩ := T.f_check_names
  refine ⟨_, PSs.nox <| pss_cons (ps_if (pt_not (pt_val (pe_callB call_isi (by rfl) T.z_isinstance (by decide +kernel) (pa_cons (pv 0) (pa_cons (pe_bltn (by rfl) T.z_str (by decide +kernel) (v := .ty "str") rfl) pa_nil))))) (pss_one ps_never) pss_nil)
    (pss_cons (ps_set (i := 1) nd rfl (.inl rfl) (pe_lst pa_nil))
    (pss_cons (ps_for PassesOwn.never rfl (pi_enum (by rfl) T.z_enumerate (pa_cons (pe_split (pv 0) pe_str) pa_nil)) (pg_tup rfl (pgs_cons (pg_name (i := 2) nd rfl (.inl rfl)) (pgs_cons (pg_name (i := 3) nd rfl (.inl rfl)) pgs_nil)))
      (pss_cons (ps_set (i := 4) nd rfl (.inl rfl) (pe_cF (R_words_of T) (hr.mono (by decide)) (by rfl) T.g_words_of F1.kp (pa_cons (pv 3) pa_nil)))
      (pss_one (ps_if (PW.pt (pw_and (pt_truth (pv 4) (by intro _; rfl)) (pw_and1 (pt_not (pt_val (pe_m1 PySem.F.slot_str_startswith PySem.F.type_str_startswith mt_startswith (pv 3) pe_str))))))
        (pss_one (ps_expr (pe_bm PySem.F.plainAttrs_list PySem.F.slot_list_append PySem.F.type_list_append mt_append (pv 1) (pa_cons (pe_cF (R_rule_of T) (hr.mono (by decide)) (by rfl) T.g_rule_of F2.kp (pa_cons (pv 4) (pa_cons (pv 2) pa_nil))) pa_nil)))) pss_nil))))
    (pss_cons (ps_expr (pe_cF (R_check_names T) (hr.mono (by decide)) (by rfl) T.g_check_names F3.kp (pa_cons (pv 1) pa_nil)))
    (pss_one (ps_ret (pv 1)))))), ?_⟩
  refine ⟨_, rfl, _, _, _, _, true, rfl, .ty _, .base (.str x), kit_ty (by decide +kernel), true, rfl, iteF ?_⟩
  refine ⟨by show 0 ≤ sizeLine; decide, fun D nD => ?_⟩
  have hD : H D = none := nD
  have f1 : Fr K [] H (L2.upd H D (.lst [])) := Fr.new tb hD
  refine ⟨_, rfl, ⟨_, rfl⟩, _, _, rfl, rfl, by decide, hx, fun S nS => ?_⟩
  rw [hsp]
  have DS : D ≠ S := ne_of_none upd_same nS
  have f2 := f1.trans (Fr.new (E := []) (o := .lst (rows.map V.str)) f1.2 nS)
  have hol := Paired.length hrow
  refine ⟨S, _, rfl, SqL.of upd_same, ?_⟩
  refine for_enum (xs := rows.map V.str) (fun i σ H' => (∃ y1 y2 y3, σ = [some (V.str x), some (.ref D), y1, y2, y3]) ∧ Fr K [] H H' ∧ H' S = some (.lst (rows.map V.str)) ∧ ∃ as : List Addr, H' D = some (.lst (as.map V.ref)) ∧ RulesN K H [D] H' as ((os.take i).filterMap id))
    ⟨⟨_, _, _, rfl⟩, f2, upd_same, [], by rw [upd_ne DS]; exact upd_same, rfl, fun i a r e => by simp at e⟩ (fun i σ H' _ ⟨_, _, h, _⟩ => SqL.of h) (fun i y Tp σ H' hy ⟨⟨y1, y2, y3, es⟩, f, hS, as, hDl, hR⟩ nT => ?_) (fun σ H' ⟨⟨y1, y2, y3, es⟩, f, hS, as, hDl, hR⟩ => ?_)
  · subst es
    obtain ⟨row, hrw, rfl⟩ := at_map hy
    obtain ⟨o, ho⟩ : ∃ o, os[i]? = some o := by
      have : i < os.length := by rw [← hol]; exact (List.getElem?_eq_some_iff.mp hrw).1
      exact ⟨_, List.getElem?_eq_getElem this⟩
    have ok := paired_at hrow hrw ho
    have hi : i < 20 := by have := (List.getElem?_eq_some_iff.mp hrw).1; omega
    have tk : (os.take (i + 1)).filterMap id = (os.take i).filterMap id ++ o.toList := by
      rw [List.take_add_one, ho, List.filterMap_append]
      cases o <;> rfl
    have g1 : Fr K [] H' (L2.upd H' Tp (.tup [.int (i : Nat), .str row])) := Fr.new f.2 nT
    refine ⟨Tp, _, rfl, .inl (.inl upd_same), rfl, _, _, rfl, _, _, rfl, rfl, ?_⟩
    refine ⟨_, rfl, row, rfl, hlen row (List.mem_of_getElem? hrw), g1.2, fun H2 wl g2 nwl hwl => ?_⟩
    have g := g1.trans g2
    have hD2 := g.at hDl
    have hS2 := g.at hS
    have aD : ∀ a, ∀ j, as[j]? = some a → a ≠ D := fun a j e => by
      obtain ⟨r, hr'⟩ : ∃ r, ((os.take i).filterMap id)[j]? = some r := by
        have : j < ((os.take i).filterMap id).length := by rw [← hR.1]; exact (List.getElem?_eq_some_iff.mp e).1
        exact ⟨_, List.getElem?_eq_getElem this⟩
      obtain ⟨_, _, _, _, e1, _⟩ := hR.2 j a r e hr'
      exact ne_of e1 hDl (by intro z; cases z)
    have hR2 : RulesN K H [D] H2 as ((os.take i).filterMap id) := ⟨hR.1, fun j a r e1 e2 => (hR.2 j a r e1 e2).step g (by simp) (by simp)⟩
    have keep : o.toList = [] → (∃ y1 y2 y3, ([some (V.str x), some (.ref D), some (.int (i : Nat)), some (.str row), some (.ref wl)] : L2.St) = [some (V.str x), some (.ref D), y1, y2, y3]) ∧ Fr K [] H H2 ∧ H2 S = some (.lst (rows.map V.str)) ∧ ∃ as : List Addr, H2 D = some (.lst (as.map V.ref)) ∧ RulesN K H [D] H2 as ((os.take (i + 1)).filterMap id) := fun e => by
      rw [tk, e, List.append_nil]
      exact ⟨⟨_, _, _, rfl⟩, f.trans g, hS2, as, hD2, hR2⟩
    refine ⟨_, rfl, !(wordsOf row).isEmpty, .inl ⟨_, SqL.of hwl, by cases wordsOf row <;> rfl⟩, ?_⟩
    cases o with
    | none =>
      rcases ok with ok | ok
      · exact iteNB (by rw [ok]; rfl) (iteF (keep rfl))
      · by_cases e : (wordsOf row).isEmpty = true
        · exact iteNB (by rw [e]; rfl) (iteF (keep rfl))
        · refine iteB (by simpa using e) ?_
          refine ⟨_, rfl, ⟨_, rfl⟩, _, _, rfl, rfl, true, ?_, iteF (keep rfl)⟩
          exact congrArg V.bl ok
    | some r =>
      obtain ⟨ok1, ok2, ok3⟩ := ok
      obtain ⟨c, ds⟩ := r
      obtain ⟨w1, w2, w3, w4, w5, w6, w7, w8⟩ := ok3
      cases ds with
      | nil => exact absurd rfl w5
      | cons d0 ds =>
      refine iteB (by rw [ok1]; rfl) ?_
      refine ⟨_, rfl, ⟨_, rfl⟩, _, _, rfl, rfl, false, congrArg V.bl ok2, iteT ?_⟩
      refine ⟨_, rfl, .inl ⟨rfl, _, SqL.of hD2⟩, _, rfl, _, rfl, wl, _, c, d0, ds, W, rfl, by rw [hwl, ok1], w8, g2.2, w1, w2, w6, by simp only [List.length_cons] at w7; omega, fun H3 a f3 r3 => ?_⟩
      have hD3 := f3.at hD2
      have hlt : (as.map V.ref).length < sizeLine := by
        rw [List.length_map, hR.1]
        have := List.length_filterMap_le id (os.take i)
        have h2 : (os.take i).length ≤ 20 := by rw [List.length_take]; omega
        exact Nat.lt_of_le_of_lt (by omega : _ ≤ 20) (by decide)
      have aD3 : a ≠ D := by
        obtain ⟨_, _, _, _, e1, _⟩ := r3
        exact ne_of e1 hD3 (by intro z; cases z)
      refine ⟨D, _, .ref a, rfl, rfl, hD3, hlt, ⟨_, _, _, rfl⟩, ((f.trans g).trans f3).upNew tb hD, by rw [upd_ne DS.symm]; exact f3.at hS2, as ++ [a], by rw [upd_same, List.map_append]; rfl, ?_⟩
      rw [tk]
      refine RulesN.snoc ⟨hR.1, fun j b q e1 e2 => ((hR2.2 j b q e1 e2).step f3 (by simp) (by simp)).upd (List.mem_singleton.mpr rfl) (aD b j e1)⟩ ?_
      exact (r3.back (E := [D]) (fun p z => (f.trans g).3 p z) (fun e m => .inr (by rw [List.mem_singleton.mp m, hD2]; intro z; cases z))).upd (List.mem_singleton.mpr rfl) aD3
  · subst es
    rw [List.length_map, hol, List.take_length] at hR
    have hA : RulesAt K H' as (os.filterMap id) := ⟨hR.1, fun i a r e1 e2 => (hR.2 i a r e1 e2).at⟩
    have hwf : ∀ r ∈ os.filterMap id, RWf W r := fun r m => by
      obtain ⟨o, ho, e⟩ := List.mem_filterMap.mp m
      have e : o = some r := e
      subst e
      obtain ⟨j, hj⟩ := List.mem_iff_getElem?.mp ho
      obtain ⟨row, hrw⟩ : ∃ row, rows[j]? = some row := by
        have : j < rows.length := by rw [hol]; exact (List.getElem?_eq_some_iff.mp hj).1
        exact ⟨_, List.getElem?_eq_getElem this⟩
      exact (paired_at hrow hrw hj).2.2
    have hl20 : (os.filterMap id).length ≤ 20 := by
      have := List.length_filterMap_le id os
      omega
    refine ⟨_, rfl, D, as, _, W, rfl, hDl, hA, hwf, hl20, hw4, f.2, fun H2 f2 => ?_⟩
    exact ⟨_, rfl, k _ D as (f.trans f2) (f2.at hDl) (hA.fr f2)⟩
end
end So
end

section
set_option Elab.async false
set_option linter.all false
set_option maxRecDepth 100000
set_option maxHeartbeats 4000000
namespace So
open PySem PySem.Spec PyProof.Rows L2 GxA TL
open GxR (TabB TabG Tabbed)
section
variable {X : Cx} {o : Expr} {f : Str} {pos : Pos} {ta : TE}
/-- o.f as a target -/
def gFld (K : PySem.W.Frag) (ta : TE) (f : Str) : TG := fun v σ H Q => ta σ H fun x H2 => ∃ a C dx fs, x = .ref a ∧ H2 a = some (.ins C dx fs) ∧ Cls K C ∧ NoAttr K C f ∧ fs.length < 1000 ∧ Q σ (upd H2 a (.ins C dx (putF f v fs)))
theorem pg_fld (ha : PE X o ta) : PG X (.Attribute o f pos) (gFld X.K ta f) := by
  refine ⟨fun pins s σ H v u Q I r hw => ?_⟩
  have key := thn (ha.run pins s σ H _ I hw) fun ov s2 ⟨x, H2, I2, rx, a, C, dx, fs, ex, ea, c, n, l, q2⟩ => (by
    subst ex
    obtain rfl : ov = Value.ref a := rx
    exact setattr_ok (A := X.A) (E := X.xe) (u := u) (Q := fun _ s' => ∃ σ' H', Inv X pins σ' H' s' ∧ Q σ' H') I2 ea c n l r fun s3 I3 => ⟨σ, _, I3, q2⟩ : wpAny (model X.prog X.w) X.A (setAttr ov f u) (fun _ s' => ∃ σ' H', Inv X pins σ' H' s' ∧ Q σ' H') X.xe s2)
  rw [assign_Attribute]
  intro Γ p hΓ
  simp only [Sem.wp_bind', Sem.wp_holding, Sem.wp_cmd_standAt, Sem.wp_release, Sem.wp_pure']
  exact Sem.wp_mono _ Γ _ (fun ov _ s₂ h₂ => h₂ Γ _ hΓ) (fun _ _ _ h' => h') _ _ (key Γ p hΓ)
end
/-! ### a letter's way -/
structure WA where
  wl : Addr
  md : Addr
  fd : Addr
  rd : Addr
  al : Addr
def wfs (L : Ltr) (W : WA) (st : Bool) : List (Str × V) := [("sender", .str L.snd), ("size", .int L.sz), ("words", .ref W.wl), ("marks", .ref W.md), ("folders", .ref W.fd), ("receivers", .ref W.rd), ("acts", .ref W.al), ("stopped", .bl st)]
structure LWf (L : Ltr) : Prop where
  snd : Nm L.snd
  ws : ∀ x ∈ L.ws, Nm x
  sz : L.sz ≤ 99999
  len : L.ws.length ≤ 100
/-- what has become of a letter so far -/
structure WS where
  ms : List Str
  fs : List Str
  rs : List Str
  acts : List Nat
  st : Bool
def KS (H : Hp) (d : Addr) (ns : List Str) : Prop := ∃ kvs : List (Key × V), H d = some (.dK kvs) ∧ kvs.map (·.1) = ns.map Sum.inr
structure WayAt (K : PySem.W.Frag) (H : Hp) (a : Addr) (W : WA) (L : Ltr) (S : WS) : Prop where
  ob : ∃ dx, H a = some (.ins (C_Way K) dx (wfs L W S.st))
  wl : H W.wl = some (.lst (L.ws.map V.str))
  md : KS H W.md S.ms
  fd : KS H W.fd S.fs
  rd : KS H W.rd S.rs
  al : H W.al = some (.lst (S.acts.map fun (n : Nat) => V.int (n : Int)))
  n1 : W.md ≠ W.fd
  n2 : W.md ≠ W.rd
  n3 : W.fd ≠ W.rd
  n4 : W.wl ≠ W.al
def WA.ex (W : WA) (a : Addr) : List Addr := [a, W.md, W.fd, W.rd, W.al]
section
variable {P : Program} {w : World} {K : PySem.W.Frag} {mg : Str → Option Value} {base : Heap}
theorem KS.fr {H H' : Hp} {d : Addr} {ns : List Str} (h : KS H d ns) (f : Fr K [] H H') : KS H' d ns := by
  obtain ⟨kvs, e, q⟩ := h
  exact ⟨kvs, f.at e, q⟩
theorem WayAt.fr {H H' : Hp} {a : Addr} {W : WA} {L : Ltr} {S : WS} (h : WayAt K H a W L S) (f : Fr K [] H H') : WayAt K H' a W L S := by
  obtain ⟨dx, e⟩ := h.ob
  exact ⟨⟨dx, f.at e⟩, f.at h.wl, h.md.fr f, h.fd.fr f, h.rd.fr f, f.at h.al, h.n1, h.n2, h.n3, h.n4⟩
def spWInit (K : PySem.W.Frag) : Sp := fun vs H Q _ => ∃ (a dx lt l : Addr) (L : Ltr), vs = [.ref a, .ref lt] ∧ H a = some (.ins (C_Way K) dx []) ∧ H lt = some (.tup [.str L.snd, .ref l, .int L.sz]) ∧ H l = some (.lst (L.ws.map V.str)) ∧ Tb K H ∧
  ∀ H' W, Fr K [a] H H' → WayAt K H' a W L ⟨[], [], [], [], false⟩ → (∀ x ∈ [W.wl, W.md, W.fd, W.rd, W.al], H x = none) → Q .non H'
theorem R_Way_init (T : Txt w K mg base) : FnR P w K mg base CX0 1 (a_Way_init K) (spWInit K) := by
  refine mkR T.f_Way_init sc_Way_init bd_Way_init ?_ ?_
  · rintro vs H Q E ⟨a, dx, lt, l, L, rfl, _⟩; rfl
  rintro cdv A outer s H vs Q E hr ⟨a, dx, lt, l, L, rfl, ha, hlt, hl, tb, k⟩
  have nd := sc_Way_init.nd
  refine ⟨_, pss_cons (ps_asg (pv 1) (pg_tup (by rfl) (pgs_cons (pg_fld (pv 0)) (pgs_cons (pg_name (i := 2) nd rfl (.inl rfl)) (pgs_cons (pg_fld (pv 0)) pgs_nil)))))
    (pss_cons (ps_fld (pv 0) (pe_callTy call_list_of (by rfl) T.z_list (by decide +kernel) (pa_cons (pv 2) pa_nil)) rfl)
    (pss_cons (ps_fld (pv 0) pe_dnewK rfl) (pss_cons (ps_fld (pv 0) pe_dnewK rfl) (pss_cons (ps_fld (pv 0) pe_dnewK rfl) (pss_cons (ps_fld (pv 0) (pe_lst pa_nil) rfl) (pss_one (ps_fld (pv 0) pe_bl rfl))))))), ?_⟩
  have al : a ≠ l := ne_of ha hl (by intro z; cases z)
  have st : ∀ {Hc : Hp} {d : Addr} {o : HO} {fs fs' : List (Str × V)}, Tb K Hc → Hc d = none → Hc a = some (.ins (C_Way K) dx fs) → Fr K [a] Hc (L2.upd (L2.upd Hc d o) a (.ins (C_Way K) dx fs')) := fun {Hc d o fs fs'} t n e =>
    (Fr.new t n).trans (Fr.put (t.upd (t.ne0 n)) (by rw [upd_ne (ne_of_none e n)]; exact e) (by intro _ z; cases z) (List.mem_singleton.mpr rfl))
  have na : ∀ {Hc : Hp} {d : Addr} {fs : List (Str × V)}, Hc d = none → Hc a = some (.ins (C_Way K) dx fs) → d ∉ [a] := fun n e m => by
    rw [List.mem_singleton.mp m, e] at n; cases n
  refine ⟨_, rfl, lt, _, rfl, .inl (.inl hlt), rfl, _, _, rfl, _, rfl, a, _, dx, [], rfl, ha, T.c_Way, T.n_Way_sender, by decide, ?_⟩
  refine ⟨_, _, rfl, _, _, rfl, _, rfl, a, _, dx, _, rfl, upd_same, T.c_Way, T.n_Way_size, (by show 1 < 1000; decide), rfl, ?_⟩
  rw [upd_upd]
  have g0 : Fr K [a] H (L2.upd H a (.ins (C_Way K) dx (putF "size" (.int L.sz) (putF "sender" (.str L.snd) [])))) := Fr.put tb ha (by intro _ z; cases z) (List.mem_singleton.mpr rfl)
  refine ⟨_, rfl, l, _, rfl, .inl (SqL.of (by rw [upd_ne al.symm]; exact hl)), fun wl nwl => ?_⟩
  have awl : a ≠ wl := ne_of_none upd_same nwl
  refine ⟨_, rfl, a, _, dx, _, rfl, by rw [upd_ne awl]; exact upd_same, T.c_Way, T.n_Way_words, (by show 2 < 1000; decide), fun md nmd => ?_⟩
  have g1 := st (o := .lst (L.ws.map V.str)) (fs' := putF "words" (.ref wl) (putF "size" (.int L.sz) (putF "sender" (.str L.snd) []))) g0.2 nwl upd_same
  have amd : a ≠ md := ne_of_none upd_same nmd
  refine ⟨_, rfl, a, _, dx, _, rfl, by rw [upd_ne amd]; exact upd_same, T.c_Way, T.n_Way_marks, (by show 3 < 1000; decide), fun fd nfd => ?_⟩
  have g2 := st (o := .dK []) (fs' := putF "marks" (.ref md) (putF "words" (.ref wl) (putF "size" (.int L.sz) (putF "sender" (.str L.snd) [])))) g1.2 nmd upd_same
  have afd : a ≠ fd := ne_of_none upd_same nfd
  refine ⟨_, rfl, a, _, dx, _, rfl, by rw [upd_ne afd]; exact upd_same, T.c_Way, T.n_Way_folders, (by show 4 < 1000; decide), fun rd nrd => ?_⟩
  have g3 := st (o := .dK []) (fs' := putF "folders" (.ref fd) (putF "marks" (.ref md) (putF "words" (.ref wl) (putF "size" (.int L.sz) (putF "sender" (.str L.snd) []))))) g2.2 nfd upd_same
  have ard : a ≠ rd := ne_of_none upd_same nrd
  refine ⟨_, rfl, a, _, dx, _, rfl, by rw [upd_ne ard]; exact upd_same, T.c_Way, T.n_Way_receivers, (by show 5 < 1000; decide), by show 0 ≤ sizeLine; decide, fun ac nac => ?_⟩
  have g4 := st (o := .dK []) (fs' := putF "receivers" (.ref rd) (putF "folders" (.ref fd) (putF "marks" (.ref md) (putF "words" (.ref wl) (putF "size" (.int L.sz) (putF "sender" (.str L.snd) [])))))) g3.2 nrd upd_same
  have aac : a ≠ ac := ne_of_none upd_same nac
  refine ⟨_, rfl, a, _, dx, _, rfl, by rw [upd_ne aac]; exact upd_same, T.c_Way, T.n_Way_acts, (by show 6 < 1000; decide), ?_⟩
  have g5 := st (o := .lst []) (fs' := putF "acts" (.ref ac) (putF "receivers" (.ref rd) (putF "folders" (.ref fd) (putF "marks" (.ref md) (putF "words" (.ref wl) (putF "size" (.int L.sz) (putF "sender" (.str L.snd) []))))))) g4.2 nac upd_same
  refine ⟨_, rfl, a, _, dx, _, rfl, upd_same, T.c_Way, T.n_Way_stopped, (by show 7 < 1000; decide), ?_⟩
  rw [upd_upd]
  have g6 : Fr K [a] _ (L2.upd (L2.upd _ ac (.lst [])) a (.ins (C_Way K) dx (putF "stopped" (.bl false) (putF "acts" (.ref ac) (putF "receivers" (.ref rd) (putF "folders" (.ref fd) (putF "marks" (.ref md) (putF "words" (.ref wl) (putF "size" (.int L.sz) (putF "sender" (.str L.snd) [])))))))))) := st (o := .lst []) g4.2 nac upd_same
  have f1 := g0.trans g1
  have f2 := f1.trans g2
  have f3 := f2.trans g3
  have f4 := f3.trans g4
  have nE : ∀ {d : Addr}, a ≠ d → d ∉ [a] := fun h m => h (List.mem_singleton.mp m).symm
  -- what was made stands at the end
  have w1 : ∀ {Hc : Hp} {d : Addr} {o : HO} {u : HO}, a ≠ d → (L2.upd (L2.upd Hc d o) a u) d = some o := fun h => by rw [upd_ne h.symm]; exact upd_same
  have e1 := ((g2.trans g3).trans g4).trans g6
  refine k _ ⟨wl, md, fd, rd, ac⟩ (f4.trans g6) ⟨⟨dx, upd_same⟩, e1.at (w1 awl) (by intro _ z; cases z) (nE awl), ⟨[], ((g3.trans g4).trans g6).at (w1 amd) (by intro _ z; cases z) (nE amd), rfl⟩, ⟨[], (g4.trans g6).at (w1 afd) (by intro _ z; cases z) (nE afd), rfl⟩, ⟨[], g6.at (w1 ard) (by intro _ z; cases z) (nE ard), rfl⟩, w1 aac, ?_, ?_, ?_, ?_⟩ ?_
  · exact ne_of_none (w1 amd) nfd
  · exact ne_of_none (g3.at (w1 amd) (by intro _ z; cases z) (nE amd)) nrd
  · exact ne_of_none (w1 afd) nrd
  · exact ne_of_none (((g2.trans g3).trans g4).at (w1 awl) (by intro _ z; cases z) (nE awl)) nac
  · intro x hx
    simp only [List.mem_cons, List.not_mem_nil, or_false] at hx
    rcases hx with rfl | rfl | rfl | rfl | rfl
    · exact g0.3 _ nwl
    · exact f1.3 _ nmd
    · exact f2.3 _ nfd
    · exact f3.3 _ nrd
    · exact f4.3 _ nac
end
end So
end

section
set_option Elab.async false
set_option linter.all false
set_option maxRecDepth 100000
set_option maxHeartbeats 4000000
namespace So
open PySem PySem.Spec PyProof.Rows L2 GxA TL
open GxR (TabB TabG Tabbed)
theorem hasPair_at {ws : List Str} {a b : Str} {i : Nat} (h1 : ws[i]? = some a) (h2 : ws[i + 1]? = some b) : hasPair ws a b = true := by
  unfold hasPair
  rw [List.contains_iff_mem]
  refine List.mem_of_getElem? (i := i) ?_
  rw [List.getElem?_zip_eq_some]
  exact ⟨h1, by rw [List.getElem?_tail]; exact h2⟩
theorem hasPair_no {ws : List Str} {a b : Str} (h : ∀ i, ¬ (ws[i]? = some a ∧ ws[i + 1]? = some b)) : hasPair ws a b = false := by
  unfold hasPair
  rw [Bool.eq_false_iff]
  intro z
  rw [List.contains_iff_mem] at z
  obtain ⟨i, hi⟩ := List.mem_iff_getElem?.mp z
  rw [List.getElem?_zip_eq_some, List.getElem?_tail] at hi
  exact h i hi
section
variable {P : Program} {w : World} {K : PySem.W.Frag} {mg : Str → Option Value} {base : Heap}
def spHasPair (K : PySem.W.Frag) : Sp := fun vs H Q _ => ∃ (a : Addr) (x y : Str) (W : WA) (L : Ltr) (S : WS), vs = [.ref a, .str x, .str y] ∧ WayAt K H a W L S ∧ LWf L ∧ Q (.bl (hasPair L.ws x y)) H
theorem R_has_pair (T : Txt w K mg base) : FnR P w K mg base CX0 1 (a_Way_has_pair K) (spHasPair K) := by
  refine mkR T.f_Way_has_pair sc_Way_has_pair bd_Way_has_pair ?_ ?_
  · rintro vs H Q E ⟨a, x, y, W, L, S, rfl, _⟩; rfl
  rintro cdv A outer s H vs Q E hr ⟨a, x, y, W, L, S, rfl, hw, hl, k⟩
  have nd := sc_Way_has_pair.nd
  refine ⟨_, PSs.nox <| pss_cons (ps_for PassesOwn.never rfl (pi_range2 (by rfl) T.z_range (pa_cons pe_int (pa_cons (pe_callB call_len_seq (by rfl) T.z_len PySem.boot_len (pa_cons (pe_fld (pv 0) rfl) pa_nil)) pa_nil))) (pg_name (i := 3) nd rfl (.inl rfl))
      (pss_one (ps_if (PW.pt (pw_and (pt_cmpR op_eq (pe_ix ix_list (pe_fld (pv 0) rfl) (pe_op op_sub (pv 3) pe_int) (fun _ _ => rfl)) (pv 1) (nomark _)) (pw_and1 (pt_cmpR op_eq (pe_ix ix_list (pe_fld (pv 0) rfl) (pv 3) (fun _ _ => rfl)) (pv 2) (nomark _)))))
        (pss_one (ps_ret pe_bl)) pss_nil)))
    (pss_one (ps_ret pe_bl)), ?_⟩
  obtain ⟨dx, e⟩ := hw.ob
  have ll := hl.len
  refine ⟨_, rfl, a, _, dx, _, _, rfl, e, T.c_Way, T.n_Way_words, rfl, W.wl, _, rfl, .inl (SqL.of hw.wl), 1, _, rfl, ⟨by decide, by decide, by rw [List.length_map]; omega, by rw [List.length_map]; omega⟩, ?_⟩
  refine for_range (lo := 1) (n := ((((L.ws.map V.str).length : Nat) : Int) - 1).toNat) (fun i σ H' => H' = H ∧ (∃ z, σ = [some (V.ref a), some (.str x), some (.str y), z]) ∧ ∀ j, j < i → ¬ (L.ws[j]? = some x ∧ L.ws[j + 1]? = some y)) ⟨rfl, ⟨_, rfl⟩, fun j h => by omega⟩ (fun i σ H' hi ⟨eH, ⟨z, es⟩, hj⟩ => ?_) (fun σ H' ⟨eH, ⟨z, es⟩, hj⟩ => ?_)
  · subst eH
    subst es
    rw [List.length_map] at hi
    have h1 : i < L.ws.length := by omega
    have h2 : i + 1 < L.ws.length := by omega
    have g1 := List.getElem?_eq_getElem h1
    have g2 := List.getElem?_eq_getElem h2
    have m1 : (L.ws.map V.str)[i]? = some (V.str L.ws[i]) := by rw [List.getElem?_map, g1]; rfl
    have m2 : (L.ws.map V.str)[i + 1]? = some (V.str L.ws[i + 1]) := by rw [List.getElem?_map, g2]; rfl
    refine ⟨_, rfl, a, _, dx, _, _, rfl, e, T.c_Way, T.n_Way_words, rfl, _, rfl, 1 + (i : Int), 1, rfl, rfl, W.wl, _, _, V.str L.ws[i], rfl, rfl, SqL.of hw.wl, ?_, ?_⟩
    · rw [show (1 + (i : Int) - 1) = ((i : Nat) : Int) by omega]
      exact atI_nat m1
    refine ⟨_, rfl, rfl, _, rfl, ?_⟩
    by_cases c1 : L.ws[i] = x
    · refine iteD (by rw [c1]) ?_
      refine ⟨_, rfl, a, _, dx, _, _, rfl, e, T.c_Way, T.n_Way_words, rfl, _, rfl, W.wl, _, _, V.str L.ws[i + 1], rfl, rfl, SqL.of hw.wl, ?_, _, rfl, rfl, _, rfl, ?_⟩
      · rw [show (1 + (i : Int)) = ((i + 1 : Nat) : Int) by omega]
        exact atI_nat m2
      by_cases c2 : L.ws[i + 1] = y
      · refine iteD (by rw [c2]) ?_
        rw [hasPair_at (i := i) (by rw [g1, c1]) (by rw [g2, c2])] at k
        exact k
      · refine iteN (fun z => c2 (by injection z)) ⟨rfl, ⟨_, rfl⟩, fun j hj2 => ?_⟩
        by_cases q : j = i
        · subst q
          rw [g2]
          exact fun z => c2 (Option.some.inj z.2)
        · exact hj j (by omega)
    · refine iteN (fun z => c1 (by injection z)) (iteF ⟨rfl, ⟨_, rfl⟩, fun j hj2 => ?_⟩)
      by_cases q : j = i
      · subst q
        rw [g1]
        exact fun z => c1 (Option.some.inj z.1)
      · exact hj j (by omega)
  · subst eH
    rw [hasPair_no fun i z => ?_] at k
    · exact k
    · by_cases q : i < ((((L.ws.map V.str).length : Nat) : Int) - 1).toNat
      · exact hj i q z
      · have := (List.getElem?_eq_some_iff.mp z.2).1
        rw [List.length_map] at q
        omega
end
end So
end

section
set_option Elab.async false
set_option linter.all false
set_option maxRecDepth 100000
set_option maxHeartbeats 4000000
namespace So
open PySem PySem.Spec PyProof.Rows L2 GxA TL
open GxR (TabB TabG Tabbed)
theorem Nm.ok {x : Str} (h : Nm x) : PyData.strOk x = true := by
  unfold PyData.strOk
  rw [← Array.all_toList, List.all_eq_true]
  intro c hc
  have := h.2.2 c hc
  have z : ∀ d ∈ ("abcdefghijklmnopqrstuvwxyz" : Str).cps.toList, decide (d < 0x110000) = true := by decide +kernel
  exact z c this
theorem shapedS {xs : List Str} (h : ∀ x ∈ xs, Nm x) : PyData.canLay0 (.list (xs.map PyData.str)) = true ∧ PyData.depth (.list (xs.map PyData.str)) ≤ 1 := by
  constructor
  · show PyData.canLayAll0 (xs.map PyData.str) = true
    induction xs with
    | nil => rfl
    | cons x xs ih =>
      show (PyData.strOk x && PyData.canLayAll0 (xs.map PyData.str)) = true
      rw [(h x List.mem_cons_self).ok, ih fun y m => h y (List.mem_cons_of_mem _ m)]
      rfl
  · have z : PyData.depthAll (xs.map PyData.str) = 0 := by
      clear h
      induction xs with
      | nil => rfl
      | cons x xs ih =>
        show max (PyData.depth (.str x)) (PyData.depthAll (xs.map PyData.str)) = 0
        rw [ih]; rfl
    show PyData.depthAll (xs.map PyData.str) + 1 ≤ 1
    rw [z]
    exact Nat.le_refl _
theorem shaped_strs {xs : List Str} (h : ∀ x ∈ xs, Nm x) : SeqAt.shaped (.list (xs.map PyData.str)) = true := by
  obtain ⟨h1, h2⟩ := shapedS h
  unfold SeqAt.shaped
  rw [Bool.and_eq_true]
  exact ⟨h1, decide_eq_true (by omega)⟩
theorem cut_first (xs : List V) : cutV xs none (some 1) = xs.take 1 := by
  have e : HT.sIx xs.length xs.length (some ((1 : Nat) : Int)) = min 1 xs.length := HT.sIx_nat xs.length xs.length 1
  have e : HT.sIx xs.length xs.length (some 1) = min 1 xs.length := e
  unfold cutV
  rw [HT.sIx_none, e, List.drop_zero, Nat.sub_zero]
  cases xs with
  | nil => rfl
  | cons x xs => rw [Nat.min_eq_left (by simp : 1 ≤ (x :: xs).length)]
theorem cut_last (xs : List V) : cutV xs (some (-1)) none = xs.drop (xs.length - 1) := by
  unfold cutV
  rw [HT.sIx_none]
  have e : HT.sIx xs.length 0 (some (-1)) = xs.length - 1 := by
    show (if (-1 : Int) < 0 then ((-1 : Int) + (xs.length : Int)).toNat else min (-1 : Int).toNat xs.length) = _
    rw [if_pos (by decide)]
    omega
  rw [e]
  exact List.take_of_length_le (by rw [List.length_drop]; omega)
theorem eqv_one (ys : List Str) (n : Str) (h : ys.length ≤ 1) : PyData.eqv (.list (ys.map PyData.str)) (.list [.str n]) = (ys.head? == some n) := by
  match ys, h with
  | [], _ => rfl
  | [y], _ =>
    show ((y == n) && true) = (some y == some n)
    rw [Bool.and_true]
    rfl
theorem last_drop (ws : List Str) : (ws.drop (ws.length - 1)).head? = ws.getLast? := by
  rw [List.head?_drop, List.getLast?_eq_getElem?]
/-- a fact's kind, its worth -/
def factKd : Cnd → Str
  | .fact k _ => k
  | .pair _ _ => "pair"
  | .over _ => "over"
  | _ => ""
def factW : Cnd → V
  | .fact _ n => .str n
  | .pair a _ => .str a
  | .over n => .int n
  | _ => .non
def Cnd.isFact : Cnd → Bool
  | .fact _ _ => true
  | .pair _ _ => true
  | .over _ => true
  | _ => false
section
variable {P : Program} {w : World} {K : PySem.W.Frag} {mg : Str → Option Value} {base : Heap}
theorem isSome_valV {kvs : List (Key × V)} {ns : List Str} {n : Str} (h : kvs.map (·.1) = ns.map Sum.inr) : (valV kvs (Sum.inr n)).isSome = ns.contains n := by
  rw [← valV_any, Bool.eq_iff_iff, List.any_eq_true, List.contains_iff_mem]
  constructor
  · rintro ⟨p, hp, e⟩
    have e : p.1 = Sum.inr n := of_decide_eq_true e
    have m : Sum.inr n ∈ kvs.map (·.1) := List.mem_map.mpr ⟨p, hp, e⟩
    rw [h] at m
    obtain ⟨x, hx, e⟩ := List.mem_map.mp m
    injection e with e
    rw [← e]; exact hx
  · intro m
    have m : Sum.inr n ∈ kvs.map (·.1) := by rw [h]; exact List.mem_map.mpr ⟨n, m, rfl⟩
    obtain ⟨p, hp, e⟩ := List.mem_map.mp m
    exact ⟨p, hp, decide_eq_true e⟩
theorem inV_strs (ws : List Str) (n : Str) : inV (.str n) (ws.map V.str) = ws.contains n := by
  unfold inV
  rw [Bool.eq_iff_iff, List.any_eq_true, List.contains_iff_mem]
  constructor
  · rintro ⟨y, hy, e⟩
    obtain ⟨x, hx, rfl⟩ := List.mem_map.mp hy
    have e : (x == n) = true := e
    rw [← beq_iff_eq.mp e]; exact hx
  · intro m
    exact ⟨_, List.mem_map.mpr ⟨n, m, rfl⟩, (beq_self_eq_true n : (n == n) = true)⟩
theorem iteX {x y : Str} {A B : Prop} (h : x ≠ y) (b : B) : if decide (V.str x = V.str y) = true then A else B := iteN (fun z => h (by injection z)) b
def spFactHolds (K : PySem.W.Frag) : Sp := fun vs H Q _ => ∃ (a : Addr) (v : V) (c : Cnd) (W : WA) (L : Ltr) (S : WS) (Ws : List Str) (l : Nat), vs = [.ref a, .str (factKd c), factW c, v] ∧ WayAt K H a W L S ∧ LWf L ∧ Tr H v c.p ∧ c.isFact = true ∧ c.wf Ws l ∧ Tb K H ∧
  ∀ H', Fr K [] H H' → Q (.bl (c.ev L S.ms)) H'
theorem R_fact_holds (T : Txt w K mg base) : FnR P w K mg base CX0 3 (a_Way_fact_holds K) (spFactHolds K) := by
  refine mkR T.f_Way_fact_holds sc_Way_fact_holds bd_Way_fact_holds ?_ ?_
  · rintro vs H Q E ⟨a, v, c, W, L, S, Ws, l, rfl, _⟩; rfl
  rintro cdv A outer s H vs Q E hr ⟨a, v, c, W, L, S, Ws, l, rfl, hw, hl, hv, hf, hc, tb, k⟩
  refine ⟨_, pss_cons (ps_if (pt_cmpR op_eq (pv 1) pe_str (nomark _)) (pss_one (ps_ret (pe_cmpR op_eq (pe_fld (pv 0) rfl) (pv 2) (nomark _)))) pss_nil)
    (pss_cons (ps_if (pt_cmpR op_eq (pv 1) pe_str (nomark _)) (pss_one (ps_ret (pe_cmpR op_gt (pe_fld (pv 0) rfl) (pv 2) (nomark _)))) pss_nil)
    (pss_cons (ps_if (pt_cmpR op_eq (pv 1) pe_str (nomark _)) (pss_one (ps_ret (pe_cmp (pc_din (hu_of hr) (pv 2) (pe_fld (pv 0) rfl)) rfl))) pss_nil)
    (pss_cons (ps_if (pt_cmpR op_eq (pv 1) pe_str (nomark _)) (pss_one (ps_ret (pe_cmpR op_in_seq (pv 2) (pe_fld (pv 0) rfl) (by rfl)))) pss_nil)
    (pss_cons (ps_if (pt_cmpR op_eq (pv 1) pe_str (nomark _)) (pss_one (ps_ret (pe_cmpR (op_eqD hr.units) (pe_slice sl_list (pe_fld (pv 0) rfl) po_none (po_some pe_int)) (pe_lst (pa_cons (pv 2) pa_nil)) (nomark _)))) pss_nil)
    (pss_cons (ps_if (pt_cmpR op_eq (pv 1) pe_str (nomark _)) (pss_one (ps_ret (pe_cmpR (op_eqD hr.units) (pe_slice sl_list (pe_fld (pv 0) rfl) (po_some (pe_un un_neg pe_int)) po_none) (pe_lst (pa_cons (pv 2) pa_nil)) (nomark _)))) pss_nil)
    (pss_one (ps_ret (pe_methR (pv 0) T.c_Way T.m_Way_has_pair (R_has_pair T) (hr.mono (by decide)) pass0 (pa_cons (pv 2) (pa_cons (pe_ix ix_tup (pv 3) pe_int (fun _ _ => rfl)) pa_nil)))))))))), ?_⟩
  obtain ⟨dx, e⟩ := hw.ob
  cases c with
  | over n =>
    refine ⟨_, rfl, rfl, _, rfl, iteX (x := "over") (by decide +kernel) ?_⟩
    refine ⟨_, rfl, rfl, _, rfl, iteD rfl ?_⟩
    refine ⟨_, rfl, a, _, dx, _, _, rfl, e, T.c_Way, T.n_Way_size, rfl, _, rfl, _, _, rfl, rfl, ?_⟩
    have := k H (Fr.refl tb)
    have e2 : decide ((n : Int) < (L.sz : Int)) = decide (n < L.sz) := by
      rw [Bool.eq_iff_iff, decide_eq_true_iff, decide_eq_true_iff]; omega
    show Q (.bl (decide ((n : Int) < (L.sz : Int)))) H
    rw [e2]
    exact this
  | pair x y =>
    refine ⟨_, rfl, rfl, _, rfl, iteX (x := "pair") (by decide +kernel) ?_⟩
    refine ⟨_, rfl, rfl, _, rfl, iteX (x := "pair") (by decide +kernel) ?_⟩
    refine ⟨_, rfl, rfl, _, rfl, iteX (x := "pair") (by decide +kernel) ?_⟩
    refine ⟨_, rfl, rfl, _, rfl, iteX (x := "pair") (by decide +kernel) ?_⟩
    refine ⟨_, rfl, rfl, _, rfl, iteX (x := "pair") (by decide +kernel) ?_⟩
    refine ⟨_, rfl, rfl, _, rfl, iteX (x := "pair") (by decide +kernel) ?_⟩
    obtain ⟨b, xs, rfl, hb, hx⟩ := tr_tup hv
    have hx := trAll_strs (xs := ["pair", x, y]) hx
    subst hx
    refine ⟨_, rfl, a, dx, _, rfl, e, rfl, _, rfl, _, rfl, b, _, _, .str y, rfl, rfl, .inl (.inl hb), rfl, a, x, y, W, L, S, rfl, hw, hl, k H (Fr.refl tb)⟩
  | fact kd n =>
    have hk : kd ∈ kinds1 := hc.1
    have hn : Nm n := hc.2.1
    simp only [kinds1, List.mem_cons, List.not_mem_nil, or_false] at hk
    have slice : ∀ (p : Addr) (ys : List Str) (H1 : Hp), ys.length ≤ 1 → (∀ y ∈ ys, Nm y) → H1 p = none → Fr K [] H H1 → (∀ H', Fr K [] H H' → Q (.bl (ys.head? == some n)) H') →
        ∀ q, (L2.upd H1 p (.lst (ys.map V.str))) q = none → rEqD K (.ref p) (.ref q) (L2.upd (L2.upd H1 p (.lst (ys.map V.str))) q (.lst [.str n])) Q := by
      intro p ys H1 h1 h2 h3 h4 h5 q h6
      have pq : p ≠ q := ne_of_none upd_same h6
      refine ⟨_, _, Dp.lst (SqL.of (by rw [upd_ne pq]; exact upd_same)) strs_dpAll, Dp.lst (SqL.of upd_same) (strs_dpAll (xs := [n])), shaped_strs h2, shaped_strs (xs := [n]) (fun y m => by rw [List.mem_singleton.mp m]; exact hn), ?_⟩
      rw [show ([n].map PyData.str) = [PyData.str n] from rfl, eqv_one ys n h1]
      have g := h4.trans (Fr.new (E := []) (o := .lst (ys.map V.str)) h4.2 h3)
      exact h5 _ (g.trans (Fr.new g.2 h6))
    rcases hk with rfl | rfl | rfl | rfl | rfl
    · refine ⟨_, rfl, rfl, _, rfl, iteD rfl ?_⟩
      refine ⟨_, rfl, a, _, dx, _, _, rfl, e, T.c_Way, T.n_Way_sender, rfl, _, rfl, rfl, ?_⟩
      have := k H (Fr.refl tb)
      have e2 : decide (V.str L.snd = V.str n) = (L.snd == n) := by
        rw [Bool.eq_iff_iff, decide_eq_true_iff, beq_iff_eq]
        exact ⟨fun z => by injection z, fun z => by rw [z]⟩
      show Q (.bl (decide (V.str L.snd = V.str n))) H
      rw [e2]
      exact this
    · refine ⟨_, rfl, rfl, _, rfl, iteX (x := "has") (by decide +kernel) ?_⟩
      refine ⟨_, rfl, rfl, _, rfl, iteX (x := "has") (by decide +kernel) ?_⟩
      refine ⟨_, rfl, rfl, _, rfl, iteX (x := "has") (by decide +kernel) ?_⟩
      refine ⟨_, rfl, rfl, _, rfl, iteD rfl ?_⟩
      refine ⟨_, rfl, _, rfl, a, _, dx, _, _, rfl, e, T.c_Way, T.n_Way_words, rfl, W.wl, _, rfl, .inl (SqL.of hw.wl), rfl, by rw [List.all_map]; exact List.all_eq_true.mpr fun _ _ => rfl, ?_⟩
      show Q (.bl (inV (V.str n) (L.ws.map V.str))) H
      rw [inV_strs]
      exact k H (Fr.refl tb)
    · refine ⟨_, rfl, rfl, _, rfl, iteX (x := "first") (by decide +kernel) ?_⟩
      refine ⟨_, rfl, rfl, _, rfl, iteX (x := "first") (by decide +kernel) ?_⟩
      refine ⟨_, rfl, rfl, _, rfl, iteX (x := "first") (by decide +kernel) ?_⟩
      refine ⟨_, rfl, rfl, _, rfl, iteX (x := "first") (by decide +kernel) ?_⟩
      refine ⟨_, rfl, rfl, _, rfl, iteD rfl ?_⟩
      refine ⟨_, rfl, a, _, dx, _, _, rfl, e, T.c_Way, T.n_Way_words, rfl, 1, rfl, W.wl, _, rfl, SqL.of hw.wl, fun p np => ?_⟩
      rw [cut_first, ← List.map_take]
      refine ⟨_, rfl, by show 1 ≤ sizeLine; decide, slice p (L.ws.take 1) H (by rw [List.length_take]; omega) (fun y m => hl.ws y (List.mem_of_mem_take m)) np (Fr.refl tb) fun H' f => ?_⟩
      rw [List.head?_take, if_neg (by decide)]
      exact k H' f
    · refine ⟨_, rfl, rfl, _, rfl, iteX (x := "last") (by decide +kernel) ?_⟩
      refine ⟨_, rfl, rfl, _, rfl, iteX (x := "last") (by decide +kernel) ?_⟩
      refine ⟨_, rfl, rfl, _, rfl, iteX (x := "last") (by decide +kernel) ?_⟩
      refine ⟨_, rfl, rfl, _, rfl, iteX (x := "last") (by decide +kernel) ?_⟩
      refine ⟨_, rfl, rfl, _, rfl, iteX (x := "last") (by decide +kernel) ?_⟩
      refine ⟨_, rfl, rfl, _, rfl, iteD rfl ?_⟩
      refine ⟨_, rfl, a, _, dx, _, _, rfl, e, T.c_Way, T.n_Way_words, rfl, 1, rfl, -1, rfl, W.wl, _, rfl, SqL.of hw.wl, fun p np => ?_⟩
      rw [cut_last, ← List.map_drop, List.length_map]
      refine ⟨_, rfl, by show 1 ≤ sizeLine; decide, slice p (L.ws.drop (L.ws.length - 1)) H (by rw [List.length_drop]; omega) (fun y m => hl.ws y (List.mem_of_mem_drop m)) np (Fr.refl tb) fun H' f => ?_⟩
      rw [last_drop]
      exact k H' f
    · refine ⟨_, rfl, rfl, _, rfl, iteX (x := "marked") (by decide +kernel) ?_⟩
      refine ⟨_, rfl, rfl, _, rfl, iteX (x := "marked") (by decide +kernel) ?_⟩
      refine ⟨_, rfl, rfl, _, rfl, iteD rfl ?_⟩
      obtain ⟨kvs, hk1, hk2⟩ := hw.md
      refine ⟨_, rfl, _, rfl, a, _, dx, _, _, rfl, e, T.c_Way, T.n_Way_marks, rfl, W.md, _, rfl, DGet.k (k := Sum.inr n) hk1, ?_⟩
      rw [isSome_valV hk2]
      exact k H (Fr.refl tb)
  | _ => cases hf
end
end So
end

section
set_option Elab.async false
set_option linter.all false
set_option maxRecDepth 100000
set_option maxHeartbeats 4000000
namespace So
open PySem PySem.Spec PyProof.Rows L2 GxA TL
open GxR (TabB TabG Tabbed)
section
variable {P : Program} {w : World} {K : PySem.W.Frag} {mg : Str → Option Value} {base : Heap}
def spHolds (m : Nat) (K : PySem.W.Frag) : Sp := fun vs H Q _ => ∃ (a : Addr) (v : V) (c : Cnd) (W : WA) (L : Ltr) (S : WS) (Ws : List Str) (l : Nat), vs = [.ref a, v] ∧ WayAt K H a W L S ∧ LWf L ∧ Tr H v c.p ∧ c.wf Ws l ∧ c.hgt < m ∧ Tb K H ∧
  ∀ H', Fr K [] H H' → Q (.bl (c.ev L S.ms)) H'
theorem tr_fr {H H' : Hp} (f : Fr K [] H H') {v : V} {d : PyData} (h : Tr H v d) : Tr H' v d := f.tr (fun _ m => nomatch m) h
theorem holds_step (T : Txt w K mg base) {m n : Nat} (hH : FnR P w K mg base CX0 n (a_Way_holds K) (spHolds m K)) : FnR P w K mg base CX0 (n + 9) (a_Way_holds K) (spHolds (m + 1) K) := by
  refine mkRC (p := ("Way", some "holds")) rfl T.f_Way_holds sc_Way_holds bd_Way_holds ?_ ?_
  · rintro vs H Q E ⟨a, v, c, W, L, S, Ws, l, rfl, _⟩; rfl
  rintro A outer s H vs Q E hr ⟨a, v, c, W, L, S, Ws, l, rfl, hw, hl, hv, hc, hh, tb, k⟩
  obtain ⟨c', l', p1, p2, p3, hc, np, p4⟩ := unpar Ws c l hc
  rw [← p1] at hv
  rw [← p3] at hh
  rw [← p4] at k
  clear p1 p2 p3 p4
  generalize c' = c at *
  have nd := sc_Way_holds.nd
  refine ⟨_, pss_cons (ps_set (i := 2) nd rfl (.inl rfl) (pe_ix ix_tup (pv 1) pe_int (fun _ _ => rfl)))
    (pss_cons (ps_if (pt_cmpR op_eq (pv 2) pe_str (nomark _)) (pss_one (ps_ret (pe_not (pe_methR (pv 0) T.c_Way T.m_Way_holds hH (hr.mono (by omega)) pass0 (pa_cons (pe_ix ix_tup (pv 1) pe_int (fun _ _ => rfl)) pa_nil))))) pss_nil)
    (pss_cons (ps_if (pt_cmpR op_eq (pv 2) pe_str (nomark _)) (pss_one (ps_ret (pe_allG (own := [("part", 3)]) (g := gName 3) (hr : Room ((n + 7) + 1) _) (by rfl) T.z_all T.t_Way_holds rfl nd (pi_list (pe_ix ix_tup (pv 1) pe_int (fun _ _ => rfl))) (blkOk_by (own := [("part", 3)]) (N := N_Way_holds) (sc := defScope s_Way_holds) (by decide +kernel)) (by decide +kernel) rfl rfl
      (fun _ _ _ _ _ _ => pg_name (i := 3) nd rfl (Or.inl rfl)) (fun _ _ _ _ _ _ => pe_methR (pv 0) T.c_Way T.m_Way_holds hH ((hr.in1.in1.deeper _).mono (by omega)) pass0 (pa_cons (pv 3) pa_nil))))) pss_nil)
    (pss_cons (ps_if (pt_cmpR op_eq (pv 2) pe_str (nomark _)) (pss_one (ps_ret (pe_anyG (own := [("part", 3)]) (g := gName 3) (hr : Room ((n + 7) + 1) _) (by rfl) T.z_any T.t_Way_holds rfl nd (pi_list (pe_ix ix_tup (pv 1) pe_int (fun _ _ => rfl))) (blkOk_by (own := [("part", 3)]) (N := N_Way_holds) (sc := defScope s_Way_holds) (by decide +kernel)) (by decide +kernel) rfl rfl
      (fun _ _ _ _ _ _ => pg_name (i := 3) nd rfl (Or.inl rfl)) (fun _ _ _ _ _ _ => pe_methR (pv 0) T.c_Way T.m_Way_holds hH ((hr.in1.in1.deeper _).mono (by omega)) pass0 (pa_cons (pv 3) pa_nil))))) pss_nil)
    (pss_cons (ps_if (pt_cmpR op_eq (pv 2) pe_str (nomark _)) (pss_one (ps_ret pe_bl)) pss_nil)
    (pss_one (ps_ret (pe_methR (pv 0) T.c_Way T.m_Way_fact_holds (R_fact_holds T) (hr.mono (by omega)) pass0 (pa_cons (pv 2) (pa_cons (pe_ix ix_tup (pv 1) pe_int (fun _ _ => rfl)) (pa_cons (pv 1) pa_nil)))))))))), ?_⟩
  obtain ⟨dx, e⟩ := hw.ob
  have gen : ∀ (b : Bool) (t lst : Addr) (x : Str) (ps : List Cnd) (xs : List V), v = .ref t → H t = some (.tup [.str x, .ref lst]) → H lst = some (.lst xs) → TrAll H xs (ps.map Cnd.p) → (∀ p ∈ ps, (∃ l, p.wf Ws l) ∧ p.hgt < m) →
      ((∀ p ∈ ps, p.ev L S.ms = b) → c.ev L S.ms = b) → ((∃ p ∈ ps, p.ev L S.ms = !b) → c.ev L S.ms = !b) →
      tGenC b (tb_Way_holds K) (iList K (tOp (rIxT K) (tVar 1) (tC (.int 1)))) (gName 3) (tMethR (C_Way K) "holds" (spHolds m K) E0 (tVar 0) (tCons (tVar 3) tNil)) [3] [some (V.ref a), some v, some (.str x), none] H Q := by
    intro b t lst x ps xs e1 e2 e3 e4 e5 e6 e7
    subst e1
    have hlen : xs.length = ps.length := by rw [e4.len, List.length_map]
    refine ⟨_, rfl, t, _, _, .ref lst, rfl, rfl, .inl (.inl e2), rfl, lst, rfl, ⟨_, SqL.of e3⟩, tb _ mtW, fun H2 t2 => ?_⟩
    have f2 : Fr K [] H H2 := Fr.tab tb t2 mtW
    refine g_list (xs := xs) (fun i H' => Fr K [] H2 H' ∧ ∀ j, j < i → ∀ p, ps[j]? = some p → p.ev L S.ms = b) ⟨Fr.refl f2.2, fun j h => by omega⟩ (fun i H' _ ⟨f, _⟩ => SqL.of (f.at (f2.at e3))) (fun i y H' hy ⟨f, hj⟩ => ?_) (fun H' ⟨f, hj⟩ => ?_)
    · obtain ⟨p, hp⟩ : ∃ p, ps[i]? = some p := by
        have : i < ps.length := by rw [← hlen]; exact (List.getElem?_eq_some_iff.mp hy).1
        exact ⟨_, List.getElem?_eq_getElem this⟩
      have hm := List.mem_of_getElem? hp
      obtain ⟨⟨l2, hl2⟩, hh2⟩ := e5 p hm
      have ht : Tr H y p.p := e4.at i y p.p hy (by rw [List.getElem?_map, hp]; rfl)
      have F := f2.trans f
      refine ⟨rfl, _, rfl, a, dx, _, rfl, F.at e, rfl, _, rfl, a, y, p, W, L, S, Ws, l2, rfl, hw.fr F, hl, tr_fr F ht, hl2, hh2, F.2, fun H3 f3 => ?_⟩
      refine ⟨p.ev L S.ms, rfl, ?_⟩
      by_cases q : p.ev L S.ms = b
      · rw [if_pos q]
        refine ⟨f.trans f3, fun j hj2 p' hp' => ?_⟩
        by_cases z : j = i
        · subst z
          rw [hp] at hp'
          cases hp'
          exact q
        · exact hj j (by omega) p' hp'
      · rw [if_neg q]
        have := k H3 (F.trans f3)
        rw [e7 ⟨p, hm, bne_not q⟩] at this
        exact this
    · have := k H' (f2.trans f)
      rw [e6 fun p hp => ?_] at this
      · exact this
      · obtain ⟨j, hj2⟩ := List.mem_iff_getElem?.mp hp
        have : j < ps.length := (List.getElem?_eq_some_iff.mp hj2).1
        exact hj j (by omega) p hj2
  cases c with
  | any =>
    obtain ⟨b, xs, rfl, hb, hx⟩ := tr_tup hv
    cases hx with
    | cons a1 a2 =>
      cases a2
      rw [tr_str a1] at hb
      refine ⟨_, rfl, b, _, _, _, rfl, rfl, .inl (.inl hb), rfl, ?_⟩
      refine ⟨_, rfl, rfl, _, rfl, iteX (x := "any") (by decide +kernel) ?_⟩
      refine ⟨_, rfl, rfl, _, rfl, iteX (x := "any") (by decide +kernel) ?_⟩
      refine ⟨_, rfl, rfl, _, rfl, iteX (x := "any") (by decide +kernel) ?_⟩
      refine ⟨_, rfl, rfl, _, rfl, iteD rfl ?_⟩
      exact k H (Fr.refl tb)
  | over nn =>
    have hv0 := hv
    obtain ⟨b, xs, rfl, hb, hx⟩ := tr_tup hv
    cases hx with
    | cons a1 a2 =>
      cases a2 with
      | cons a2 a3 =>
      cases a3
      rw [tr_str a1, tr_int a2] at hb
      refine ⟨_, rfl, b, _, _, .str "over", rfl, rfl, .inl (.inl hb), rfl, ?_⟩
      refine ⟨_, rfl, rfl, _, rfl, iteX (x := "over") (by decide +kernel) ?_⟩
      refine ⟨_, rfl, rfl, _, rfl, iteX (x := "over") (by decide +kernel) ?_⟩
      refine ⟨_, rfl, rfl, _, rfl, iteX (x := "over") (by decide +kernel) ?_⟩
      refine ⟨_, rfl, rfl, _, rfl, iteX (x := "over") (by decide +kernel) ?_⟩
      exact ⟨_, rfl, a, dx, _, rfl, e, rfl, _, rfl, _, rfl, b, _, _, .int nn, rfl, rfl, .inl (.inl hb), rfl, _, rfl, a, .ref b, .over nn, W, L, S, Ws, l', rfl, hw, hl, hv0, rfl, hc, tb, k⟩
  | pair x y =>
    have hv0 := hv
    obtain ⟨b, xs, rfl, hb, hx⟩ := tr_tup hv
    have hx := trAll_strs (xs := ["pair", x, y]) hx
    subst hx
    refine ⟨_, rfl, b, _, _, .str "pair", rfl, rfl, .inl (.inl hb), rfl, ?_⟩
    refine ⟨_, rfl, rfl, _, rfl, iteX (x := "pair") (by decide +kernel) ?_⟩
    refine ⟨_, rfl, rfl, _, rfl, iteX (x := "pair") (by decide +kernel) ?_⟩
    refine ⟨_, rfl, rfl, _, rfl, iteX (x := "pair") (by decide +kernel) ?_⟩
    refine ⟨_, rfl, rfl, _, rfl, iteX (x := "pair") (by decide +kernel) ?_⟩
    exact ⟨_, rfl, a, dx, _, rfl, e, rfl, _, rfl, _, rfl, b, _, _, .str x, rfl, rfl, .inl (.inl hb), rfl, _, rfl, a, .ref b, .pair x y, W, L, S, Ws, l', rfl, hw, hl, hv0, rfl, hc, tb, k⟩
  | fact x y =>
    have hv0 := hv
    obtain ⟨b, xs, rfl, hb, hx⟩ := tr_tup hv
    have hx := trAll_strs (xs := [x, y]) hx
    subst hx
    obtain ⟨h1, h2, h3, h4⟩ := ne_kind2 hc.1
    refine ⟨_, rfl, b, _, _, .str x, rfl, rfl, .inl (.inl hb), rfl, ?_⟩
    refine ⟨_, rfl, rfl, _, rfl, iteX (x := x) h1 ?_⟩
    refine ⟨_, rfl, rfl, _, rfl, iteX (x := x) h2 ?_⟩
    refine ⟨_, rfl, rfl, _, rfl, iteX (x := x) h3 ?_⟩
    refine ⟨_, rfl, rfl, _, rfl, iteX (x := x) h4 ?_⟩
    exact ⟨_, rfl, a, dx, _, rfl, e, rfl, _, rfl, _, rfl, b, _, _, .str y, rfl, rfl, .inl (.inl hb), rfl, _, rfl, a, .ref b, .fact x y, W, L, S, Ws, l', rfl, hw, hl, hv0, rfl, hc, tb, k⟩
  | neg c =>
    obtain ⟨b, xs, rfl, hb, hx⟩ := tr_tup hv
    cases hx with
    | cons a1 a2 =>
      cases a2 with
      | cons a2 a3 =>
      cases a3
      rw [tr_str a1] at hb
      refine ⟨_, rfl, b, _, _, _, rfl, rfl, .inl (.inl hb), rfl, ?_⟩
      refine ⟨_, rfl, rfl, _, rfl, iteD rfl ?_⟩
      refine ⟨_, rfl, a, dx, _, rfl, e, rfl, _, rfl, b, _, _, _, rfl, rfl, .inl (.inl hb), rfl, a, _, c, W, L, S, Ws, 0, rfl, hw, hl, a2, hc, Nat.lt_of_succ_lt_succ hh, tb, fun H' f => ⟨_, rfl, k H' f⟩⟩
  | par c => cases np
  | and2 x y =>
    obtain ⟨b, xs, rfl, hb, hx⟩ := tr_tup hv
    cases hx with
    | cons a1 a2 =>
      cases a2 with
      | cons a2 a3 =>
      cases a3
      rw [tr_str a1] at hb
      obtain ⟨lst, ys, rfl, hls, ht⟩ := tr_lst a2
      refine ⟨_, rfl, b, _, _, _, rfl, rfl, .inl (.inl hb), rfl, ?_⟩
      refine ⟨_, rfl, rfl, _, rfl, iteX (x := "and") (by decide +kernel) ?_⟩
      refine ⟨_, rfl, rfl, _, rfl, iteD rfl ?_⟩
      refine gen true b lst "and" [x, y] ys rfl hb hls ht ?_ ?_ ?_
      · intro p hp
        simp only [List.mem_cons, List.not_mem_nil, or_false] at hp
        simp only [Cnd.hgt] at hh
        rcases hp with rfl | rfl
        · exact ⟨⟨_, hc.2.1⟩, by omega⟩
        · exact ⟨⟨_, hc.2.2⟩, by omega⟩
      · intro h
        simp only [List.mem_cons, List.not_mem_nil, or_false, forall_eq_or_imp, forall_eq] at h
        simp [Cnd.ev, h]
      · rintro ⟨p, hp, e2⟩
        simp only [List.mem_cons, List.not_mem_nil, or_false] at hp
        rcases hp with rfl | rfl <;> simp only [Bool.not_true, Bool.not_false] at e2 ⊢ <;> simp [Cnd.ev, e2]
  | and3 x y z =>
    obtain ⟨b, xs, rfl, hb, hx⟩ := tr_tup hv
    cases hx with
    | cons a1 a2 =>
      cases a2 with
      | cons a2 a3 =>
      cases a3
      rw [tr_str a1] at hb
      obtain ⟨lst, ys, rfl, hls, ht⟩ := tr_lst a2
      refine ⟨_, rfl, b, _, _, _, rfl, rfl, .inl (.inl hb), rfl, ?_⟩
      refine ⟨_, rfl, rfl, _, rfl, iteX (x := "and") (by decide +kernel) ?_⟩
      refine ⟨_, rfl, rfl, _, rfl, iteD rfl ?_⟩
      refine gen true b lst "and" [x, y, z] ys rfl hb hls ht ?_ ?_ ?_
      · intro p hp
        simp only [List.mem_cons, List.not_mem_nil, or_false] at hp
        simp only [Cnd.hgt] at hh
        rcases hp with rfl | rfl | rfl
        · exact ⟨⟨_, hc.2.1⟩, by omega⟩
        · exact ⟨⟨_, hc.2.2.1⟩, by omega⟩
        · exact ⟨⟨_, hc.2.2.2⟩, by omega⟩
      · intro h
        simp only [List.mem_cons, List.not_mem_nil, or_false, forall_eq_or_imp, forall_eq] at h
        simp [Cnd.ev, h]
      · rintro ⟨p, hp, e2⟩
        simp only [List.mem_cons, List.not_mem_nil, or_false] at hp
        rcases hp with rfl | rfl | rfl <;> simp only [Bool.not_true, Bool.not_false] at e2 ⊢ <;> simp [Cnd.ev, e2]
  | or2 x y =>
    obtain ⟨b, xs, rfl, hb, hx⟩ := tr_tup hv
    cases hx with
    | cons a1 a2 =>
      cases a2 with
      | cons a2 a3 =>
      cases a3
      rw [tr_str a1] at hb
      obtain ⟨lst, ys, rfl, hls, ht⟩ := tr_lst a2
      refine ⟨_, rfl, b, _, _, _, rfl, rfl, .inl (.inl hb), rfl, ?_⟩
      refine ⟨_, rfl, rfl, _, rfl, iteX (x := "or") (by decide +kernel) ?_⟩
      refine ⟨_, rfl, rfl, _, rfl, iteX (x := "or") (by decide +kernel) ?_⟩
      refine ⟨_, rfl, rfl, _, rfl, iteD rfl ?_⟩
      refine gen false b lst "or" [x, y] ys rfl hb hls ht ?_ ?_ ?_
      · intro p hp
        simp only [List.mem_cons, List.not_mem_nil, or_false] at hp
        simp only [Cnd.hgt] at hh
        rcases hp with rfl | rfl
        · exact ⟨⟨_, hc.2.1⟩, by omega⟩
        · exact ⟨⟨_, hc.2.2⟩, by omega⟩
      · intro h
        simp only [List.mem_cons, List.not_mem_nil, or_false, forall_eq_or_imp, forall_eq] at h
        simp [Cnd.ev, h]
      · rintro ⟨p, hp, e2⟩
        simp only [List.mem_cons, List.not_mem_nil, or_false] at hp
        rcases hp with rfl | rfl <;> simp only [Bool.not_true, Bool.not_false] at e2 ⊢ <;> simp [Cnd.ev, e2]
theorem R_holds (T : Txt w K mg base) : ∀ m : Nat, FnR P w K mg base CX0 (9 * m) (a_Way_holds K) (spHolds m K)
  | 0 => fnr_false fun vs H Q E ⟨_, _, _, _, _, _, _, _, _, _, _, _, _, h, _⟩ => absurd h (Nat.not_lt_zero _)
  | m + 1 => holds_step T (R_holds T m)
end
end So
end

section
set_option Elab.async false
set_option linter.all false
set_option maxRecDepth 100000
set_option maxHeartbeats 4000000
namespace So
open PySem PySem.Spec PyProof.Rows L2 GxA TL
open GxR (TabB TabG Tabbed)
/-! ### deeds done -/
def addN (ns : List Str) (n : Str) : List Str := if n ∈ ns then ns else ns ++ [n]
def stepD (S : WS) (d : Deed) : WS :=
  if d.1 = "mark" then { S with ms := addN S.ms d.2 } else if d.1 = "unmark" then { S with ms := S.ms.filter fun x => decide (x ≠ d.2) } else if d.1 = "file" then { S with fs := addN S.fs d.2 } else { S with rs := addN S.rs d.2 }
def runD : List Deed → WS → WS
  | [], S => S
  | d :: ds, S => if d.1 = "stop" then { S with st := true } else runD ds (stepD S d)
structure SzOk (S : WS) (n : Nat) : Prop where
  ms : S.ms.length ≤ n
  fs : S.fs.length ≤ n
  rs : S.rs.length ≤ n
  acts : S.acts.length ≤ n
theorem addN_len (ns : List Str) (n : Str) : (addN ns n).length ≤ ns.length + 1 := by
  unfold addN
  split
  · omega
  · simp
theorem SzOk.step {S : WS} {n : Nat} (h : SzOk S n) (d : Deed) : SzOk (stepD S d) (n + 1) := by
  have h1 := h.ms; have h2 := h.fs; have h3 := h.rs; have h4 := h.acts
  unfold stepD
  split
  · exact ⟨Nat.le_trans (addN_len _ _) (by omega), by show S.fs.length ≤ _; omega, by show S.rs.length ≤ _; omega, by show S.acts.length ≤ _; omega⟩
  split
  · exact ⟨Nat.le_trans (List.length_filter_le _ _) (by omega), by show S.fs.length ≤ _; omega, by show S.rs.length ≤ _; omega, by show S.acts.length ≤ _; omega⟩
  split
  · exact ⟨by show S.ms.length ≤ _; omega, Nat.le_trans (addN_len _ _) (by omega), by show S.rs.length ≤ _; omega, by show S.acts.length ≤ _; omega⟩
  · exact ⟨by show S.ms.length ≤ _; omega, by show S.fs.length ≤ _; omega, Nat.le_trans (addN_len _ _) (by omega), by show S.acts.length ≤ _; omega⟩
/-- the lists and tuples of a heap -/
def Sq (H : Hp) : Hp := fun p => match H p with
  | some o => if seqO o = true then some o else none
  | none => none
theorem Sq.iff {H : Hp} {p : Addr} {o : HO} : Sq H p = some o ↔ H p = some o ∧ seqO o = true := by
  unfold Sq
  constructor
  · intro h
    split at h
    · rename_i u e
      split at h
      · rename_i z
        cases h
        exact ⟨e, z⟩
      · cases h
    · cases h
  · rintro ⟨h1, h2⟩
    rw [h1]
    show (if seqO o = true then some o else none) = some o
    rw [if_pos h2]
theorem Tr.sq {H : Hp} {v : V} {d : PyData} (h : Tr H v d) : Tr (Sq H) v d := by
  induction h with
  | non => exact .non
  | bl b => exact .bl b
  | int i => exact .int i
  | str x => exact .str x
  | lst e hl _ ih => exact .lst (Sq.iff.mpr ⟨e, rfl⟩) hl ih
  | tup e hl _ ih => exact .tup (Sq.iff.mpr ⟨e, rfl⟩) hl ih
section
variable {P : Program} {w : World} {K : PySem.W.Frag} {mg : Str → Option Value} {base : Heap}
theorem keys_add {kvs : List (Key × V)} {ns : List Str} {n : Str} {v : V} (h : kvs.map (·.1) = ns.map Sum.inr) : (putK kvs (Sum.inr n) v).map (·.1) = (addN ns n).map Sum.inr := by
  rw [keys_putK, h]
  have e : (Sum.inr n : Key) ∈ ns.map Sum.inr ↔ n ∈ ns := by
    constructor
    · intro m
      obtain ⟨x, hx, e⟩ := List.mem_map.mp m
      injection e with e
      rw [← e]; exact hx
    · intro m; exact List.mem_map.mpr ⟨n, m, rfl⟩
  unfold addN
  by_cases h : n ∈ ns
  · rw [if_pos h, if_pos (e.mpr h)]
  · rw [if_neg h, if_neg (fun z => h (e.mp z)), List.map_append]; rfl
theorem keys_drop {kvs : List (Key × V)} {ns : List Str} {n : Str} (h : kvs.map (·.1) = ns.map Sum.inr) : (dropK kvs (Sum.inr n)).map (·.1) = (ns.filter fun x => decide (x ≠ n)).map Sum.inr := by
  unfold dropK
  induction kvs generalizing ns with
  | nil =>
    cases ns with
    | nil => rfl
    | cons x ns => cases h
  | cons p kvs ih =>
    cases ns with
    | nil => cases h
    | cons x ns =>
      injection h with h1 h2
      have h1 : p.1 = Sum.inr x := h1
      have e : decide (p.1 ≠ Sum.inr n) = decide (x ≠ n) := by
        rw [h1, Bool.eq_iff_iff, decide_eq_true_iff, decide_eq_true_iff]
        exact ⟨fun z q => z (by rw [q]), fun z q => z (by injection q)⟩
      rw [List.filter_cons, List.filter_cons, e]
      split
      · rw [List.map_cons, List.map_cons, ih h2]
        exact congrArg (· :: _) h1
      · exact ih h2
def spAct (K : PySem.W.Frag) : Sp := fun vs H Q _ => ∃ (a : Addr) (i : Nat) (dl : V) (ds : List Deed) (W : WA) (L : Ltr) (S : WS) (G : Hp) (n : Nat), vs = [.ref a, .int i, dl] ∧ WayAt K H a W L S ∧ Tr G dl (.list (ds.map dP)) ∧ Same G H ∧ (∀ p o, G p = some o → seqO o = true) ∧ G W.al = none ∧ (∀ d ∈ ds, dWf d) ∧
  SzOk S n ∧ n + ds.length ≤ 1000 ∧ Tb K H ∧ ∀ H', Fr K (W.ex a) H H' → WayAt K H' a W L (runD ds { S with acts := S.acts ++ [i] }) → Q .non H'
theorem WayAt.mem {H : Hp} {a : Addr} {W : WA} {L : Ltr} {S : WS} (h : WayAt K H a W L S) : (∀ x ∈ [a, W.md, W.fd, W.rd], ∀ o, H x = some o → seqO o = false) ∧ H W.wl ≠ none := by
  obtain ⟨dx, e⟩ := h.ob
  obtain ⟨k1, m1, _⟩ := h.md
  obtain ⟨k2, m2, _⟩ := h.fd
  obtain ⟨k3, m3, _⟩ := h.rd
  refine ⟨fun x m o ho => ?_, by rw [h.wl]; intro z; cases z⟩
  simp only [List.mem_cons, List.not_mem_nil, or_false] at m
  rcases m with rfl | rfl | rfl | rfl
  · rw [e] at ho; cases ho; rfl
  · rw [m1] at ho; cases ho; rfl
  · rw [m2] at ho; cases ho; rfl
  · rw [m3] at ho; cases ho; rfl
theorem same_upd {G H : Hp} {x : Addr} {o : HO} (s : Same G H) (n : G x = none) : Same G (L2.upd H x o) := fun p u e => by
  rw [upd_ne (fun z => by rw [z, n] at e; cases e)]
  exact s p u e
theorem g_none {G H : Hp} {x : Addr} (s : Same G H) (g : ∀ p o, G p = some o → seqO o = true) (h : ∀ o, H x = some o → seqO o = false) : G x = none := by
  cases e : G x with
  | none => rfl
  | some o =>
    have h1 := g x o e
    rw [h o (s x o e)] at h1
    cases h1
theorem WayAt.putM {H : Hp} {a : Addr} {W : WA} {L : Ltr} {S : WS} (h : WayAt K H a W L S) (kvs : List (Key × V)) (ns : List Str) (e : kvs.map (·.1) = ns.map Sum.inr) : WayAt K (L2.upd H W.md (.dK kvs)) a W L { S with ms := ns } := by
  obtain ⟨dx, e0⟩ := h.ob
  obtain ⟨k1, m1, _⟩ := h.md
  obtain ⟨k2, m2, q2⟩ := h.fd
  obtain ⟨k3, m3, q3⟩ := h.rd
  exact ⟨⟨dx, by rw [upd_ne (ne_of e0 m1 (by intro z; cases z))]; exact e0⟩, by rw [upd_ne (ne_of h.wl m1 (by intro z; cases z))]; exact h.wl, ⟨kvs, upd_same, e⟩, ⟨k2, by rw [upd_ne h.n1.symm]; exact m2, q2⟩, ⟨k3, by rw [upd_ne h.n2.symm]; exact m3, q3⟩, by rw [upd_ne (ne_of h.al m1 (by intro z; cases z))]; exact h.al, h.n1, h.n2, h.n3, h.n4⟩
theorem WayAt.putF {H : Hp} {a : Addr} {W : WA} {L : Ltr} {S : WS} (h : WayAt K H a W L S) (kvs : List (Key × V)) (ns : List Str) (e : kvs.map (·.1) = ns.map Sum.inr) : WayAt K (L2.upd H W.fd (.dK kvs)) a W L { S with fs := ns } := by
  obtain ⟨dx, e0⟩ := h.ob
  obtain ⟨k1, m1, q1⟩ := h.md
  obtain ⟨k2, m2, q2⟩ := h.fd
  obtain ⟨k3, m3, q3⟩ := h.rd
  exact ⟨⟨dx, by rw [upd_ne (ne_of e0 m2 (by intro z; cases z))]; exact e0⟩, by rw [upd_ne (ne_of h.wl m2 (by intro z; cases z))]; exact h.wl, ⟨k1, by rw [upd_ne h.n1]; exact m1, q1⟩, ⟨kvs, upd_same, e⟩, ⟨k3, by rw [upd_ne h.n3.symm]; exact m3, q3⟩, by rw [upd_ne (ne_of h.al m2 (by intro z; cases z))]; exact h.al, h.n1, h.n2, h.n3, h.n4⟩
theorem WayAt.putR {H : Hp} {a : Addr} {W : WA} {L : Ltr} {S : WS} (h : WayAt K H a W L S) (kvs : List (Key × V)) (ns : List Str) (e : kvs.map (·.1) = ns.map Sum.inr) : WayAt K (L2.upd H W.rd (.dK kvs)) a W L { S with rs := ns } := by
  obtain ⟨dx, e0⟩ := h.ob
  obtain ⟨k1, m1, q1⟩ := h.md
  obtain ⟨k2, m2, q2⟩ := h.fd
  obtain ⟨k3, m3, q3⟩ := h.rd
  exact ⟨⟨dx, by rw [upd_ne (ne_of e0 m3 (by intro z; cases z))]; exact e0⟩, by rw [upd_ne (ne_of h.wl m3 (by intro z; cases z))]; exact h.wl, ⟨k1, by rw [upd_ne h.n2]; exact m1, q1⟩, ⟨k2, by rw [upd_ne h.n3]; exact m2, q2⟩, ⟨kvs, upd_same, e⟩, by rw [upd_ne (ne_of h.al m3 (by intro z; cases z))]; exact h.al, h.n1, h.n2, h.n3, h.n4⟩
theorem WayAt.putA {H : Hp} {a : Addr} {W : WA} {L : Ltr} {S : WS} (h : WayAt K H a W L S) (i : Nat) : WayAt K (L2.upd H W.al (.lst ((S.acts.map fun (n : Nat) => V.int (n : Int)) ++ [.int i]))) a W L { S with acts := S.acts ++ [i] } := by
  obtain ⟨dx, e0⟩ := h.ob
  obtain ⟨k1, m1, q1⟩ := h.md
  obtain ⟨k2, m2, q2⟩ := h.fd
  obtain ⟨k3, m3, q3⟩ := h.rd
  have al := h.al
  exact ⟨⟨dx, by rw [upd_ne (ne_of e0 al (by intro z; cases z))]; exact e0⟩, by rw [upd_ne h.n4]; exact h.wl, ⟨k1, by rw [upd_ne (ne_of m1 al (by intro z; cases z))]; exact m1, q1⟩, ⟨k2, by rw [upd_ne (ne_of m2 al (by intro z; cases z))]; exact m2, q2⟩, ⟨k3, by rw [upd_ne (ne_of m3 al (by intro z; cases z))]; exact m3, q3⟩, by rw [upd_same, List.map_append]; rfl, h.n1, h.n2, h.n3, h.n4⟩
theorem WayAt.putS {H : Hp} {a : Addr} {W : WA} {L : Ltr} {S : WS} (h : WayAt K H a W L S) {dx : Addr} (e0 : H a = some (.ins (C_Way K) dx (wfs L W S.st))) : WayAt K (L2.upd H a (.ins (C_Way K) dx (wfs L W true))) a W L { S with st := true } := by
  obtain ⟨k1, m1, q1⟩ := h.md
  obtain ⟨k2, m2, q2⟩ := h.fd
  obtain ⟨k3, m3, q3⟩ := h.rd
  have al := h.al
  exact ⟨⟨dx, upd_same⟩, by rw [upd_ne (ne_of h.wl e0 (by intro z; cases z))]; exact h.wl, ⟨k1, by rw [upd_ne (ne_of m1 e0 (by intro z; cases z))]; exact m1, q1⟩, ⟨k2, by rw [upd_ne (ne_of m2 e0 (by intro z; cases z))]; exact m2, q2⟩, ⟨k3, by rw [upd_ne (ne_of m3 e0 (by intro z; cases z))]; exact m3, q3⟩, by rw [upd_ne (ne_of al e0 (by intro z; cases z))]; exact al, h.n1, h.n2, h.n3, h.n4⟩
end
end So
end

section
set_option Elab.async false
set_option linter.all false
set_option maxRecDepth 100000
set_option maxHeartbeats 4000000
namespace So
open PySem PySem.Spec PyProof.Rows L2 GxA TL
open GxR (TabB TabG Tabbed)
section
variable {P : Program} {w : World} {K : PySem.W.Frag} {mg : Str → Option Value} {base : Heap}
theorem step_mark {S : WS} {n : Str} : stepD S ("mark", n) = { S with ms := addN S.ms n } := by unfold stepD; exact if_pos rfl
theorem step_unmark {S : WS} {n : Str} : stepD S ("unmark", n) = { S with ms := S.ms.filter fun x => decide (x ≠ n) } := by
  unfold stepD
  rw [if_neg (by decide +kernel : ¬ (("unmark" : Str) = "mark")), if_pos rfl]
theorem step_file {S : WS} {n : Str} : stepD S ("file", n) = { S with fs := addN S.fs n } := by
  unfold stepD
  rw [if_neg (by decide +kernel : ¬ (("file" : Str) = "mark")), if_neg (by decide +kernel : ¬ (("file" : Str) = "unmark")), if_pos rfl]
theorem step_pass {S : WS} {n : Str} : stepD S ("pass", n) = { S with rs := addN S.rs n } := by
  unfold stepD
  rw [if_neg (by decide +kernel : ¬ (("pass" : Str) = "mark")), if_neg (by decide +kernel : ¬ (("pass" : Str) = "unmark")), if_neg (by decide +kernel : ¬ (("pass" : Str) = "file"))]
theorem R_act (T : Txt w K mg base) : FnR P w K mg base CX0 2 (a_Way_act K) (spAct K) := by
  refine mkR T.f_Way_act sc_Way_act bd_Way_act ?_ ?_
  · rintro vs H Q E ⟨a, i, dl, ds, W, L, S, G, n, rfl, _⟩; rfl
  rintro cdv A outer s H vs Q E hr ⟨a, i, dl, ds, W, L, S, G, n, rfl, hw, hd, sG, gq, gal, hdw, sz, hn, tb, k⟩
  have nd := sc_Way_act.nd
  refine ⟨_, PSs.nox <| pss_cons (ps_expr (pe_bm PySem.F.plainAttrs_list PySem.F.slot_list_append PySem.F.type_list_append mt_append (pe_fld (pv 0) rfl) (pa_cons (pv 1) pa_nil)))
    (pss_one (ps_for PassesOwn.never rfl (pi_list (pv 2)) (pg_tup rfl (pgs_cons (pg_name (i := 3) nd rfl (.inl rfl)) (pgs_cons (pg_name (i := 4) nd rfl (.inl rfl)) pgs_nil)))
      (pss_one (ps_if (pt_cmpR op_eq (pv 3) pe_str (nomark _)) (pss_one (ps_dput (hu_of hr) (pe_fld (pv 0) rfl) (pv 4) pe_bl rfl))
        (pss_one (ps_if (pt_cmpR op_eq (pv 3) pe_str (nomark _)) (pss_one (ps_expr (pe_dpop2 (pe_fld (pv 0) rfl) (pv 4) pe_non ⟨by rfl, by rfl, by rfl, by rfl⟩)))
          (pss_one (ps_if (pt_cmpR op_eq (pv 3) pe_str (nomark _)) (pss_one (ps_dput (hu_of hr) (pe_fld (pv 0) rfl) (pv 4) pe_bl rfl))
            (pss_one (ps_if (pt_cmpR op_eq (pv 3) pe_str (nomark _)) (pss_one (ps_dput (hu_of hr) (pe_fld (pv 0) rfl) (pv 4) pe_bl rfl))
              (pss_cons (ps_fld (pv 0) pe_bl rfl) (pss_one ps_retN)))))))))))), ?_⟩
  obtain ⟨dx, e⟩ := hw.ob
  obtain ⟨lst, xs, rfl, hG, hx⟩ := tr_lst hd
  obtain ⟨hm, _⟩ := hw.mem
  have gE : ∀ x ∈ W.ex a, G x = none := fun x m => by
    have m : x = a ∨ x = W.md ∨ x = W.fd ∨ x = W.rd ∨ x = W.al := by simpa [WA.ex] using m
    rcases m with h | h | h | h | h
    · exact g_none sG gq (hm x (by rw [h]; simp))
    · exact g_none sG gq (hm x (by rw [h]; simp))
    · exact g_none sG gq (hm x (by rw [h]; simp))
    · exact g_none sG gq (hm x (by rw [h]; simp))
    · rw [h]; exact gal
  have sFr : ∀ {H1 : Hp}, Fr K (W.ex a) H H1 → Same G H1 := fun f p o e => f.1 p o (fun m => by rw [gE p m] at e; cases e) (sG p o e) (seq_nt (gq p o e))
  have s4 := sz.acts
  refine ⟨_, rfl, a, _, dx, _, _, rfl, e, T.c_Way, T.n_Way_acts, rfl, .inl ⟨rfl, _, SqL.of hw.al⟩, _, rfl, W.al, _, .int i, rfl, rfl, hw.al, by rw [List.length_map]; exact Nat.lt_of_le_of_lt (by omega : _ ≤ 1000) (by decide), ?_⟩
  have hw1 := hw.putA i
  have f1 : Fr K (W.ex a) H (L2.upd H W.al (.lst ((S.acts.map fun (n : Nat) => V.int (n : Int)) ++ [.int i]))) := Fr.put tb hw.al (by intro _ z; cases z) (by simp [WA.ex])
  have hlen : xs.length = ds.length := by rw [hx.len, List.length_map]
  refine ⟨_, rfl, lst, rfl, ⟨_, SqL.of (sFr f1 _ _ hG)⟩, ?_⟩
  refine for_list (xs := xs) (fun j σ H' => (∃ y1 y2, σ = [some (V.ref a), some (.int i), some (.ref lst), y1, y2]) ∧ Fr K (W.ex a) H H' ∧ ∃ Sc, WayAt K H' a W L Sc ∧ runD ds { S with acts := S.acts ++ [i] } = runD (ds.drop j) Sc ∧ SzOk Sc (n + 1 + j))
    ⟨⟨_, _, rfl⟩, f1, _, hw1, rfl, ⟨Nat.le_trans sz.ms (by omega), Nat.le_trans sz.fs (by omega), Nat.le_trans sz.rs (by omega), by show (S.acts ++ [i]).length ≤ _; rw [List.length_append]; simp; omega⟩⟩
    (fun j σ H' _ ⟨_, f, _⟩ => SqL.of (sFr f _ _ hG)) (fun j y σ H' hy ⟨⟨y1, y2, es⟩, f, Sc, hwc, hrun, hsz⟩ => ?_) (fun σ H' ⟨_, f, Sc, hwc, hrun, _⟩ => ?_)
  · subst es
    obtain ⟨d, hdj⟩ : ∃ d, ds[j]? = some d := by
      have : j < ds.length := by rw [← hlen]; exact (List.getElem?_eq_some_iff.mp hy).1
      exact ⟨_, List.getElem?_eq_getElem this⟩
    have hj : j < ds.length := (List.getElem?_eq_some_iff.mp hdj).1
    have hdr : ds.drop j = d :: ds.drop (j + 1) := by
      rw [List.drop_eq_getElem_cons hj]
      rw [List.getElem?_eq_getElem hj] at hdj
      rw [Option.some.inj hdj]
    have ht : Tr G y (dP d) := hx.at j y (dP d) hy (by rw [List.getElem?_map, hdj]; rfl)
    obtain ⟨b, zs, rfl, hb, hz⟩ := tr_tup ht
    have hz := trAll_strs (xs := [d.1, d.2]) hz
    subst hz
    have hb' := sFr f _ _ hb
    obtain ⟨dc, ec⟩ := hwc.ob
    have z1 := hsz.ms; have z2 := hsz.fs; have z3 := hsz.rs
    have lt : ∀ {kvs : List (Key × V)} {ns : List Str}, kvs.map (·.1) = ns.map Sum.inr → ns.length ≤ n + 1 + j → kvs.length < sizeLine := fun {kvs ns} h1 h2 => by
      have := congrArg List.length h1
      rw [List.length_map, List.length_map] at this
      exact Nat.lt_of_le_of_lt (by omega : _ ≤ 1001) (by decide)
    refine ⟨b, _, rfl, .inl (.inl hb'), rfl, _, _, rfl, _, _, rfl, rfl, ?_⟩
    have fin : d.1 ≠ "stop" → ∀ H'', Fr K (W.ex a) H H'' → WayAt K H'' a W L (stepD Sc d) → (∃ y1 y2, ([some (V.ref a), some (.int i), some (.ref lst), some (.str d.1), some (.str d.2)] : L2.St) = [some (V.ref a), some (.int i), some (.ref lst), y1, y2]) ∧ Fr K (W.ex a) H H'' ∧
        ∃ Sc, WayAt K H'' a W L Sc ∧ runD ds { S with acts := S.acts ++ [i] } = runD (ds.drop (j + 1)) Sc ∧ SzOk Sc (n + 1 + (j + 1)) := fun h1 H'' g1 g2 => by
      refine ⟨⟨_, _, rfl⟩, g1, _, g2, ?_, hsz.step d⟩
      rw [hrun, hdr]
      show (if d.1 = "stop" then _ else _) = _
      rw [if_neg h1]
    obtain ⟨dk, dn⟩ := d
    rcases hdw _ (List.mem_of_getElem? hdj) with hs | ⟨hk, hnm⟩
    · cases hs
      refine ⟨_, rfl, rfl, _, rfl, iteX (x := "stop") (by decide +kernel) ?_⟩
      refine ⟨_, rfl, rfl, _, rfl, iteX (x := "stop") (by decide +kernel) ?_⟩
      refine ⟨_, rfl, rfl, _, rfl, iteX (x := "stop") (by decide +kernel) ?_⟩
      refine ⟨_, rfl, rfl, _, rfl, iteX (x := "stop") (by decide +kernel) ?_⟩
      refine ⟨_, rfl, a, _, dc, _, rfl, ec, T.c_Way, T.n_Way_stopped, (by show 8 < 1000; decide), ?_⟩
      refine k _ (f.trans (Fr.put f.2 ec (by intro _ z; cases z) (by simp [WA.ex]))) ?_
      rw [hrun, hdr]
      show WayAt K _ a W L (if ("stop" : Str) = "stop" then { Sc with st := true } else _)
      rw [if_pos rfl]
      exact hwc.putS ec
    · simp only [kindsD, List.mem_cons, List.not_mem_nil, or_false] at hk
      rcases hk with hk | hk | hk | hk <;> (have hk : dk = _ := hk; subst hk)
      · refine ⟨_, rfl, rfl, _, rfl, iteD rfl ?_⟩
        obtain ⟨kvs, m1, m2⟩ := hwc.md
        refine ⟨_, rfl, a, _, dc, _, _, rfl, ec, T.c_Way, T.n_Way_marks, rfl, _, rfl, W.md, _, rfl, DPut.k (k := Sum.inr dn) m1 (lt m2 z1), ?_⟩
        refine fin (by decide +kernel : ("mark" : Str) ≠ "stop") _ (f.trans (Fr.put f.2 m1 (by intro _ z; cases z) (by simp [WA.ex]))) ?_
        rw [step_mark]
        exact hwc.putM _ _ (keys_add m2)
      · refine ⟨_, rfl, rfl, _, rfl, iteX (x := "unmark") (by decide +kernel) ?_⟩
        refine ⟨_, rfl, rfl, _, rfl, iteD rfl ?_⟩
        obtain ⟨kvs, m1, m2⟩ := hwc.md
        refine ⟨_, rfl, a, _, dc, _, _, rfl, ec, T.c_Way, T.n_Way_marks, rfl, W.md, rfl, .inl ⟨kvs, .inl m1⟩, _, rfl, kvs, Sum.inr dn, m1, rfl, fun v hv => ?_, fun hv => ?_⟩
        · refine fin (by decide +kernel : ("unmark" : Str) ≠ "stop") _ (f.trans (Fr.put f.2 m1 (by intro _ z; cases z) (by simp [WA.ex]))) ?_
          rw [step_unmark]
          exact hwc.putM _ _ (keys_drop m2)
        · refine fin (by decide +kernel : ("unmark" : Str) ≠ "stop") _ f ?_
          rw [step_unmark]
          have hni : dn ∉ Sc.ms := fun m => by
            have := isSome_valV (n := dn) m2
            rw [hv, List.contains_iff_mem.mpr m] at this
            cases this
          have e0 : Sc.ms.filter (fun x => decide (x ≠ dn)) = Sc.ms := List.filter_eq_self.mpr fun x m => decide_eq_true fun z => hni (by rw [← z]; exact m)
          rw [e0]
          exact hwc
      · refine ⟨_, rfl, rfl, _, rfl, iteX (x := "file") (by decide +kernel) ?_⟩
        refine ⟨_, rfl, rfl, _, rfl, iteX (x := "file") (by decide +kernel) ?_⟩
        refine ⟨_, rfl, rfl, _, rfl, iteD rfl ?_⟩
        obtain ⟨kvs, m1, m2⟩ := hwc.fd
        refine ⟨_, rfl, a, _, dc, _, _, rfl, ec, T.c_Way, T.n_Way_folders, rfl, _, rfl, W.fd, _, rfl, DPut.k (k := Sum.inr dn) m1 (lt m2 z2), ?_⟩
        refine fin (by decide +kernel : ("file" : Str) ≠ "stop") _ (f.trans (Fr.put f.2 m1 (by intro _ z; cases z) (by simp [WA.ex]))) ?_
        rw [step_file]
        exact hwc.putF _ _ (keys_add m2)
      · refine ⟨_, rfl, rfl, _, rfl, iteX (x := "pass") (by decide +kernel) ?_⟩
        refine ⟨_, rfl, rfl, _, rfl, iteX (x := "pass") (by decide +kernel) ?_⟩
        refine ⟨_, rfl, rfl, _, rfl, iteX (x := "pass") (by decide +kernel) ?_⟩
        refine ⟨_, rfl, rfl, _, rfl, iteD rfl ?_⟩
        obtain ⟨kvs, m1, m2⟩ := hwc.rd
        refine ⟨_, rfl, a, _, dc, _, _, rfl, ec, T.c_Way, T.n_Way_receivers, rfl, _, rfl, W.rd, _, rfl, DPut.k (k := Sum.inr dn) m1 (lt m2 z3), ?_⟩
        refine fin (by decide +kernel : ("pass" : Str) ≠ "stop") _ (f.trans (Fr.put f.2 m1 (by intro _ z; cases z) (by simp [WA.ex]))) ?_
        rw [step_pass]
        exact hwc.putR _ _ (keys_add m2)
  · rw [hlen, List.drop_length] at hrun
    refine k H' f ?_
    rw [hrun]
    exact hwc
end
end So
end

section
set_option Elab.async false
set_option linter.all false
set_option maxRecDepth 100000
set_option maxHeartbeats 4000000
namespace So
open PySem PySem.Spec PyProof.Rows L2 GxA TL
open GxR (TabB TabG Tabbed)
def S0 : WS := ⟨[], [], [], [], false⟩
/-- a letter's way through rules -/
def thru (L : Ltr) : Nat → List RuleD → WS → WS
  | _, [], S => S
  | i, r :: rs, S => if S.st = true then S else if r.1.ev L S.ms = true then thru L (i + 1) rs (runD r.2 { S with acts := S.acts ++ [i] }) else thru L (i + 1) rs S
structure SNm (S : WS) : Prop where
  ms : ∀ x ∈ S.ms, Nm x
  fs : ∀ x ∈ S.fs, Nm x
  rs : ∀ x ∈ S.rs, Nm x
theorem addN_nm {ns : List Str} {n : Str} (h : ∀ x ∈ ns, Nm x) (hn : Nm n) : ∀ x ∈ addN ns n, Nm x := by
  unfold addN
  split
  · exact h
  · intro x m
    rcases List.mem_append.mp m with m | m
    · exact h x m
    · rw [List.mem_singleton.mp m]; exact hn
theorem SNm.step {S : WS} (h : SNm S) {d : Deed} (hn : Nm d.2) : SNm (stepD S d) := by
  unfold stepD
  split
  · exact ⟨addN_nm h.ms hn, h.fs, h.rs⟩
  split
  · exact ⟨fun x m => h.ms x (List.mem_filter.mp m).1, h.fs, h.rs⟩
  split
  · exact ⟨h.ms, addN_nm h.fs hn, h.rs⟩
  · exact ⟨h.ms, h.fs, addN_nm h.rs hn⟩
theorem SNm.run : ∀ {ds : List Deed} {S : WS}, SNm S → (∀ d ∈ ds, dWf d) → SNm (runD ds S)
  | [], S, h, _ => h
  | d :: ds, S, h, hd => by
    show SNm (if d.1 = "stop" then _ else _)
    split
    · exact ⟨h.ms, h.fs, h.rs⟩
    · rename_i e
      refine SNm.run (h.step ?_) fun x m => hd x (List.mem_cons_of_mem _ m)
      rcases hd d List.mem_cons_self with z | z
      · rw [z] at e; exact absurd rfl e
      · exact z.2
theorem SzOk.run : ∀ {ds : List Deed} {S : WS} {n : Nat}, SzOk S n → SzOk (runD ds S) (n + ds.length)
  | [], S, n, h => h
  | d :: ds, S, n, h => by
    show SzOk (if d.1 = "stop" then _ else _) _
    split
    · exact ⟨Nat.le_trans h.ms (by omega), Nat.le_trans h.fs (by omega), Nat.le_trans h.rs (by omega), Nat.le_trans h.acts (by omega)⟩
    · have := SzOk.run (ds := ds) (h.step d)
      rw [List.length_cons, show n + (ds.length + 1) = n + 1 + ds.length by omega]
      exact this
theorem SNm.thru {L : Ltr} {W : List Str} : ∀ {rs : List RuleD} {S : WS} {i : Nat}, SNm S → (∀ r ∈ rs, RWf W r) → SNm (thru L i rs S)
  | [], S, i, h, _ => h
  | r :: rs, S, i, h, hr => by
    show SNm (if S.st = true then S else if r.1.ev L S.ms = true then _ else _)
    split
    · exact h
    split
    · exact SNm.thru (SNm.run ⟨h.ms, h.fs, h.rs⟩ (hr r List.mem_cons_self).2.2.2.2.2.1) fun x m => hr x (List.mem_cons_of_mem _ m)
    · exact SNm.thru h fun x m => hr x (List.mem_cons_of_mem _ m)
theorem SzOk.mono {S : WS} {n m : Nat} (h : SzOk S n) (e : n ≤ m) : SzOk S m := ⟨Nat.le_trans h.ms e, Nat.le_trans h.fs e, Nat.le_trans h.rs e, Nat.le_trans h.acts e⟩
theorem SzOk.acts1 {S : WS} {n i : Nat} (h : SzOk S n) : SzOk { S with acts := S.acts ++ [i] } (n + 1) :=
  ⟨Nat.le_trans h.ms (by omega), Nat.le_trans h.fs (by omega), Nat.le_trans h.rs (by omega), by have := h.acts; show (S.acts ++ [i]).length ≤ _; rw [List.length_append]; simp; omega⟩
section
variable {P : Program} {w : World} {K : PySem.W.Frag} {mg : Str → Option Value} {base : Heap}
theorem kv_strs {kvs : List (Key × V)} {ns : List Str} (h : kvs.map (·.1) = ns.map Sum.inr) : (kvs.map fun kv => kV kv.1) = ns.map V.str := by
  have := congrArg (List.map kV) h
  rw [List.map_map, List.map_map] at this
  exact this
def spOutcome (K : PySem.W.Frag) : Sp := fun vs H Q _ => ∃ (a : Addr) (W : WA) (L : Ltr) (S : WS), vs = [.ref a] ∧ WayAt K H a W L S ∧ SNm S ∧ SzOk S 1000 ∧ Tb K H ∧
  ∀ (H' : Hp) (v : V) (ms : List Str), Fr K [] H H' → ms.Perm S.ms → ms.Pairwise SkX.NLe → ND K H [] H' v (.tuple [.list (S.fs.map PyData.str), .list (ms.map PyData.str), .list (S.rs.map PyData.str)]) → Q v H'
theorem R_outcome (T : Txt w K mg base) : FnR P w K mg base CX0 8 (a_Way_outcome K) (spOutcome K) := by
  refine mkR T.f_Way_outcome sc_Way_outcome bd_Way_outcome ?_ ?_
  · rintro vs H Q E ⟨a, W, L, S, rfl, _⟩; rfl
  rintro cdv A outer s H vs Q E hr ⟨a, W, L, S, rfl, hw, hn, sz, tb, k⟩
  obtain ⟨_, F1⟩ := T.f_in_order
  refine ⟨_, pss_one (ps_ret (pe_tup (pa_cons (pe_callTy (call_list_dK rfl) (by rfl) T.z_list (by decide +kernel) (pa_cons (pe_fld (pv 0) rfl) pa_nil))
    (pa_cons (pe_cF (R_in_order T) (hr.mono (by decide)) (by rfl) T.g_in_order F1.kp (pa_cons (pe_callTy (call_list_dK rfl) (by rfl) T.z_list (by decide +kernel) (pa_cons (pe_fld (pv 0) rfl) pa_nil)) pa_nil))
    (pa_cons (pe_callTy (call_list_dK rfl) (by rfl) T.z_list (by decide +kernel) (pa_cons (pe_fld (pv 0) rfl) pa_nil)) pa_nil))))), ?_⟩
  obtain ⟨dx, e⟩ := hw.ob
  obtain ⟨k2, m2, q2⟩ := hw.fd
  refine ⟨_, rfl, a, _, dx, _, _, rfl, e, T.c_Way, T.n_Way_folders, rfl, W.fd, k2, rfl, m2, fun q nq => ?_⟩
  rw [kv_strs q2]
  have f1 : Fr K [] H (L2.upd H q (.lst (S.fs.map V.str))) := Fr.new tb nq
  obtain ⟨k1, m1, q1⟩ := hw.md.fr f1
  refine ⟨_, rfl, a, _, dx, _, _, rfl, f1.at e, T.c_Way, T.n_Way_marks, rfl, W.md, k1, rfl, m1, fun p np => ?_⟩
  rw [kv_strs q1]
  have f2 := f1.trans (Fr.new (E := []) (o := .lst (S.ms.map V.str)) f1.2 np)
  refine ⟨p, S.ms, rfl, SqL.of upd_same, sz.ms, fun x m => Nat.le_trans (hn.ms x m).2.1 (by decide), f2.2, fun H3 b ms f3 nb pm so => ?_⟩
  have f4 := (f2.trans f3).trans (Fr.new (E := []) (o := .lst (ms.map V.str)) f3.2 nb)
  obtain ⟨k3, m3, q3⟩ := hw.rd.fr f4
  refine ⟨_, rfl, a, _, dx, _, _, rfl, f4.at e, T.c_Way, T.n_Way_receivers, rfl, W.rd, k3, rfl, m3, fun c nc => ?_⟩
  rw [kv_strs q3]
  have f5 := f4.trans (Fr.new (E := []) (o := .lst (S.rs.map V.str)) f4.2 nc)
  refine ⟨by show 3 ≤ sizeLine; decide, fun t nt => ?_⟩
  have f6 := f5.trans (Fr.new (E := []) (o := .tup [.ref q, .ref b, .ref c]) f5.2 nt)
  have hb : H3 b = none := nb
  refine k _ _ ms f6 pm so (ND.tup (.cons (ND.lst strs_trAll (a := q) ?_ nq (by simp)) (.cons (ND.lst strs_trAll (a := b) ?_ ((f2.trans f3).3 _ nb) (by simp)) (.cons (ND.lst strs_trAll (a := c) ?_ (f4.3 _ nc) (by simp)) .nil))) upd_same (f5.3 _ nt) (by simp))
  · have g : Fr K [] (L2.upd H q (.lst (S.fs.map V.str))) _ := (((Fr.new (E := []) (o := .lst (S.ms.map V.str)) f1.2 np).trans f3).trans (Fr.new (E := []) (o := .lst (ms.map V.str)) f3.2 nb)).trans ((Fr.new (E := []) (o := .lst (S.rs.map V.str)) f4.2 nc).trans (Fr.new (E := []) (o := .tup [.ref q, .ref b, .ref c]) f5.2 nt))
    exact g.at upd_same
  · exact ((Fr.new (E := []) (o := .lst (S.rs.map V.str)) f4.2 nc).trans (Fr.new (E := []) (o := .tup [.ref q, .ref b, .ref c]) f5.2 nt)).at upd_same
  · exact (Fr.new (E := []) (o := .tup [.ref q, .ref b, .ref c]) f5.2 nt).at upd_same
/-- a letter as it is handed in -/
structure LtAt (H : Hp) (lt : Addr) (L : Ltr) : Prop where
  ob : ∃ l, H lt = some (.tup [.str L.snd, .ref l, .int L.sz]) ∧ H l = some (.lst (L.ws.map V.str))
theorem LtAt.fr {H H' : Hp} {lt : Addr} {L : Ltr} (h : LtAt H lt L) (f : Fr K [] H H') : LtAt H' lt L := by
  obtain ⟨l, h1, h2⟩ := h.ob
  exact ⟨l, f.at h1, f.at h2⟩
def spCheckLetter (K : PySem.W.Frag) : Sp := fun vs H Q _ => ∃ (lt : Addr) (L : Ltr), vs = [.ref lt] ∧ LtAt H lt L ∧ LWf L ∧ Tb K H ∧ ∀ H', Fr K [] H H' → Q .non H'
theorem R_check_letter (T : Txt w K mg base) : FnR P w K mg base CX0 14 (a_check_letter K) (spCheckLetter K) := by
  refine mkR T.f_check_letter sc_check_letter bd_check_letter ?_ ?_
  · rintro vs H Q E ⟨a, L, rfl, _⟩; rfl
  rintro cdv A outer s H vs Q E hr ⟨lt, L, rfl, hL, hl, tb, k⟩
  obtain ⟨_, F1⟩ := T.f_is_letter
  refine ⟨_, pss_one (ps_if (pt_not (pt_val (pe_cF (R_is_letter T) (hr.mono (by decide)) (by rfl) T.g_is_letter F1.kp (pa_cons (pv 0) pa_nil)))) (pss_one ps_never) pss_nil), ?_⟩
  obtain ⟨l, h1, h2⟩ := hL.ob
  exact ⟨_, rfl, lt, l, L, rfl, h1, h2, hl.snd, hl.ws, hl.sz, tb, fun H' f => ⟨true, rfl, iteF (k H' f)⟩⟩
def spThru (K : PySem.W.Frag) : Sp := fun vs H Q _ => ∃ (D lt : Addr) (as : List Addr) (rs : List RuleD) (L : Ltr) (Ws : List Str), vs = [.ref D, .ref lt] ∧ H D = some (.lst (as.map V.ref)) ∧ RulesAt K H as rs ∧ (∀ r ∈ rs, RWf Ws r) ∧ rs.length ≤ 20 ∧ LtAt H lt L ∧ LWf L ∧ Tb K H ∧
  ∀ H' a W, Fr K [] H H' → WayAt K H' a W L (thru L 0 rs S0) → H W.al = none → SzOk (thru L 0 rs S0) 1000 → Q (.ref a) H'
theorem R_way_through (T : Txt w K mg base) : FnR P w K mg base CX0 80 (a_way_through K) (spThru K) := by
  refine mkR T.f_way_through sc_way_through bd_way_through ?_ ?_
  · rintro vs H Q E ⟨D, lt, as, rs, L, Ws, rfl, _⟩; rfl
  rintro cdv A outer s H vs Q E hr ⟨D, lt, as, rs, L, Ws, rfl, hD, hR, hrw, hrl, hL, hl, tb, k⟩
  have nd := sc_way_through.nd
  refine ⟨_, PSs.nox <| pss_cons (ps_set (i := 2) nd rfl (.inl rfl) (StX.pe_makeR T.mk_Way (R_Way_init T) (hr.mono (by decide)) (by rfl) T.g_Way pass0 (pa_cons (pv 1) pa_nil)))
    (pss_cons (ps_for PassesOwn.never rfl (pi_enum (by rfl) T.z_enumerate (pa_cons (pv 0) pa_nil)) (pg_tup rfl (pgs_cons (pg_name (i := 3) nd rfl (.inl rfl)) (pgs_cons (pg_name (i := 4) nd rfl (.inl rfl)) pgs_nil)))
      (pss_cons (ps_if (pt_val (pe_fld (pv 2) rfl)) (pss_one (ps_ret (pv 2))) pss_nil)
      (pss_one (ps_if (pt_val (pe_methR (pv 2) T.c_Way T.m_Way_holds (R_holds T 8) (hr.mono (by decide)) pass0 (pa_cons (pe_fld (pv 4) rfl) pa_nil)))
        (pss_one (ps_expr (pe_methR (pv 2) T.c_Way T.m_Way_act (R_act T) (hr.mono (by decide)) pass0 (pa_cons (pv 3) (pa_cons (pe_fld (pv 4) rfl) pa_nil))))) pss_nil))))
    (pss_one (ps_ret (pv 2)))), ?_⟩
  obtain ⟨l, l1, l2⟩ := hL.ob
  refine ⟨_, rfl, fun a dx na ndx ne => ?_⟩
  have na' : (L2.upd H dx (.own a)) a = none := by rw [upd_ne ne.symm]; exact na
  have f1 : Fr K [] H (L2.upd (L2.upd H dx (.own a)) a (.ins (C_Way K) dx [])) := (Fr.new (o := .own a) tb ndx).trans (Fr.new (o := .ins (C_Way K) dx []) (Fr.new (E := []) (o := .own a) tb ndx).2 na')
  refine ⟨a, dx, lt, l, L, rfl, upd_same, f1.at l1, f1.at l2, f1.2, fun H2 W f2 hw hnew => ⟨rfl, ?_⟩⟩
  have F2 : Fr K [] H H2 := Fr.drop1 (E := []) ((f1.mono (E' := [] ++ [a]) (by simp)).trans f2) na
  have hex : ∀ x ∈ W.ex a, H x = none := fun x m => by
    have m : x = a ∨ x = W.md ∨ x = W.fd ∨ x = W.rd ∨ x = W.al := by simpa [WA.ex] using m
    rcases m with h | h
    · rw [h]; exact na
    · exact f1.3 _ (hnew x (by rcases h with h | h | h | h <;> simp [h]))
  have rl : as.length = rs.length := hR.1
  refine ⟨_, rfl, D, _, rfl, SqL.of (F2.at hD), ?_⟩
  refine for_enum (xs := as.map V.ref) (fun j σ H' => (∃ y z, σ = [some (V.ref D), some (.ref lt), some (.ref a), y, z]) ∧ Fr K [] H H' ∧ ∃ Sc, WayAt K H' a W L Sc ∧ thru L 0 rs S0 = thru L j (rs.drop j) Sc ∧ SzOk Sc (6 * j))
    ⟨⟨_, _, rfl⟩, F2, S0, hw, rfl, ⟨Nat.le_refl _, Nat.le_refl _, Nat.le_refl _, Nat.le_refl _⟩⟩ (fun j σ H' _ ⟨_, f, _⟩ => SqL.of (f.at hD)) (fun j y Tp σ H' hy ⟨⟨y1, y2, es⟩, f, Sc, hwc, hth, hsz⟩ nT => ?_) (fun σ H' ⟨⟨y1, y2, es⟩, f, Sc, hwc, hth, hsz⟩ => ?_)
  · subst es
    obtain ⟨b, hb, rfl⟩ := at_ref hy
    obtain ⟨r, hrj⟩ : ∃ r, rs[j]? = some r := by
      have : j < rs.length := by rw [← rl]; exact (List.getElem?_eq_some_iff.mp hb).1
      exact ⟨_, List.getElem?_eq_getElem this⟩
    have hj : j < rs.length := (List.getElem?_eq_some_iff.mp hrj).1
    have hdr : rs.drop j = r :: rs.drop (j + 1) := by
      rw [List.drop_eq_getElem_cons hj]
      rw [List.getElem?_eq_getElem hj] at hrj
      rw [Option.some.inj hrj]
    have hth2 : thru L 0 rs S0 = if Sc.st = true then Sc else if r.1.ev L Sc.ms = true then thru L (j + 1) (rs.drop (j + 1)) (runD r.2 { Sc with acts := Sc.acts ++ [j] }) else thru L (j + 1) (rs.drop (j + 1)) Sc := by
      rw [hth, hdr]; rfl
    obtain ⟨w1, w2, w3, w4, w5, w6, w7, w8⟩ := hrw r (List.mem_of_getElem? hrj)
    have g1 : Fr K [] H' (L2.upd H' Tp (.tup [.int (j : Nat), .ref b])) := Fr.new f.2 nT
    refine ⟨Tp, _, rfl, .inl (.inl upd_same), rfl, _, _, rfl, _, _, rfl, rfl, ?_⟩
    have hwg := hwc.fr g1
    obtain ⟨dc, ec⟩ := hwg.ob
    have F3 := f.trans g1
    refine ⟨_, rfl, a, _, dc, _, _, rfl, ec, T.c_Way, T.n_Way_stopped, rfl, _, rfl, ?_⟩
    by_cases st : Sc.st = true
    · refine iteB st ?_
      rw [if_pos st] at hth2
      refine ⟨_, rfl, k _ a W F3 (by rw [hth2]; exact hwg) (hex _ (by simp [WA.ex])) (by rw [hth2]; exact hsz.mono (by omega))⟩
    · refine iteNB (by simpa using st) ?_
      rw [if_neg st] at hth2
      obtain ⟨dr, wl, cv, dl, er, tc, td⟩ := (hR.2 j b r hb hrj).fr F3
      refine ⟨_, rfl, a, dc, _, rfl, ec, rfl, _, rfl, b, _, dr, _, _, rfl, er, T.c_Rule, T.n_Rule_condition, rfl, a, cv, r.1, W, L, Sc, Ws, 2, rfl, hwg, hl, tc, w1, w3, F3.2, fun H4 f4 => ?_⟩
      refine ⟨_, rfl, ?_⟩
      have F4 := F3.trans f4
      have hw4 := hwg.fr f4
      by_cases ev : r.1.ev L Sc.ms = true
      · refine iteB ev ?_
        rw [if_pos ev] at hth2
        obtain ⟨d4, e4⟩ := hw4.ob
        obtain ⟨dr4, wl4, cv4, dl4, er4, tc4, td4⟩ := (hR.2 j b r hb hrj)
        have er5 := F4.at er4
        have sq : Same (Sq H) H4 := fun p o e => F4.1 p o (by simp) (Sq.iff.mp e).1 (seq_nt (Sq.iff.mp e).2)
        refine ⟨_, rfl, a, d4, _, rfl, e4, rfl, _, rfl, _, rfl, b, _, dr4, _, _, rfl, er5, T.c_Rule, T.n_Rule_deeds, rfl, a, j, dl4, r.2, W, L, Sc, Sq H, 6 * j, rfl, hw4, td4.sq, sq, fun p o e => (Sq.iff.mp e).2, ?_, w6, hsz, by omega, F4.2, fun H5 f5 hw5 => ?_⟩
        · cases z : Sq H W.al with
          | none => rfl
          | some o =>
            have := (Sq.iff.mp z).1
            rw [hex _ (by simp [WA.ex])] at this
            cases this
        · refine ⟨⟨_, _, rfl⟩, Fr.drop (F4.nil.trans f5) hex, _, hw5, hth2, ?_⟩
          exact (SzOk.run hsz.acts1).mono (by omega)
      · refine iteNB (by simpa using ev) ?_
        rw [if_neg ev] at hth2
        exact ⟨⟨_, _, rfl⟩, F4, Sc, hw4, hth2, hsz.mono (by omega)⟩
  · subst es
    rw [List.length_map, rl, List.drop_length] at hth
    have hth : thru L 0 rs S0 = Sc := hth
    rw [List.length_map, rl] at hsz
    exact ⟨_, rfl, k H' a W f (by rw [hth]; exact hwc) (hex _ (by simp [WA.ex])) (by rw [hth]; exact hsz.mono (by omega))⟩
end
end So
end

section
set_option Elab.async false
set_option linter.all false
set_option maxRecDepth 100000
set_option maxHeartbeats 4000000
namespace So
open PySem PySem.Spec PyProof.Rows L2 GxA TL
open GxR (TabB TabG Tabbed)
section
variable {P : Program} {w : World} {K : PySem.W.Frag} {mg : Str → Option Value} {base : Heap}
/-- a text whose rows are these rules -/
structure TxtOk (x : Str) (os : List (Option RuleD)) (W : List Str) : Prop where
  ex : ∃ rows, Txt.split x "\n" = rows ∧ Paired (RowOk W) rows os ∧ (∀ r ∈ rows, r.length ≤ 1000) ∧ rows.length ≤ 20
  len : x.length + 2 ≤ sizeLine
  four : W.length ≤ 4
theorem TxtOk.wf {x : Str} {os : List (Option RuleD)} {W : List Str} (t : TxtOk x os W) : (∀ r ∈ os.filterMap id, RWf W r) ∧ (os.filterMap id).length ≤ 20 := by
  obtain ⟨rows, _, hrow, _, hl⟩ := t.ex
  have hol := Paired.length hrow
  refine ⟨fun r m => ?_, ?_⟩
  · obtain ⟨o, ho, e⟩ := List.mem_filterMap.mp m
    have e : o = some r := e
    subst e
    obtain ⟨j, hj⟩ := List.mem_iff_getElem?.mp ho
    obtain ⟨row, hrw⟩ : ∃ row, rows[j]? = some row := by
      have : j < rows.length := by rw [hol]; exact (List.getElem?_eq_some_iff.mp hj).1
      exact ⟨_, List.getElem?_eq_getElem this⟩
    exact (paired_at hrow hrw hj).2.2
  · have := List.length_filterMap_le id os
    omega
theorem S0_nm : SNm S0 := ⟨fun _ m => (nomatch m), fun _ m => (nomatch m), fun _ m => (nomatch m)⟩
def wayOf (L : Ltr) (os : List (Option RuleD)) : WS := thru L 0 (os.filterMap id) S0
def spSort (K : PySem.W.Frag) : Sp := fun vs H Q _ => ∃ (x : Str) (lt : Addr) (os : List (Option RuleD)) (W : List Str) (L : Ltr), vs = [.str x, .ref lt] ∧ TxtOk x os W ∧ LtAt H lt L ∧ LWf L ∧ Tb K H ∧
  ∀ (H' : Hp) (v : V) (ms : List Str), Fr K [] H H' → ms.Perm (wayOf L os).ms → ms.Pairwise SkX.NLe → ND K H [] H' v (.tuple [.list ((wayOf L os).fs.map PyData.str), .list (ms.map PyData.str), .list ((wayOf L os).rs.map PyData.str)]) → Q v H'
theorem R_sort (T : Txt w K mg base) : FnR P w K mg base CX0 84 (a_sort K) (spSort K) := by
  refine mkR T.f_sort sc_sort bd_sort ?_ ?_
  · rintro vs H Q E ⟨x, lt, os, W, L, rfl, _⟩; rfl
  rintro cdv A outer s H vs Q E hr ⟨x, lt, os, W, L, rfl, ht, hL, hl, tb, k⟩
  have nd := sc_sort.nd
  obtain ⟨_, F1⟩ := T.f_read
  obtain ⟨_, F2⟩ := T.f_check_letter
  obtain ⟨_, F3⟩ := T.f_way_through
  refine ⟨_, pss_cons (ps_set (i := 2) nd rfl (.inl rfl) (pe_cF (R_read T) (hr.mono (by decide)) (by rfl) T.g_read F1.kp (pa_cons (pv 0) pa_nil)))
    (pss_cons (ps_expr (pe_cF (R_check_letter T) (hr.mono (by decide)) (by rfl) T.g_check_letter F2.kp (pa_cons (pv 1) pa_nil)))
    (pss_one (ps_ret (pe_m0F (pe_cF (R_way_through T) (hr.mono (by decide)) (by rfl) T.g_way_through F3.kp (pa_cons (pv 2) (pa_cons (pv 1) pa_nil))) T.c_Way T.m_Way_outcome (R_outcome T) (hr.mono (by decide)))))), ?_⟩
  obtain ⟨wf, wl⟩ := ht.wf
  obtain ⟨rows, t1, t2, t3, t4⟩ := ht.ex
  refine ⟨_, rfl, x, rows, os, W, rfl, ht.len, t1, t2, t3, t4, ht.four, tb, fun H1 D as f1 hD hR => ?_⟩
  refine ⟨_, rfl, lt, L, rfl, hL.fr f1, hl, f1.2, fun H2 f2 => ?_⟩
  have g2 := f1.trans f2
  refine ⟨_, rfl, _, rfl, D, lt, as, _, L, W, rfl, f2.at hD, hR.fr f2, wf, wl, hL.fr g2, hl, g2.2, fun H3 a Wa f3 hw _ sz => ?_⟩
  have g3 := g2.trans f3
  obtain ⟨dx, e⟩ := hw.ob
  exact ⟨a, dx, _, rfl, e, rfl, a, Wa, L, _, rfl, hw, SNm.thru S0_nm wf, sz, g3.2, fun H4 v ms f4 pm so nd4 => k H4 v ms (g3.trans f4) pm so (Tr.same (nu_back g3.3 (by simp)) nd4)⟩
def spActing (K : PySem.W.Frag) : Sp := fun vs H Q _ => ∃ (x : Str) (lt : Addr) (os : List (Option RuleD)) (W : List Str) (L : Ltr), vs = [.str x, .ref lt] ∧ TxtOk x os W ∧ LtAt H lt L ∧ LWf L ∧ Tb K H ∧
  ∀ (H' : Hp) (v : V), Fr K [] H H' → ND K H [] H' v (.list ((wayOf L os).acts.map fun (n : Nat) => PyData.int (n : Int))) → Q v H'
theorem ints_tr {H : Hp} : ∀ {xs : List Nat}, TrAll H (xs.map fun (n : Nat) => V.int (n : Int)) (xs.map fun (n : Nat) => PyData.int (n : Int))
  | [] => .nil
  | x :: xs => .cons (.int _) ints_tr
theorem R_acting (T : Txt w K mg base) : FnR P w K mg base CX0 84 (a_acting K) (spActing K) := by
  refine mkR T.f_acting sc_acting bd_acting ?_ ?_
  · rintro vs H Q E ⟨x, lt, os, W, L, rfl, _⟩; rfl
  rintro cdv A outer s H vs Q E hr ⟨x, lt, os, W, L, rfl, ht, hL, hl, tb, k⟩
  have nd := sc_acting.nd
  obtain ⟨_, F1⟩ := T.f_read
  obtain ⟨_, F2⟩ := T.f_check_letter
  obtain ⟨_, F3⟩ := T.f_way_through
  refine ⟨_, pss_cons (ps_set (i := 2) nd rfl (.inl rfl) (pe_cF (R_read T) (hr.mono (by decide)) (by rfl) T.g_read F1.kp (pa_cons (pv 0) pa_nil)))
    (pss_cons (ps_expr (pe_cF (R_check_letter T) (hr.mono (by decide)) (by rfl) T.g_check_letter F2.kp (pa_cons (pv 1) pa_nil)))
    (pss_one (ps_ret (pe_fld (pe_cF (R_way_through T) (hr.mono (by decide)) (by rfl) T.g_way_through F3.kp (pa_cons (pv 2) (pa_cons (pv 1) pa_nil))) rfl)))), ?_⟩
  obtain ⟨wf, wl⟩ := ht.wf
  obtain ⟨rows, t1, t2, t3, t4⟩ := ht.ex
  refine ⟨_, rfl, x, rows, os, W, rfl, ht.len, t1, t2, t3, t4, ht.four, tb, fun H1 D as f1 hD hR => ?_⟩
  refine ⟨_, rfl, lt, L, rfl, hL.fr f1, hl, f1.2, fun H2 f2 => ?_⟩
  have g2 := f1.trans f2
  refine ⟨_, rfl, _, rfl, D, lt, as, _, L, W, rfl, f2.at hD, hR.fr f2, wf, wl, hL.fr g2, hl, g2.2, fun H3 a Wa f3 hw hal sz => ?_⟩
  have g3 := g2.trans f3
  obtain ⟨dx, e⟩ := hw.ob
  exact ⟨a, _, dx, _, _, rfl, e, T.c_Way, T.n_Way_acts, rfl, k H3 _ g3 (ND.lst ints_tr hw.al (g2.3 _ hal) (by simp))⟩
end
end So
end

section
set_option Elab.async false
set_option linter.all false
set_option maxRecDepth 100000
set_option maxHeartbeats 4000000
namespace So
open PySem PySem.Spec PyProof.Rows L2 GxA TL
open GxR (TabB TabG Tabbed)
/-! ## the law's own defs: draws -/
def primes16 : List Int := [1000003, 1000033, 1000037, 1000039, 1000081, 1000099, 1000117, 1000121, 1000133, 1000151, 1000159, 1000171, 1000183, 1000187, 1000193, 1000199]
theorem primes_at : ∀ i, i < 16 → ∃ p, (primes16.map V.int)[i]? = some (V.int p) ∧ 0 < p := fun i h => by
  have all : ∀ p ∈ primes16, 0 < p := by decide
  have hl : i < primes16.length := h
  refine ⟨primes16[i], ?_, all _ (List.getElem_mem hl)⟩
  rw [List.getElem?_map, List.getElem?_eq_getElem hl]; rfl
section
variable {P : Program} {w : World} {K : PySem.W.Frag} {mg : Str → Option Value} {base : Heap}
def spDraw (K : PySem.W.Frag) : Sp := fun vs H Q _ => ∃ (c k m : Int), vs = [.int c, .int k, .int m] ∧ 0 < m ∧ Tb K H ∧ ∀ H' (x : Int), Fr K [] H H' → 0 ≤ x → x < m → Q (.int x) H'
theorem R_draw (T : Txt w K mg base) : FnR P w K mg base CX0 1 (a_law_draw K) (spDraw K) := by
  refine mkR T.f_law_draw sc_law_draw bd_law_draw ?_ ?_
  · rintro vs H Q E ⟨c, k, m, rfl, _⟩; rfl
  rintro cdv A outer s H vs Q E hr ⟨c, k, m, rfl, hm, tb, kk⟩
  have nd := sc_law_draw.nd
  refine ⟨_, pss_cons (ps_set (i := 3) nd rfl (.inl rfl) (pe_tup (pa_cons pe_int (pa_cons pe_int (pa_cons pe_int (pa_cons pe_int (pa_cons pe_int (pa_cons pe_int (pa_cons pe_int (pa_cons pe_int (pa_cons pe_int (pa_cons pe_int (pa_cons pe_int (pa_cons pe_int (pa_cons pe_int (pa_cons pe_int (pa_cons pe_int (pa_cons pe_int pa_nil))))))))))))))))))
    (pss_one (ps_ret (pe_op op_mod (pe_op op_mod (pe_op op_add (pe_op op_mul (pv 0) pe_int) (pe_op op_mul (pv 1) pe_int)) (pe_ix ix_tup (pv 3) (pe_op op_mod (pv 1) pe_int) (fun _ _ => rfl))) (pv 2)))), ?_⟩
  refine ⟨by show 16 ≤ sizeLine; decide, fun t nt => ?_⟩
  have f := Fr.new (E := []) (o := .tup (primes16.map V.int)) tb nt
  refine ⟨_, rfl, c, 48271, rfl, rfl, .inr (by decide), _, rfl, k, 69621, rfl, rfl, .inr (by decide), _, _, rfl, rfl, ?_⟩
  obtain ⟨p, hp, hp0⟩ := primes_at (k % 16).toNat (by omega)
  refine ⟨_, rfl, _, rfl, k, 16, rfl, rfl, (by show (0 : Int) < 16; decide), t, primes16.map V.int, _, V.int p, rfl, rfl, .inl (.inl upd_same), ?_, ?_⟩
  · rw [show k % 16 = (((k % 16).toNat : Nat) : Int) by omega]
    exact atI_nat hp
  refine ⟨_, p, rfl, rfl, hp0, _, rfl, _, m, rfl, rfl, hm, ?_⟩
  exact kk _ _ f (Int.emod_nonneg _ (by omega)) (Int.emod_lt_of_pos _ hm)
def spCellAt (K : PySem.W.Frag) : Sp := fun vs H Q _ => ∃ (a : Addr) (ns : List Int) (k : Nat), vs = [.ref a, .int k] ∧ SqL K H a (ns.map V.int) ∧ Tb K H ∧ ∀ H' (x : Int), Fr K [] H H' → 0 ≤ x → Q (.int x) H'
theorem R_cell_at (T : Txt w K mg base) : FnR P w K mg base CX0 2 (a_law_cell_at K) (spCellAt K) := by
  refine mkR T.f_law_cell_at sc_law_cell_at bd_law_cell_at ?_ ?_
  · rintro vs H Q E ⟨a, ns, k, rfl, _⟩; rfl
  rintro cdv A outer s H vs Q E hr ⟨a, ns, k, rfl, ha, tb, kk⟩
  obtain ⟨_, F1⟩ := T.f_law_draw
  refine ⟨_, pss_cons (ps_if (pt_cmpR op_lt (pv 1) (pe_callB call_len_seq (by rfl) T.z_len PySem.boot_len (pa_cons (pv 0) pa_nil)) (nomark _))
      (pss_one (ps_ret (pe_callB call_abs (by rfl) T.z_abs (by decide +kernel) (pa_cons (pe_ix ix_list (pv 0) (pv 1) (fun _ _ => rfl)) pa_nil)))) pss_nil)
    (pss_one (ps_ret (pe_cF (R_draw T) hr (by rfl) T.g_law_draw F1.kp (pa_cons (pe_op op_add (pe_callB call_abs (by rfl) T.z_abs (by decide +kernel) (pa_cons (pe_callB (cr_sum rfl) (by rfl) T.z_sum (by decide +kernel) (pa_cons (pv 0) pa_nil)) pa_nil)) (pe_op op_mul pe_int (pv 1))) (pa_cons (pv 1) (pa_cons pe_int pa_nil)))))), ?_⟩
  refine ⟨_, rfl, _, rfl, a, _, rfl, .inl ha, _, _, rfl, rfl, _, rfl, ?_⟩
  by_cases h : k < ns.length
  · refine iteD (by rw [List.length_map]; omega) ?_
    refine ⟨_, rfl, _, rfl, a, _, _, V.int ns[k], rfl, rfl, ha, atI_nat ?_, ns[k], rfl, ?_⟩
    · rw [List.getElem?_map, List.getElem?_eq_getElem h]; rfl
    · exact kk H _ (Fr.refl tb) (by split <;> omega)
  · refine iteN (by rw [List.length_map]; omega) ?_
    refine ⟨_, rfl, a, ns, rfl, ha, _, rfl, _, rfl, 7919, _, rfl, rfl, .inl (by decide), _, _, rfl, rfl, _, rfl, _, _, _, rfl, by decide, tb, fun H' x f h1 h2 => kk H' x f h1⟩
theorem ints_len {H : Hp} {D : Addr} {xs : List Int} (h : H D = some (.lst (xs.map V.int))) (hl : xs.length ≤ 100) : (xs.map V.int).length < sizeLine := by
  rw [List.length_map]
  exact Nat.lt_of_le_of_lt hl (by decide)
/-- draws: n of them, below b -/
def Drw (xs : List Int) (n : Nat) (b : Int) : Prop := xs.length = n ∧ ∀ x ∈ xs, 0 ≤ x ∧ x < b
def spDigits (K : PySem.W.Frag) : Sp := fun vs H Q _ => ∃ (a : Addr) (ns : List Int) (k n : Nat) (b : Int), vs = [.ref a, .int k, .int n, .int b] ∧ SqL K H a (ns.map V.int) ∧ n ≤ 50 ∧ 0 < b ∧ b < 1073741824 ∧ Tb K H ∧
  ∀ H' D xs, Fr K [] H H' → H D = none → H' D = some (.lst (xs.map V.int)) → Drw xs n b → Q (.ref D) H'
theorem R_digits (T : Txt w K mg base) : FnR P w K mg base CX0 4 (a_law_digits K) (spDigits K) := by
  refine mkR T.f_law_digits sc_law_digits bd_law_digits ?_ ?_
  · rintro vs H Q E ⟨a, ns, k, n, b, rfl, _⟩; rfl
  rintro cdv A outer s H vs Q E hr ⟨a, ns, k, n, b, rfl, ha, hn, hb, hb2, tb, kk⟩
  have nd := sc_law_digits.nd
  obtain ⟨_, F1⟩ := T.f_law_draw
  obtain ⟨_, F2⟩ := T.f_law_cell_at
  refine ⟨_, PSs.nox <| pss_cons (ps_par (i := 4) (j := 5) (by rfl) nd rfl rfl (by decide) rfl rfl (pa_cons (pe_cF (R_cell_at T) (hr.mono (by decide)) (by rfl) T.g_law_cell_at F2.kp (pa_cons (pv 0) (pa_cons (pv 1) pa_nil))) (pa_cons (pe_lst pa_nil) pa_nil)) (by rfl))
    (pss_cons (ps_set (i := 6) nd rfl (.inl rfl) (pe_op op_sub (pv 4) (pe_op op_pow pe_int pe_int)))
    (pss_cons (ps_for PassesOwn.never rfl (pi_range1 (by rfl) T.z_range (pa_cons (pv 2) pa_nil)) (pg_name (i := 7) nd rfl (.inl rfl))
      (pss_one (ps_if (pt_cmpR op_ge (pv 4) (pe_op op_pow pe_int pe_int) (nomark _))
        (pss_cons (ps_expr (pe_bm PySem.F.plainAttrs_list PySem.F.slot_list_append PySem.F.type_list_append mt_append (pv 5) (pa_cons (pe_op op_mod (pv 6) (pv 3)) pa_nil)))
          (pss_one (ps_set (i := 6) nd rfl (.inl rfl) (pe_op op_fdiv (pv 6) (pv 3)))))
        (pss_cons (ps_set (i := 8) nd rfl (.inl rfl) (pe_cF (R_draw T) (hr.mono (by decide)) (by rfl) T.g_law_draw F1.kp (pa_cons (pe_op op_mul (pe_op op_add (pv 4) (pe_op op_mul pe_int (pv 7))) (pe_op op_add (pe_op op_add (pv 4) (pe_op op_mul pe_int (pv 7))) pe_int)) (pa_cons (pe_op op_add (pe_op op_mod (pv 7) pe_int) pe_int) (pa_cons pe_int pa_nil)))))
        (pss_cons (ps_set (i := 9) nd rfl (.inl rfl) (pe_cF (R_draw T) (hr.mono (by decide)) (by rfl) T.g_law_draw F1.kp (pa_cons (pe_op op_add (pe_op op_mul (pe_op op_add (pv 4) (pe_op op_mul pe_int (pv 7))) (pe_op op_add (pv 4) pe_int)) (pe_op op_mul pe_int (pv 7))) (pa_cons (pe_op op_add (pe_op op_mod (pv 7) pe_int) pe_int) (pa_cons pe_int pa_nil)))))
        (pss_one (ps_expr (pe_bm PySem.F.plainAttrs_list PySem.F.slot_list_append PySem.F.type_list_append mt_append (pv 5) (pa_cons (pe_op op_mod (pe_op op_add (pe_op op_mul (pv 8) pe_int) (pv 9)) (pv 3)) pa_nil))))))))
    )
    (pss_one (ps_ret (pv 5))))), ?_⟩
  refine ⟨_, rfl, _, rfl, a, ns, k, rfl, ha, tb, fun H1 c f1 hc => ?_⟩
  refine ⟨by show 0 ≤ sizeLine; decide, fun D nD => ?_⟩
  have hD : H D = none := f1.3 _ nD
  have f2 := f1.trans (Fr.new (E := []) (o := .lst []) f1.2 nD)
  refine ⟨_, _, rfl, _, rfl, 10, 18, rfl, rfl, ⟨by decide, by decide, by decide⟩, _, _, rfl, rfl, ?_⟩
  refine ⟨_, rfl, n, rfl, by omega, by omega, ?_⟩
  refine for_range (lo := 0) (n := ((n : Nat) : Int).toNat) (fun i σ H' => (∃ (l : Int) (y z u : Option V), σ = [some (V.ref a), some (.int k), some (.int n), some (.int b), some (.int c), some (.ref D), some (.int l), y, z, u]) ∧ Fr K [] H H' ∧ ∃ xs : List Int, H' D = some (.lst (xs.map V.int)) ∧ Drw xs i b)
    ⟨⟨_, _, _, _, rfl⟩, f2, [], upd_same, rfl, fun _ m => (nomatch m)⟩ (fun i σ H' hi ⟨⟨l, y, z, u, es⟩, f, xs, hx, hl, hr2⟩ => ?_) (fun σ H' ⟨⟨l, y, z, u, es⟩, f, xs, hx, hd⟩ => ?_)
  · subst es
    have hi : i < n := by omega
    have app : ∀ (v : Int) (H2 : Hp), Fr K [] H' H2 → 0 ≤ v → v < b → Fr K [] H (L2.upd H2 D (.lst (xs.map V.int ++ [.int v]))) ∧ ∃ ys : List Int, (L2.upd H2 D (.lst (xs.map V.int ++ [.int v]))) D = some (.lst (ys.map V.int)) ∧ Drw ys (i + 1) b := fun v H2 g h1 h2 => by
      refine ⟨(f.trans g).upNew tb hD, xs ++ [v], by rw [upd_same, List.map_append]; rfl, by rw [List.length_append, hl]; rfl, fun x m => ?_⟩
      rcases List.mem_append.mp m with m | m
      · exact hr2 x m
      · rw [List.mem_singleton.mp m]; exact ⟨h1, h2⟩
    have hlt := ints_len hx (by omega)
    refine ⟨_, rfl, 10, 18, rfl, rfl, ⟨by decide, by decide, by decide⟩, _, _, rfl, rfl, _, rfl, ?_⟩
    by_cases hc18 : (10 : Int) ^ (18 : Int).toNat ≤ c
    · refine iteD hc18 ?_
      refine ⟨_, rfl, .inl ⟨rfl, _, SqL.of hx⟩, _, rfl, _, rfl, l, b, rfl, rfl, hb, D, _, _, rfl, rfl, hx, hlt, ?_⟩
      obtain ⟨g1, g2⟩ := app (l % b) H' (Fr.refl f.2) (Int.emod_nonneg _ (by omega)) (Int.emod_lt_of_pos _ hb)
      exact ⟨_, rfl, _, rfl, l, b, rfl, rfl, ⟨hb, hb2⟩, ⟨_, _, _, _, rfl⟩, g1, g2⟩
    · refine iteN hc18 ?_
      have hcs : c < 1000000000000000000 := by
        have e : (10 : Int) ^ (18 : Int).toNat = 1000000000000000000 := by decide
        rw [e] at hc18; omega
      refine ⟨_, rfl, _, rfl, 977, _, rfl, rfl, .inl (by decide), _, _, rfl, rfl, _, rfl, _, rfl, 31, _, rfl, rfl, .inl (by decide), _, _, rfl, rfl, _, _, rfl, rfl, _, _, rfl, rfl, .inl ⟨by omega, by omega⟩, ?_⟩
      refine ⟨_, rfl, _, 9, rfl, rfl, (by show (0 : Int) < 9; decide), _, _, rfl, rfl, _, _, _, rfl, by decide, f.2, fun H2 x2 g2 hx1 hx2 => ?_⟩
      refine ⟨_, rfl, _, rfl, 31, _, rfl, rfl, .inl (by decide), _, _, rfl, rfl, _, rfl, _, _, rfl, rfl, _, _, rfl, rfl, .inl ⟨by omega, by omega⟩, _, rfl, 977, _, rfl, rfl, .inl (by decide), _, _, rfl, rfl, ?_⟩
      refine ⟨_, rfl, _, 7, rfl, rfl, (by show (0 : Int) < 7; decide), _, _, rfl, rfl, _, _, _, rfl, by decide, g2.2, fun H3 x3 g3 hx3 hx4 => ?_⟩
      have g := g2.trans g3
      refine ⟨_, rfl, .inl ⟨rfl, _, SqL.of (g.at hx)⟩, _, rfl, x2, 1000003, rfl, rfl, .inl ⟨by omega, by omega⟩, _, rfl, _, _, rfl, rfl, _, rfl, _, b, rfl, rfl, hb, D, _, _, rfl, rfl, g.at hx, hlt, ?_⟩
      obtain ⟨g1, g2⟩ := app ((x2 * 1000003 + x3) % b) H3 g (Int.emod_nonneg _ (by omega)) (Int.emod_lt_of_pos _ hb)
      exact ⟨⟨_, _, _, _, rfl⟩, g1, g2⟩
  · subst es
    have e : ((n : Nat) : Int).toNat = n := by omega
    rw [e] at hd
    exact ⟨_, rfl, kk H' D xs f hD hx hd⟩
end
end So
end

section
set_option Elab.async false
set_option linter.all false
set_option maxRecDepth 100000
set_option maxHeartbeats 4000000
namespace So
open PySem PySem.Spec PyProof.Rows L2 GxA TL
open GxR (TabB TabG Tabbed)
def rep10 (z : Str) : Str := ⟨(List.replicate 10 z.cps).foldl (· ++ ·) #[]⟩
theorem tl_rep10 (z : Str) : tl (rep10 z) = (List.replicate 10 (tl z)).flatten := by
  show ((List.replicate 10 z.cps).foldl (· ++ ·) #[]).toList = _
  simp [List.replicate, tl]
theorem op_mul10 {X : Cx} : OpR X (binaryOp .Mult) (fun x y H Q => ∃ z, x = .str z ∧ y = .int 10 ∧ 0 < z.length ∧ z.length ≤ 1000 ∧ Q (.str (rep10 z)) H) := by
  intro pins s σ H x y v u Q I rx ry h
  obtain ⟨z, rfl, rfl, h0, h1, q⟩ := h
  obtain ⟨t, rfl⟩ := rx
  obtain ⟨t', rfl⟩ := ry
  have hc : ((10 : Int) == 1 || z.length == 0) = false := by
    have : (z.length == 0) = false := beq_eq_false_iff_ne.mpr (by omega)
    rw [this]; rfl
  refine PySem.P.mul_str (by decide) (fun _ _ => by
    have : (2 ^ 63 - 1 : Int) / 10 = 922337203685477580 := by decide
    rw [this]; omega) (fun _ _ => by
    show decide _ = false
    refine decide_eq_false ?_
    show ¬ z.length * (10 : Int).toNat > _
    have : (10 : Int).toNat = 10 := rfl
    rw [this]
    exact Nat.not_lt.mpr (Nat.le_trans (by omega : z.length * 10 ≤ 10000) (by decide))) ?_
  rw [if_neg (by decide), hc]
  refine ⟨?_, ?_⟩
  · have hl : (rep10 z).length = z.length * 10 := by
      rw [len_tl, tl_rep10]
      simp [List.replicate, len_tl]
      omega
    show (rep10 z).length ≤ _
    rw [hl]
    exact Nat.le_trans (by omega : z.length * 10 ≤ 10000) (by decide)
  · exact ⟨.str (rep10 z), H, I.tok _, ⟨_, rfl⟩, q⟩
/-- small letters alone -/
def Az (x : Str) : Prop := ∀ c ∈ tl x, c ∈ ("abcdefghijklmnopqrstuvwxyz" : Str).cps.toList
theorem nm_of {x : Str} (h : Az x) (h1 : 1 ≤ x.length) (h2 : x.length ≤ 10) : Nm x := ⟨h1, h2, h⟩
theorem tl_cut (z : Str) (k : Nat) : tl (cutS z none (some (k : Int))) = (tl z).take k := by
  unfold cutS
  rw [HT.sIx_none, HT.sIx_nat, List.drop_zero, Nat.sub_zero]
  show (List.take (min k z.length) (tl z)) = _
  rw [len_tl]
  rcases Nat.le_total k (tl z).length with h | h
  · rw [Nat.min_eq_left h]
  · rw [Nat.min_eq_right h, List.take_of_length_le h, List.take_of_length_le (Nat.le_refl _)]
theorem az_cut {z : Str} (h : Az z) (k : Nat) : Az (cutS z none (some (k : Int))) := fun c hc => by
  rw [tl_cut] at hc
  exact h c (List.mem_of_mem_take hc)
theorem len_cut (z : Str) (k : Nat) : (cutS z none (some (k : Int))).length = min k z.length := by
  rw [len_tl, tl_cut, List.length_take, len_tl]
theorem az_rep {z : Str} (h : Az z) : Az (rep10 z) := fun c hc => by
  rw [tl_rep10] at hc
  obtain ⟨l, hl, hc⟩ := List.mem_flatten.mp hc
  rw [(List.mem_replicate.mp hl).2] at hc
  exact h c hc
theorem len_rep (z : Str) : (rep10 z).length = 10 * z.length := by
  rw [len_tl, tl_rep10]
  simp [List.replicate, len_tl]
  omega
theorem az_app {x y : Str} (h1 : Az x) (h2 : Az y) : Az (x ++ y) := fun c hc => by
  rw [tl_append] at hc
  rcases List.mem_append.mp hc with m | m
  · exact h1 c m
  · exact h2 c m
theorem az_at {i : Nat} (h : i < 26) : ∃ c, atI ("abcdefghijklmnopqrstuvwxyz" : Str).cps.toList (i : Int) = some c ∧ Az ⟨#[c]⟩ := by
  have hl : ("abcdefghijklmnopqrstuvwxyz" : Str).cps.toList.length = 26 := by decide +kernel
  have e := List.getElem?_eq_getElem (by rw [hl]; exact h : i < ("abcdefghijklmnopqrstuvwxyz" : Str).cps.toList.length)
  refine ⟨_, atI_nat e, fun c hc => ?_⟩
  rw [List.mem_singleton.mp (show c ∈ [_] from hc)]
  exact List.getElem_mem _
end So
end

section
set_option Elab.async false
set_option linter.all false
set_option maxRecDepth 100000
set_option maxHeartbeats 4000000
namespace So
open PySem PySem.Spec PyProof.Rows L2 GxA TL
open GxR (TabB TabG Tabbed)
section
variable {P : Program} {w : World} {K : PySem.W.Frag} {mg : Str → Option Value} {base : Heap}
theorem drw_at {ds : List Int} {n : Nat} {b : Int} (h : Drw ds n b) {k : Nat} (hk : k < n) : ∃ x, (ds.map V.int)[k]? = some (V.int x) ∧ 0 ≤ x ∧ x < b := by
  have hl : k < ds.length := by rw [h.1]; exact hk
  refine ⟨ds[k], by rw [List.getElem?_map, List.getElem?_eq_getElem hl]; rfl, h.2 _ (List.getElem_mem hl)⟩
theorem nat_of {x : Int} (h : 0 ≤ x) : ∃ k : Nat, x = (k : Int) := ⟨x.toNat, by omega⟩
theorem cutV_nn {xs : List V} {i j : Nat} (h1 : i ≤ j) (h2 : j ≤ xs.length) : cutV xs (some (i : Int)) (some (j : Int)) = (xs.drop i).take (j - i) := by
  unfold cutV
  rw [HT.sIx_nat, HT.sIx_nat, Nat.min_eq_left (show i ≤ xs.length by omega), Nat.min_eq_left h2]
theorem cutV_n {xs : List V} {i : Nat} (h : i ≤ xs.length) : cutV xs (some (i : Int)) none = xs.drop i := by
  unfold cutV
  rw [HT.sIx_nat, HT.sIx_none, Nat.min_eq_left h]
  exact List.take_of_length_le (by rw [List.length_drop]; omega)
def someW : List Str := ["if", "then", "and", "or", "not", "any", "from", "has", "stop", "file"]
theorem someW_nm : ∀ x ∈ someW, Nm x := by
  intro x hx
  simp only [someW, List.mem_cons, List.not_mem_nil, or_false] at hx
  rcases hx with rfl | rfl | rfl | rfl | rfl | rfl | rfl | rfl | rfl | rfl <;> exact ⟨by decide +kernel, by decide +kernel, by decide +kernel⟩
def spWords (K : PySem.W.Frag) : Sp := fun vs H Q _ => ∃ (a : Addr) (ns : List Int), vs = [.ref a, .int 0] ∧ SqL K H a (ns.map V.int) ∧ Tb K H ∧
  ∀ (H' : Hp) (D : Addr) (xs : List Str), Fr K [] H H' → H D = none → H' D = some (.lst (xs.map V.str)) → xs.length = 6 → (∀ x ∈ xs, Nm x) → Q (.ref D) H'
theorem R_words (T : Txt w K mg base) : FnR P w K mg base CX0 6 (a_law_words K) (spWords K) := by
  refine mkR T.f_law_words sc_law_words bd_law_words ?_ ?_
  · rintro vs H Q E ⟨a, ns, rfl, _⟩; rfl
  rintro cdv A outer s H vs Q E hr ⟨a, ns, rfl, ha, tb, kk⟩
  have nd := sc_law_words.nd
  obtain ⟨_, F1⟩ := T.f_law_digits
  refine ⟨_, PSs.nox <| pss_cons (ps_asg (pe_tup (pa_cons (pe_cF (R_digits T) (hr.mono (by decide)) (by rfl) T.g_law_digits F1.kp (pa_cons (pv 0) (pa_cons (pv 1) (pa_cons pe_int (pa_cons (pe_op op_mul (pe_op op_mul pe_int pe_int) pe_int) pa_nil))))) (pa_cons (pe_lst pa_nil) pa_nil))) (pg_tup (by rfl) (pgs_cons (pg_name (i := 2) nd rfl (.inl rfl)) (pgs_cons (pg_name (i := 3) nd rfl (.inr rfl)) pgs_nil))))
    (pss_cons (ps_for PassesOwn.never rfl (pi_range1 (by rfl) T.z_range (pa_cons pe_int pa_nil)) (pg_name (i := 4) nd rfl (.inl rfl))
      (pss_cons (ps_set (i := 5) nd rfl (.inl rfl) (pe_ix ix_str pe_str (pe_op op_mod (pe_op op_add (pe_ix ix_list (pv 2) pe_int (fun _ _ => rfl)) (pe_op op_mul pe_int (pv 4))) pe_int) (fun _ _ => rfl)))
      (pss_cons (ps_set (i := 6) nd rfl (.inl rfl) (pe_ix ix_str pe_str (pe_op op_mod (pe_ix ix_list (pv 2) (pv 4) (fun _ _ => rfl)) pe_int) (fun _ _ => rfl)))
      (pss_cons (ps_set (i := 7) nd rfl (.inl rfl) (pe_slice sl_str (pe_op op_add_str (pe_op op_add_str (pv 5) (pv 6)) (pv 5)) po_none (po_some (pe_op op_add pe_int (pe_op op_fdiv (pe_ix ix_list (pv 2) (pv 4) (fun _ _ => rfl)) pe_int)))))
      (pss_one (ps_expr (pe_bm PySem.F.plainAttrs_list PySem.F.slot_list_append PySem.F.type_list_append mt_append (pv 3) (pa_cons
        (pe_ifExp (pt_cmpR op_eq (pe_op op_mod (pe_op op_fdiv (pe_ix ix_list (pv 2) pe_int (fun _ _ => rfl)) pe_int) pe_int) pe_int (nomark _))
          (pe_slice sl_str (pe_op op_mul10 (pv 7) pe_int) po_none (po_some (pe_op op_add pe_int (pe_op op_mod (pe_ix ix_list (pv 2) (pv 4) (fun _ _ => rfl)) pe_int)))) (pv 7)) pa_nil))))))))
    (pss_cons (ps_set (i := 8) nd rfl (.inl rfl) (pe_lst (pa_cons pe_str (pa_cons pe_str (pa_cons pe_str (pa_cons pe_str (pa_cons pe_str (pa_cons pe_str (pa_cons pe_str (pa_cons pe_str (pa_cons pe_str (pa_cons pe_str pa_nil))))))))))))
    (pss_cons (ps_if (PW.pt (pw_and (pt_cmpR op_eq (pe_op op_mod (pe_op op_fdiv (pe_ix ix_list (pv 2) pe_int (fun _ _ => rfl)) pe_int) pe_int) pe_int (nomark _))
        (pw_and1 (pt_val (pe_callB (cr_all rfl) (by rfl) T.z_all (by decide +kernel) (pa_cons (pe_lc (own := [("_law_word", 9)]) (g := gName 9) (tt := tYes) (te := tOp (rIn K true) (tVar 9) (tVar 3)) rfl nd (pi_list (pv 8)) (blkOk_by (own := [("_law_word", 9)]) (N := N_law_words) (sc := defScope s_law_words) (by decide +kernel))
          (fun _ _ _ _ _ => pg_name (i := 9) nd rfl (Or.inl rfl)) (fun _ _ _ _ _ => pts_nil) (fun _ _ _ _ _ => pe_cmpR op_notIn_seq (pv 9) (pv 3) (by rfl))) pa_nil))))))
      (pss_cons (ps_set (i := 1) nd rfl (.inl rfl) (pe_op op_mod (pe_ix ix_list (pv 2) pe_int (fun _ _ => rfl)) pe_int))
      (pss_one (ps_set (i := 3) nd rfl (.inr rfl) (pe_op op_cat (pe_op op_cat (pe_op op_cat (pe_slice sl_list (pv 8) (po_some (pv 1)) (po_some (pe_op op_add (pv 1) pe_int))) (pe_slice sl_list (pv 3) (po_some pe_int) (po_some pe_int)))
        (pe_lst (pa_cons (pe_ix ix_list (pv 8) (pe_op op_mod (pe_op op_add (pv 1) pe_int) pe_int) (fun _ _ => rfl)) pa_nil))) (pe_slice sl_list (pv 3) (po_some pe_int) po_none))))) pss_nil)
    (pss_one (ps_ret (pv 3)))))), ?_⟩
  refine ⟨_, rfl, _, rfl, 26, 26, rfl, rfl, .inl (by decide), _, 4, rfl, rfl, .inl (by decide), a, ns, 0, 7, _, rfl, ha, by decide, by decide, by decide, tb, fun H1 Dd ds f1 nDd hDd hdr => ?_⟩
  refine ⟨by show 0 ≤ sizeLine; decide, fun Df nDf => ?_⟩
  have hDf : H Df = none := f1.3 _ nDf
  have g1 := Fr.new (E := []) (o := .lst []) f1.2 nDf
  have f2 := f1.trans g1
  refine ⟨by show 2 ≤ sizeLine; decide, fun tt ntt => ?_⟩
  have g2 := Fr.new (E := []) (o := .tup [.ref Dd, .ref Df]) f2.2 ntt
  have f3 := f2.trans g2
  have hDd3 := (g1.trans g2).at hDd
  have hDf3 := g2.at (upd_same (H := H1) (a := Df) (o := .lst []))
  refine ⟨tt, _, rfl, .inl (.inl upd_same), rfl, _, _, rfl, _, _, rfl, rfl, ?_⟩
  obtain ⟨d6, e6, p6, _⟩ := drw_at hdr (k := 6) (by decide)
  refine ⟨6, rfl, by decide, by decide, ?_⟩
  refine for_range (lo := 0) (n := (6 : Int).toNat) (fun i σ H' => (∃ y1 y2 y3 y4, σ = [some (V.ref a), some (.int 0), some (.ref Dd), some (.ref Df), y1, y2, y3, y4, none, none]) ∧ Fr K [] H H' ∧ H' Dd = some (.lst (ds.map V.int)) ∧ ∃ xs : List Str, H' Df = some (.lst (xs.map V.str)) ∧ xs.length = i ∧ ∀ x ∈ xs, Nm x)
    ⟨⟨_, _, _, _, rfl⟩, f3, hDd3, [], hDf3, rfl, fun _ m => (nomatch m)⟩ (fun i σ H' hi ⟨⟨y1, y2, y3, y4, es⟩, f, hD, xs, hx, hl, hn⟩ => ?_) (fun σ H' ⟨⟨y1, y2, y3, y4, es⟩, f, hD, xs, hx, hl, hn⟩ => ?_)
  · subst es
    have hi6 : i < 6 := hi
    obtain ⟨di, ei, pi, qi⟩ := drw_at hdr (k := i) (by omega)
    have e0 : (0 + (i : Int)) = ((i : Nat) : Int) := by omega
    obtain ⟨k1, hk1⟩ := nat_of (Int.emod_nonneg (d6 + 4 * (0 + (i : Int))) (by decide : (26 : Int) ≠ 0))
    obtain ⟨c1, hc1, az1⟩ := az_at (i := k1) (by have := Int.emod_lt_of_pos (d6 + 4 * (0 + (i : Int))) (by decide : (0 : Int) < 26); omega)
    obtain ⟨k2, hk2⟩ := nat_of (Int.emod_nonneg di (by decide : (26 : Int) ≠ 0))
    obtain ⟨c2, hc2, az2⟩ := az_at (i := k2) (by have := Int.emod_lt_of_pos di (by decide : (0 : Int) < 26); omega)
    refine ⟨_, rfl, Dd, _, _, V.int d6, rfl, rfl, SqL.of hD, atI_nat (j := 6) e6, _, rfl, 4, _, rfl, rfl, .inl (by decide), _, _, rfl, rfl, _, 26, rfl, rfl, (by show (0 : Int) < 26; decide), _, _, c1, rfl, rfl, by decide +kernel, by rw [hk1]; exact hc1, ?_⟩
    refine ⟨_, rfl, _, rfl, Dd, _, _, V.int di, rfl, rfl, SqL.of hD, by rw [e0]; exact atI_nat ei, _, 26, rfl, rfl, (by show (0 : Int) < 26; decide), _, _, c2, rfl, rfl, by decide +kernel, by rw [hk2]; exact hc2, ?_⟩
    obtain ⟨k3, hk3⟩ := nat_of (show 0 ≤ 1 + di / 676 by have := Int.ediv_nonneg pi (by decide : (0 : Int) ≤ 676); omega)
    have hk3b : 1 ≤ k3 ∧ k3 ≤ 4 := by
      have h1 := Int.ediv_nonneg pi (by decide : (0 : Int) ≤ 676)
      have h2 : di / 676 < 4 := Int.ediv_lt_of_lt_mul (by decide) (by omega)
      omega
    have l1 : ∀ c : Nat, (⟨#[c]⟩ : Str).length = 1 := fun _ => rfl
    refine ⟨_, rfl, _, rfl, _, _, rfl, rfl, by rw [l1, l1]; decide, _, rfl, _, _, rfl, rfl, by rw [Str.length_append, l1, l1]; decide, ?_⟩
    refine ⟨_, rfl, _, rfl, Dd, _, _, V.int di, rfl, rfl, SqL.of hD, by rw [e0]; exact atI_nat ei, di, 676, rfl, rfl, ⟨by decide, by decide⟩, _, _, rfl, rfl, _, rfl, _, rfl, by rw [Str.length_append, Str.length_append, l1, l1]; decide, ?_⟩
    rw [hk3]
    have az3 : Az (cutS ((⟨#[c1]⟩ : Str) ++ ⟨#[c2]⟩ ++ ⟨#[c1]⟩) none (some (k3 : Int))) := az_cut (az_app (az_app az1 az2) az1) _
    have len3 : (cutS ((⟨#[c1]⟩ : Str) ++ ⟨#[c2]⟩ ++ ⟨#[c1]⟩) none (some (k3 : Int))).length = min k3 3 := by
      rw [len_cut, Str.length_append, Str.length_append, l1, l1]
    generalize cutS ((⟨#[c1]⟩ : Str) ++ ⟨#[c2]⟩ ++ ⟨#[c1]⟩) none (some (k3 : Int)) = nm at az3 len3 ⊢
    have hlt : (xs.map V.str).length < sizeLine := by rw [List.length_map, hl]; exact Nat.lt_of_lt_of_le hi6 (by decide)
    have fin : ∀ z, Nm z → (∃ y1 y2 y3 y4, ([some (V.ref a), some (.int 0), some (.ref Dd), some (.ref Df), some (.int (0 + (i : Int))), some (.str ⟨#[c1]⟩), some (.str ⟨#[c2]⟩), some (.str nm), none, none] : L2.St) = [some (V.ref a), some (.int 0), some (.ref Dd), some (.ref Df), y1, y2, y3, y4, none, none]) ∧
        Fr K [] H (L2.upd H' Df (.lst (xs.map V.str ++ [.str z]))) ∧ (L2.upd H' Df (.lst (xs.map V.str ++ [.str z]))) Dd = some (.lst (ds.map V.int)) ∧ ∃ ys : List Str, (L2.upd H' Df (.lst (xs.map V.str ++ [.str z]))) Df = some (.lst (ys.map V.str)) ∧ ys.length = i + 1 ∧ ∀ x ∈ ys, Nm x := fun z hz => by
      have dne : Dd ≠ Df := ne_of_none hDd nDf
      refine ⟨⟨_, _, _, _, rfl⟩, f.upNew tb hDf, by rw [upd_ne dne]; exact hD, xs ++ [z], by rw [upd_same, List.map_append]; rfl, by rw [List.length_append, hl]; rfl, fun x m => ?_⟩
      rcases List.mem_append.mp m with m | m
      · exact hn x m
      · rw [List.mem_singleton.mp m]; exact hz
    refine ⟨_, rfl, .inl ⟨rfl, _, SqL.of hx⟩, _, rfl, Dd, _, _, V.int d6, rfl, rfl, SqL.of hD, atI_nat (j := 6) e6, d6, 26, rfl, rfl, ⟨by decide, by decide⟩, _, 3, rfl, rfl, (by show (0 : Int) < 3; decide), rfl, _, rfl, ?_⟩
    refine ite2 (fun _ => ?_) (fun _ => ?_)
    · obtain ⟨k4, hk4⟩ := nat_of (show 0 ≤ 4 + di % 7 by have := Int.emod_nonneg di (by decide : (7 : Int) ≠ 0); omega)
      have hk4b : 4 ≤ k4 ∧ k4 ≤ 10 := by
        have h1 := Int.emod_nonneg di (by decide : (7 : Int) ≠ 0)
        have h2 := Int.emod_lt_of_pos di (by decide : (0 : Int) < 7)
        omega
      refine ⟨_, rfl, nm, rfl, rfl, by omega, by omega, _, rfl, _, rfl, Dd, _, _, V.int di, rfl, rfl, SqL.of hD, by rw [e0]; exact atI_nat ei, di, 7, rfl, rfl, (by show (0 : Int) < 7; decide), _, _, rfl, rfl, _, rfl, _, rfl, by rw [len_rep]; exact Nat.le_trans (by omega : _ ≤ 30) (by decide), ?_⟩
      rw [hk4]
      refine ⟨Df, _, _, rfl, rfl, hx, hlt, fin _ (nm_of (az_cut (az_rep az3) _) ?_ ?_)⟩
      · rw [len_cut, len_rep, len3]; omega
      · rw [len_cut]; omega
    · exact ⟨_, rfl, Df, _, _, rfl, rfl, hx, hlt, fin _ (nm_of az3 (by omega) (by omega))⟩
  · subst es
    refine ⟨by show 10 ≤ sizeLine; decide, fun Ds nDs => ?_⟩
    have hDs : H Ds = none := f.3 _ nDs
    have h1 := Fr.new (E := []) (o := .lst (someW.map V.str)) f.2 nDs
    have F1 := f.trans h1
    have hl6 : xs.length = 6 := hl
    have done : ∀ H'', Fr K [] (L2.upd H' Ds (.lst (someW.map V.str))) H'' → Q (.ref Df) H'' := fun H'' g => kk H'' Df xs (F1.trans g) hDf ((h1.trans g).at hx) hl6 hn
    have hD1 := h1.at hD
    have hx1 := h1.at hx
    have hs1 : (L2.upd H' Ds (.lst (someW.map V.str))) Ds = some (.lst (someW.map V.str)) := upd_same
    refine ⟨_, rfl, Dd, _, _, V.int d6, rfl, rfl, SqL.of hD1, atI_nat (j := 6) e6, d6, 78, rfl, rfl, ⟨by decide, by decide⟩, _, 2, rfl, rfl, (by show (0 : Int) < 2; decide), rfl, _, rfl, ?_⟩
    refine ite2 (fun _ => ?_) (fun _ => iteF ⟨_, rfl, done _ (Fr.refl F1.2)⟩)
    refine ⟨_, rfl, Ds, rfl, ⟨_, SqL.of hs1⟩, fun B nB => ?_⟩
    refine lc_list (xs := someW.map V.str) (fun i H2 => Fr K [] (L2.upd H' Ds (.lst (someW.map V.str))) H2 ∧ ∃ bs : List Bool, H2 B = some (.lst (bs.map V.bl)) ∧ bs.length = i) ⟨Fr.new F1.2 nB, [], upd_same, rfl⟩ (fun i H2 _ ⟨g, _⟩ => SqL.of (g.at hs1)) (fun i y H2 hy ⟨g, bs, hb, hbl⟩ => ?_) (fun H2 ⟨g, bs, hb, hbl⟩ => ?_)
    · obtain ⟨z, hz, rfl⟩ := at_map hy
      have hiL := (List.getElem?_eq_some_iff.mp hz).1
      refine ⟨rfl, _, rfl, _, rfl, Df, _, rfl, .inl (SqL.of (g.at hx1)), rfl, by rw [List.all_map]; exact List.all_eq_true.mpr fun _ _ => rfl, _, hb, ?_, g.upNew F1.2 nB, bs ++ [_], by rw [upd_same, List.map_append]; rfl, by rw [List.length_append, hbl]; rfl⟩
      rw [List.length_map, hbl]
      exact Nat.lt_of_lt_of_le hiL (by decide)
    · refine ⟨B, bs, rfl, SqL.of hb, ?_⟩
      refine ⟨bs.all id, rfl, ite2 (fun _ => ?_) (fun _ => ⟨_, rfl, done _ g⟩)⟩
      obtain ⟨k5, hk5⟩ := nat_of (Int.emod_nonneg d6 (by decide : (8 : Int) ≠ 0))
      have hk5b : k5 ≤ 7 := by have := Int.emod_lt_of_pos d6 (by decide : (0 : Int) < 8); omega
      have hs2 := g.at hs1
      have hx2 := g.at hx1
      have G := F1.trans g
      refine ⟨_, rfl, Dd, _, _, V.int d6, rfl, rfl, SqL.of (g.at hD1), atI_nat (j := 6) e6, d6, 8, rfl, rfl, (by show (0 : Int) < 8; decide), ?_⟩
      dsimp only
      rw [hk5]
      have sl : someW.length = 10 := rfl
      refine ⟨_, rfl, _, rfl, _, rfl, _, rfl, _, _, rfl, rfl, _, rfl, Ds, _, rfl, SqL.of hs2, fun p1 np1 => ?_⟩
      rw [show ((k5 : Nat) : Int) + 2 = ((k5 + 2 : Nat) : Int) by omega, cutV_nn (by omega) (by rw [List.length_map, sl]; omega), ← List.map_drop, ← List.map_take]
      have len1 : ((someW.drop k5).take (k5 + 2 - k5)).length = 2 := by rw [List.length_take, List.length_drop, sl]; omega
      have nm1 : ∀ x ∈ (someW.drop k5).take (k5 + 2 - k5), Nm x := fun x m => someW_nm x (List.mem_of_mem_drop (List.mem_of_mem_take m))
      generalize (someW.drop k5).take (k5 + 2 - k5) = l1 at len1 nm1 ⊢
      have q1 := Fr.new (E := []) (o := .lst (l1.map V.str)) G.2 np1
      refine ⟨_, rfl, 2, rfl, 4, rfl, Df, _, rfl, SqL.of (q1.at hx2), fun p2 np2 => ?_⟩
      rw [show (some (2 : Int)) = some ((2 : Nat) : Int) from rfl, show (some (4 : Int)) = some ((4 : Nat) : Int) from rfl, cutV_nn (by decide) (by rw [List.length_map, hl6]; decide), ← List.map_drop, ← List.map_take]
      have len2 : ((xs.drop 2).take (4 - 2)).length = 2 := by rw [List.length_take, List.length_drop, hl6]; decide
      have nm2 : ∀ x ∈ (xs.drop 2).take (4 - 2), Nm x := fun x m => hn x (List.mem_of_mem_drop (List.mem_of_mem_take m))
      generalize (xs.drop 2).take (4 - 2) = l2 at len2 nm2 ⊢
      have q2 := Fr.new (E := []) (o := .lst (l2.map V.str)) q1.2 np2
      refine ⟨p1, p2, _, _, rfl, rfl, q2.at upd_same, upd_same, by rw [List.length_map, List.length_map, len1, len2]; decide, fun p3 np3 => ?_⟩
      have q3 := Fr.new (E := []) (o := .lst (l1.map V.str ++ l2.map V.str)) q2.2 np3
      obtain ⟨k6, hk6⟩ := nat_of (Int.emod_nonneg ((k5 : Int) + 3) (by decide : (10 : Int) ≠ 0))
      have hk6b : k6 < someW.length := by have := Int.emod_lt_of_pos ((k5 : Int) + 3) (by decide : (0 : Int) < 10); rw [sl]; omega
      have Q3 := (q1.trans q2).trans q3
      refine ⟨_, rfl, _, rfl, _, _, rfl, rfl, _, 10, rfl, rfl, (by show (0 : Int) < 10; decide), Ds, _, _, V.str someW[k6], rfl, rfl, SqL.of (Q3.at hs2), ?_, by show 1 ≤ sizeLine; decide, fun p4 np4 => ?_⟩
      · rw [hk6]
        exact atI_nat (by rw [List.getElem?_map, List.getElem?_eq_getElem hk6b]; rfl)
      have q4 := Fr.new (E := []) (o := .lst [V.str someW[k6]]) q3.2 np4
      refine ⟨p3, p4, _, _, rfl, rfl, q4.at upd_same, upd_same, by rw [List.length_append, List.length_map, List.length_map, len1, len2]; show 2 + 2 + 1 ≤ sizeLine; decide, fun p5 np5 => ?_⟩
      have q5 := Fr.new (E := []) (o := .lst (l1.map V.str ++ l2.map V.str ++ [V.str someW[k6]])) q4.2 np5
      have Q5 := (Q3.trans q4).trans q5
      refine ⟨_, rfl, 5, rfl, Df, _, rfl, SqL.of (Q5.at hx2), fun p6 np6 => ?_⟩
      rw [show (some (5 : Int)) = some ((5 : Nat) : Int) from rfl, cutV_n (by rw [List.length_map, hl6]; decide), ← List.map_drop]
      have len6 : (xs.drop 5).length = 1 := by rw [List.length_drop, hl6]
      have nm6 : ∀ x ∈ xs.drop 5, Nm x := fun x m => hn x (List.mem_of_mem_drop m)
      generalize xs.drop 5 = l6 at len6 nm6 ⊢
      have q6 := Fr.new (E := []) (o := .lst (l6.map V.str)) q5.2 np6
      refine ⟨p5, p6, _, _, rfl, rfl, q6.at upd_same, upd_same, by simp [len1, len2, len6]; decide, fun p7 np7 => ?_⟩
      have Q7 := (G.trans Q5).trans (q6.trans (Fr.new (E := []) (o := .lst (l1.map V.str ++ l2.map V.str ++ [V.str someW[k6]] ++ l6.map V.str)) q6.2 np7))
      refine ⟨_, rfl, kk _ p7 (l1 ++ l2 ++ [someW[k6]] ++ l6) Q7 (((G.trans Q5).trans q6).3 _ np7) (by rw [upd_same]; simp) (by simp [len1, len2, len6]) fun x m => ?_⟩
      simp only [List.mem_append, List.mem_singleton] at m
      rcases m with ((m | m) | m) | m
      · exact nm1 x m
      · exact nm2 x m
      · rw [m]; exact someW_nm _ (List.getElem_mem _)
      · exact nm6 x m
end
end So
end

section
set_option Elab.async false
set_option linter.all false
set_option maxRecDepth 100000
set_option maxHeartbeats 4000000
namespace So
open PySem PySem.Spec PyProof.Rows L2 GxA TL
open GxR (TabB TabG Tabbed)
def kindsL : List Str := ["has", "has", "first", "last", "pair", "from", "over", "marked", "any"]
def FactB (W : List Str) (c : Cnd) : Prop := c.wf W 0 ∧ c.dep ≤ 0 ∧ c.hgt ≤ 0 ∧ c.nf ≤ 1 ∧ c.told.length ≤ 3
def UnitB (W : List Str) (c : Cnd) : Prop := c.wf W 0 ∧ c.dep ≤ 2 ∧ c.hgt ≤ 2 ∧ c.nf ≤ 2 ∧ c.told.length ≤ 10
def CondB (W : List Str) (c : Cnd) : Prop := c.wf W 2 ∧ c.dep ≤ 2 ∧ c.hgt ≤ 4 ∧ c.nf ≤ 6 ∧ c.told.length ≤ 32
theorem ixk (x a n : Int) (hn : 0 < n) : ∃ k : Nat, x / a % n = (k : Int) ∧ (k : Int) < n := by
  obtain ⟨k, hk⟩ := nat_of (Int.emod_nonneg (x / a) (by omega : n ≠ 0))
  exact ⟨k, hk, by have := Int.emod_lt_of_pos (x / a) hn; omega⟩
theorem ixm (x n : Int) (hn : 0 < n) : ∃ k : Nat, x % n = (k : Int) ∧ (k : Int) < n := by
  obtain ⟨k, hk⟩ := nat_of (Int.emod_nonneg x (by omega : n ≠ 0))
  exact ⟨k, hk, by have := Int.emod_lt_of_pos x hn; omega⟩
theorem str_at {ws : List Str} {k : Nat} (h : k < ws.length) : (ws.map V.str)[k]? = some (V.str ws[k]) := by
  rw [List.getElem?_map, List.getElem?_eq_getElem h]; rfl
theorem mem_take3 {ws : List Str} {k : Nat} (h : k < ws.length) (h3 : k < 3) : ws[k] ∈ ws.take 3 := by
  refine List.mem_of_getElem? (i := k) ?_
  rw [List.getElem?_take, if_pos h3, List.getElem?_eq_getElem h]
/-- the six words of a law's rules -/
structure Wds (H : Hp) (D : Addr) (ws : List Str) : Prop where
  at_ : H D = some (.lst (ws.map V.str))
  len : ws.length = 6
  nm : ∀ x ∈ ws, Nm x
section
variable {P : Program} {w : World} {K : PySem.W.Frag} {mg : Str → Option Value} {base : Heap}
theorem Wds.fr {H H' : Hp} {D : Addr} {ws : List Str} (h : Wds H D ws) (f : Fr K [] H H') : Wds H' D ws := ⟨f.at h.at_, h.len, h.nm⟩
def spFact (K : PySem.W.Frag) : Sp := fun vs H Q _ => ∃ (d : Int) (Dw Dk : Addr) (ws : List Str), vs = [.int d, .ref Dw, .ref Dk] ∧ Wds H Dw ws ∧ H Dk = some (.tup (kindsL.map V.str)) ∧ Tb K H ∧
  ∀ (H' : Hp) (v : V) (c : Cnd), Fr K [] H H' → FactB (ws.take 3) c → ND K H [] H' v c.l → Q v H'
theorem R_fact (T : Txt w K mg base) : FnR P w K mg base CX0 1 (a_law_fact K) (spFact K) := by
  refine mkR T.f_law_fact sc_law_fact bd_law_fact ?_ ?_
  · rintro vs H Q E ⟨d, Dw, Dk, ws, rfl, _⟩; rfl
  rintro cdv A outer s H vs Q E hr ⟨d, Dw, Dk, ws, rfl, hw, hk, tb, kk⟩
  have nd := sc_law_fact.nd
  refine ⟨_, pss_cons (ps_set (i := 3) nd rfl (.inl rfl) (pe_ix ix_tup (pv 2) (pe_op op_mod (pv 0) (pe_callB call_len_seq (by rfl) T.z_len PySem.boot_len (pa_cons (pv 2) pa_nil))) (fun _ _ => rfl)))
    (pss_cons (ps_par (i := 4) (j := 5) (by rfl) nd rfl rfl (by decide) rfl rfl (pa_cons (pe_ix ix_list (pv 1) (pe_op op_mod (pe_op op_fdiv (pv 0) pe_int) pe_int) (fun _ _ => rfl)) (pa_cons (pe_ix ix_list (pv 1) (pe_op op_mod (pe_op op_fdiv (pv 0) pe_int) pe_int) (fun _ _ => rfl)) pa_nil)) (by rfl))
    (pss_cons (ps_if (pt_cmpR op_eq (pv 3) pe_str (nomark _)) (pss_one (ps_ret (pe_tup (pa_cons pe_str pa_nil)))) pss_nil)
    (pss_cons (ps_if (pt_cmpR op_eq (pv 3) pe_str (nomark _)) (pss_one (ps_ret (pe_tup (pa_cons pe_str (pa_cons (pe_callTy call_str_int (by rfl) T.z_str (by decide +kernel) (pa_cons (pe_ix ix_tup (pe_tup (pa_cons pe_int (pa_cons pe_int (pa_cons pe_int (pa_cons pe_int (pa_cons pe_int (pa_cons pe_int (pa_cons pe_int pa_nil)))))))) (pe_op op_mod (pe_op op_fdiv (pv 0) pe_int) pe_int) (fun _ _ => rfl)) pa_nil)) pa_nil))))) pss_nil)
    (pss_cons (ps_if (pt_cmpR op_eq (pv 3) pe_str (nomark _)) (pss_one (ps_ret (pe_tup (pa_cons pe_str (pa_cons (pv 4) (pa_cons (pv 5) pa_nil)))))) pss_nil)
    (pss_cons (ps_if (pt_cmpR op_eq (pv 3) pe_str (nomark _)) (pss_one (ps_ret (pe_tup (pa_cons pe_str (pa_cons (pe_ix ix_list (pv 1) (pe_op op_add pe_int (pe_op op_mod (pe_op op_fdiv (pv 0) pe_int) pe_int)) (fun _ _ => rfl)) pa_nil))))) pss_nil)
    (pss_one (ps_ret (pe_tup (pa_cons (pv 3) (pa_cons (pe_ifExp (pt_cmpR op_eq (pv 3) pe_str (nomark _)) (pe_ix ix_list (pv 1) (pe_op op_mod (pe_op op_fdiv (pv 0) pe_int) pe_int) (fun _ _ => rfl)) (pv 4)) pa_nil)))))))))), ?_⟩
  have l6 := hw.len
  obtain ⟨k0, e0, b0⟩ := ixm d 9 (by decide)
  obtain ⟨k1, e1, b1⟩ := ixk d 11 3 (by decide)
  obtain ⟨k2, e2, b2⟩ := ixk d 33 3 (by decide)
  have kl : kindsL.length = 9 := rfl
  have k0l : k0 < kindsL.length := by rw [kl]; omega
  have k1l : k1 < ws.length := by omega
  have k2l : k2 < ws.length := by omega
  refine ⟨_, rfl, _, rfl, _, rfl, Dk, _, rfl, .inr (.inl (.inl hk)), d, 9, rfl, rfl, (by show (0 : Int) < 9; decide), Dk, _, _, V.str kindsL[k0], rfl, rfl, .inl (.inl hk), by rw [e0]; exact atI_nat (str_at k0l), ?_⟩
  refine ⟨_, rfl, _, rfl, d, 11, rfl, rfl, ⟨by decide, by decide⟩, _, 3, rfl, rfl, (by show (0 : Int) < 3; decide), Dw, _, _, V.str ws[k1], rfl, rfl, SqL.of hw.at_, by rw [e1]; exact atI_nat (str_at k1l), ?_⟩
  refine ⟨_, rfl, _, rfl, d, 33, rfl, rfl, ⟨by decide, by decide⟩, _, 3, rfl, rfl, (by show (0 : Int) < 3; decide), Dw, _, _, V.str ws[k2], rfl, rfl, SqL.of hw.at_, by rw [e2]; exact atI_nat (str_at k2l), _, _, rfl, ?_⟩
  have hm : kindsL[k0] ∈ kindsL := List.getElem_mem k0l
  generalize kindsL[k0] = kd at hm ⊢
  have n1 := hw.nm _ (List.getElem_mem k1l)
  have n2 := hw.nm _ (List.getElem_mem k2l)
  have m1 := mem_take3 k1l (by omega)
  have m2 := mem_take3 k2l (by omega)
  -- the last return
  have last : ∀ (x n : Str), x ∈ kinds1 → Nm n → (x ∈ kindsW → n ∈ ws.take 3) → ∀ t, H t = none → Q (.ref t) (L2.upd H t (.tup [.str x, .str n])) := fun x n hx hn hW t nt =>
    kk _ _ (.fact x n) (Fr.new tb nt) ⟨⟨hx, hn, hW⟩, Nat.le_refl _, Nat.le_refl _, Nat.le_refl _, by show 2 ≤ 3; decide⟩ (ND.tup (.cons (.str _) (.cons (.str _) .nil)) upd_same nt (by simp))
  simp only [kindsL, List.mem_cons, List.not_mem_nil, or_false] at hm
  rcases hm with rfl | rfl | rfl | rfl | rfl | rfl | rfl | rfl | rfl
  · refine ⟨_, rfl, rfl, _, rfl, iteX (x := "has") (by decide +kernel) ?_⟩
    refine ⟨_, rfl, rfl, _, rfl, iteX (x := "has") (by decide +kernel) ?_⟩
    refine ⟨_, rfl, rfl, _, rfl, iteX (x := "has") (by decide +kernel) ?_⟩
    refine ⟨_, rfl, rfl, _, rfl, iteX (x := "has") (by decide +kernel) ?_⟩
    exact ⟨_, rfl, _, rfl, rfl, _, rfl, iteX (x := "has") (by decide +kernel) ⟨_, rfl, by show 2 ≤ sizeLine; decide, last "has" _ (by decide +kernel) n1 fun _ => m1⟩⟩
  · refine ⟨_, rfl, rfl, _, rfl, iteX (x := "has") (by decide +kernel) ?_⟩
    refine ⟨_, rfl, rfl, _, rfl, iteX (x := "has") (by decide +kernel) ?_⟩
    refine ⟨_, rfl, rfl, _, rfl, iteX (x := "has") (by decide +kernel) ?_⟩
    refine ⟨_, rfl, rfl, _, rfl, iteX (x := "has") (by decide +kernel) ?_⟩
    exact ⟨_, rfl, _, rfl, rfl, _, rfl, iteX (x := "has") (by decide +kernel) ⟨_, rfl, by show 2 ≤ sizeLine; decide, last "has" _ (by decide +kernel) n1 fun _ => m1⟩⟩
  · refine ⟨_, rfl, rfl, _, rfl, iteX (x := "first") (by decide +kernel) ?_⟩
    refine ⟨_, rfl, rfl, _, rfl, iteX (x := "first") (by decide +kernel) ?_⟩
    refine ⟨_, rfl, rfl, _, rfl, iteX (x := "first") (by decide +kernel) ?_⟩
    refine ⟨_, rfl, rfl, _, rfl, iteX (x := "first") (by decide +kernel) ?_⟩
    exact ⟨_, rfl, _, rfl, rfl, _, rfl, iteX (x := "first") (by decide +kernel) ⟨_, rfl, by show 2 ≤ sizeLine; decide, last "first" _ (by decide +kernel) n1 fun _ => m1⟩⟩
  · refine ⟨_, rfl, rfl, _, rfl, iteX (x := "last") (by decide +kernel) ?_⟩
    refine ⟨_, rfl, rfl, _, rfl, iteX (x := "last") (by decide +kernel) ?_⟩
    refine ⟨_, rfl, rfl, _, rfl, iteX (x := "last") (by decide +kernel) ?_⟩
    refine ⟨_, rfl, rfl, _, rfl, iteX (x := "last") (by decide +kernel) ?_⟩
    exact ⟨_, rfl, _, rfl, rfl, _, rfl, iteX (x := "last") (by decide +kernel) ⟨_, rfl, by show 2 ≤ sizeLine; decide, last "last" _ (by decide +kernel) n1 fun _ => m1⟩⟩
  · refine ⟨_, rfl, rfl, _, rfl, iteX (x := "pair") (by decide +kernel) ?_⟩
    refine ⟨_, rfl, rfl, _, rfl, iteX (x := "pair") (by decide +kernel) ?_⟩
    refine ⟨_, rfl, rfl, _, rfl, iteD rfl ?_⟩
    exact ⟨_, rfl, _, rfl, by show 3 ≤ sizeLine; decide, fun t nt => kk _ _ (.pair _ _) (Fr.new tb nt) ⟨⟨n1, n2, m1, m2⟩, Nat.le_refl _, Nat.le_refl _, Nat.le_refl _, Nat.le_refl _⟩ (ND.tup (.cons (.str _) (.cons (.str _) (.cons (.str _) .nil))) upd_same nt (by simp))⟩
  · refine ⟨_, rfl, rfl, _, rfl, iteX (x := "from") (by decide +kernel) ?_⟩
    refine ⟨_, rfl, rfl, _, rfl, iteX (x := "from") (by decide +kernel) ?_⟩
    refine ⟨_, rfl, rfl, _, rfl, iteX (x := "from") (by decide +kernel) ?_⟩
    refine ⟨_, rfl, rfl, _, rfl, iteD rfl ?_⟩
    obtain ⟨k3, e3, b3⟩ := ixk d 11 5 (by decide)
    have k3l : k3 + 1 < ws.length := by omega
    refine ⟨_, rfl, _, rfl, d, 11, rfl, rfl, ⟨by decide, by decide⟩, _, 5, rfl, rfl, (by show (0 : Int) < 5; decide), _, _, rfl, rfl, Dw, _, _, V.str ws[k3 + 1], rfl, rfl, SqL.of hw.at_, ?_, by show 2 ≤ sizeLine; decide, last "from" _ (by decide +kernel) (hw.nm _ (List.getElem_mem k3l)) fun h => absurd h (by decide +kernel)⟩
    show atI _ (1 + d / 11 % 5) = _
    rw [e3, show (1 + ((k3 : Nat) : Int)) = ((k3 + 1 : Nat) : Int) by omega]
    exact atI_nat (str_at k3l)
  · refine ⟨_, rfl, rfl, _, rfl, iteX (x := "over") (by decide +kernel) ?_⟩
    refine ⟨_, rfl, rfl, _, rfl, iteD rfl ?_⟩
    obtain ⟨k3, e3, b3⟩ := ixk d 11 7 (by decide)
    have nl : nums.length = 7 := rfl
    have k3l : k3 < nums.length := by omega
    refine ⟨by show 7 ≤ sizeLine; decide, fun t nt => ?_⟩
    have f := Fr.new (E := []) (o := .tup (nums.map fun (n : Nat) => V.int (n : Int))) tb nt
    refine ⟨_, rfl, d, 11, rfl, rfl, ⟨by decide, by decide⟩, _, 7, rfl, rfl, (by show (0 : Int) < 7; decide), t, nums.map (fun (n : Nat) => V.int (n : Int)), _, V.int (nums[k3] : Nat), rfl, rfl, .inl (.inl upd_same), ?_, _, rfl, ?_, by show 2 ≤ sizeLine; decide, fun t2 nt2 => ?_⟩
    · show atI _ (d / 11 % 7) = _
      rw [e3]
      exact atI_nat (by rw [List.getElem?_map, List.getElem?_eq_getElem k3l]; rfl)
    · have : ∀ n ∈ nums, ((n : Nat) : Int).natAbs.log2 < 1920 := by decide +kernel
      exact this _ (List.getElem_mem k3l)
    · exact kk _ _ (.over nums[k3]) (f.trans (Fr.new f.2 nt2)) ⟨List.getElem_mem k3l, Nat.le_refl _, Nat.le_refl _, Nat.le_refl _, by show 2 ≤ 3; decide⟩ (ND.tup (.cons (.str _) (.cons (.str _) .nil)) upd_same (f.3 _ nt2) (by simp))
  · refine ⟨_, rfl, rfl, _, rfl, iteX (x := "marked") (by decide +kernel) ?_⟩
    refine ⟨_, rfl, rfl, _, rfl, iteX (x := "marked") (by decide +kernel) ?_⟩
    refine ⟨_, rfl, rfl, _, rfl, iteX (x := "marked") (by decide +kernel) ?_⟩
    refine ⟨_, rfl, rfl, _, rfl, iteX (x := "marked") (by decide +kernel) ?_⟩
    obtain ⟨k3, e3, b3⟩ := ixk d 11 4 (by decide)
    have k3l : k3 < ws.length := by omega
    refine ⟨_, rfl, _, rfl, rfl, _, rfl, iteD rfl ⟨_, rfl, _, rfl, d, 11, rfl, rfl, ⟨by decide, by decide⟩, _, 4, rfl, rfl, (by show (0 : Int) < 4; decide), Dw, _, _, V.str ws[k3], rfl, rfl, SqL.of hw.at_, ?_, by show 2 ≤ sizeLine; decide, last "marked" _ (by decide +kernel) (hw.nm _ (List.getElem_mem k3l)) fun h => absurd h (by decide +kernel)⟩⟩
    show atI _ (d / 11 % 4) = _
    rw [e3]
    exact atI_nat (str_at k3l)
  · refine ⟨_, rfl, rfl, _, rfl, iteD rfl ?_⟩
    exact ⟨by show 1 ≤ sizeLine; decide, fun t nt => kk _ _ .any (Fr.new tb nt) ⟨trivial, Nat.le_refl _, Nat.le_refl _, by show 0 ≤ 1; decide, by show 1 ≤ 3; decide⟩ (ND.tup (.cons (.str _) .nil) upd_same nt (by simp))⟩
end
end So
end

section
set_option Elab.async false
set_option linter.all false
set_option maxRecDepth 100000
set_option maxHeartbeats 4000000
namespace So
open PySem PySem.Spec PyProof.Rows L2 GxA TL
open GxR (TabB TabG Tabbed)
section
variable {P : Program} {w : World} {K : PySem.W.Frag} {mg : Str → Option Value} {base : Heap}
theorem up {H Hi Hj : Hp} {v : V} {d : PyData} (g : Fr K [] Hi Hj) (h : ND K H [] Hi v d) : ND K H [] Hj v d := Tr.same (nu_fr g (by simp)) h
theorem mL2 {H Hc : Hp} {u v : V} {x : Str} {du dv : PyData} {p t : Addr} (F : Fr K [] H Hc) (hu : ND K H [] Hc u du) (hv : ND K H [] Hc v dv) (np : Hc p = none) (nt : (L2.upd Hc p (.lst [u, v])) t = none) :
    Fr K [] Hc (L2.upd (L2.upd Hc p (.lst [u, v])) t (.tup [.str x, .ref p])) ∧ ND K H [] (L2.upd (L2.upd Hc p (.lst [u, v])) t (.tup [.str x, .ref p])) (.ref t) (.tuple [.str x, .list [du, dv]]) := by
  have f1 := Fr.new (E := []) (o := .lst [u, v]) F.2 np
  have f2 := Fr.new (E := []) (o := .tup [.str x, .ref p]) f1.2 nt
  have G := (f1.trans f2)
  exact ⟨G, ND.tup (.cons (.str _) (.cons (ND.lst (.cons (up G hu) (.cons (up G hv) .nil)) (f2.at upd_same) (F.3 _ np) (by simp)) .nil)) upd_same ((F.trans f1).3 _ nt) (by simp)⟩
theorem mL3 {H Hc : Hp} {u v z : V} {x : Str} {du dv dz : PyData} {p t : Addr} (F : Fr K [] H Hc) (hu : ND K H [] Hc u du) (hv : ND K H [] Hc v dv) (hz : ND K H [] Hc z dz) (np : Hc p = none) (nt : (L2.upd Hc p (.lst [u, v, z])) t = none) :
    Fr K [] Hc (L2.upd (L2.upd Hc p (.lst [u, v, z])) t (.tup [.str x, .ref p])) ∧ ND K H [] (L2.upd (L2.upd Hc p (.lst [u, v, z])) t (.tup [.str x, .ref p])) (.ref t) (.tuple [.str x, .list [du, dv, dz]]) := by
  have f1 := Fr.new (E := []) (o := .lst [u, v, z]) F.2 np
  have f2 := Fr.new (E := []) (o := .tup [.str x, .ref p]) f1.2 nt
  have G := (f1.trans f2)
  exact ⟨G, ND.tup (.cons (.str _) (.cons (ND.lst (.cons (up G hu) (.cons (up G hv) (.cons (up G hz) .nil))) (f2.at upd_same) (F.3 _ np) (by simp)) .nil)) upd_same ((F.trans f1).3 _ nt) (by simp)⟩
theorem mT2 {H Hc : Hp} {u : V} {x : Str} {du : PyData} {t : Addr} (F : Fr K [] H Hc) (hu : ND K H [] Hc u du) (nt : Hc t = none) : Fr K [] Hc (L2.upd Hc t (.tup [.str x, u])) ∧ ND K H [] (L2.upd Hc t (.tup [.str x, u])) (.ref t) (.tuple [.str x, du]) := by
  have f1 := Fr.new (E := []) (o := .tup [.str x, u]) F.2 nt
  exact ⟨f1, ND.tup (.cons (.str _) (.cons (up f1 hu) .nil)) upd_same (F.3 _ nt) (by simp)⟩
def spUnit (K : PySem.W.Frag) : Sp := fun vs H Q _ => ∃ (Dd : Addr) (ds : List Int) (Dw Dk : Addr) (ws : List Str), vs = [.ref Dd, .ref Dw, .ref Dk] ∧ H Dd = some (.lst (ds.map V.int)) ∧ 3 ≤ ds.length ∧ Wds H Dw ws ∧ H Dk = some (.tup (kindsL.map V.str)) ∧ Tb K H ∧
  ∀ (H' : Hp) (v : V) (c : Cnd), Fr K [] H H' → UnitB (ws.take 3) c → ND K H [] H' v c.l → Q v H'
theorem int_at {ds : List Int} {k : Nat} (h : k < ds.length) : (ds.map V.int)[k]? = some (V.int ds[k]) := by
  rw [List.getElem?_map, List.getElem?_eq_getElem h]; rfl
theorem R_unit (T : Txt w K mg base) : FnR P w K mg base CX0 3 (a_law_unit K) (spUnit K) := by
  refine mkR T.f_law_unit sc_law_unit bd_law_unit ?_ ?_
  · rintro vs H Q E ⟨Dd, ds, Dw, Dk, ws, rfl, _⟩; rfl
  rintro cdv A outer s H vs Q E hr ⟨Dd, ds, Dw, Dk, ws, rfl, hd, hl, hw, hk, tb, kk⟩
  have nd := sc_law_unit.nd
  obtain ⟨_, F1⟩ := T.f_law_fact
  refine ⟨_, pss_cons (ps_set (i := 3) nd rfl (.inl rfl) (pe_cF (R_fact T) (hr.mono (by decide)) (by rfl) T.g_law_fact F1.kp (pa_cons (pe_ix ix_list (pv 0) pe_int (fun _ _ => rfl)) (pa_cons (pv 1) (pa_cons (pv 2) pa_nil)))))
    (pss_cons (ps_if (pt_cmpR op_eq (pe_op op_mod (pe_ix ix_list (pv 0) pe_int (fun _ _ => rfl)) pe_int) pe_int (nomark _)) (pss_one (ps_ret (pe_tup (pa_cons pe_str (pa_cons (pv 3) pa_nil))))) pss_nil)
    (pss_cons (ps_if (pt_cmpR op_eq (pe_op op_mod (pe_ix ix_list (pv 0) pe_int (fun _ _ => rfl)) pe_int) pe_int (nomark _))
      (pss_cons (ps_set (i := 4) nd rfl (.inl rfl) (pe_tup (pa_cons (pe_ifExp (pt_cmpR op_eq (pe_op op_mod (pe_op op_fdiv (pe_ix ix_list (pv 0) pe_int (fun _ _ => rfl)) pe_int) pe_int) pe_int (nomark _)) pe_str pe_str)
          (pa_cons (pe_lst (pa_cons (pv 3) (pa_cons (pe_cF (R_fact T) (hr.mono (by decide)) (by rfl) T.g_law_fact F1.kp (pa_cons (pe_ix ix_list (pv 0) pe_int (fun _ _ => rfl)) (pa_cons (pv 1) (pa_cons (pv 2) pa_nil)))) pa_nil))) pa_nil))))
      (pss_one (ps_ret (pe_ifExp (pt_cmpR op_eq (pe_op op_mod (pe_op op_fdiv (pe_ix ix_list (pv 0) pe_int (fun _ _ => rfl)) pe_int) pe_int) pe_int (nomark _)) (pe_tup (pa_cons pe_str (pa_cons (pv 4) pa_nil)))
        (pe_tup (pa_cons pe_str (pa_cons (pe_tup (pa_cons pe_str (pa_cons (pv 4) pa_nil))) pa_nil))))))) pss_nil)
    (pss_one (ps_ret (pv 3))))), ?_⟩
  have i0 := int_at (ds := ds) (k := 0) (by omega)
  have i1 := int_at (ds := ds) (k := 1) (by omega)
  have i2 := int_at (ds := ds) (k := 2) (by omega)
  refine ⟨_, rfl, Dd, _, _, _, rfl, rfl, SqL.of hd, atI_nat (j := 0) i0, _, rfl, _, rfl, _, Dw, Dk, ws, rfl, hw, hk, tb, fun H1 v1 c1 f1 b1 d1 => ?_⟩
  obtain ⟨w1, p1, g1, n1, t1⟩ := b1
  have hd1 := f1.at hd
  refine ⟨_, rfl, Dd, _, _, _, rfl, rfl, SqL.of hd1, atI_nat (j := 1) i1, _, 5, rfl, rfl, (by show (0 : Int) < 5; decide), rfl, _, rfl, ?_⟩
  refine ite2 (fun _ => ?_) (fun _ => ?_)
  · refine ⟨_, rfl, by show 2 ≤ sizeLine; decide, fun t nt => ?_⟩
    obtain ⟨f2, d2⟩ := mT2 (x := "not") f1 d1 nt
    exact kk _ _ (.neg c1) (f1.trans f2) ⟨w1, by show c1.dep + 1 ≤ 2; omega, by show c1.hgt + 1 ≤ 2; omega, by show c1.nf ≤ 2; omega, by show c1.told.length + 1 ≤ 10; omega⟩ d2
  refine ⟨_, rfl, Dd, _, _, _, rfl, rfl, SqL.of hd1, atI_nat (j := 1) i1, _, 5, rfl, rfl, (by show (0 : Int) < 5; decide), rfl, _, rfl, ?_⟩
  refine ite2 (fun _ => ?_) (fun _ => ?_)
  · -- the end, from the inner one
    have fin : ∀ (c : Cnd) (t : Addr) (H3 : Hp), Fr K [] H H3 → c.wf (ws.take 3) 2 → c.dep ≤ 0 → c.hgt ≤ 1 → c.nf ≤ 2 → c.told.length ≤ 7 → ND K H [] H3 (.ref t) c.l →
        tRet (tIf (tTest (tOp rEq (tOp (rI (fun _ j => 0 < j) fun i j => .int (i % j)) (tOp (rI CDiv fun i j => .int (i / j)) (tOp (rIxL K) (tVar 0) (tC (.int 1))) (tC (.int 10))) (tC (.int 2))) (tC (.int 0)))) (tTup (tCons (tC (.str "(")) (tCons (tVar 4) tNil))) (tTup (tCons (tC (.str "not")) (tCons (tTup (tCons (tC (.str "(")) (tCons (tVar 4) tNil))) tNil))))
          { nx := fun _ H' => Q .non H', rt := Q } [some (V.ref Dd), some (V.ref Dw), some (V.ref Dk), some v1, some (V.ref t)] H3 := by
      intro c t H3 f3 h1 h2 h3 h4 h5 d3
      refine ⟨_, rfl, Dd, _, _, _, rfl, rfl, SqL.of (f3.at hd), atI_nat (j := 1) i1, _, 10, rfl, rfl, ⟨by decide, by decide⟩, _, 2, rfl, rfl, (by show (0 : Int) < 2; decide), rfl, _, rfl, ?_⟩
      refine ite2 (fun _ => ?_) (fun _ => ?_)
      · refine ⟨_, rfl, by show 2 ≤ sizeLine; decide, fun t2 nt2 => ?_⟩
        obtain ⟨f4, d4⟩ := mT2 (x := "(") f3 d3 nt2
        exact kk _ _ (.par c) (f3.trans f4) ⟨h1, by show c.dep + 1 ≤ 2; omega, by show c.hgt ≤ 2; omega, h4, by show (c.told ++ [(")" : Str)]).length + 1 ≤ 10; rw [List.length_append]; show c.told.length + 1 + 1 ≤ 10; omega⟩ d4
      · refine ⟨_, rfl, by show 2 ≤ sizeLine; decide, fun t2 nt2 => ?_⟩
        obtain ⟨f4, d4⟩ := mT2 (x := "(") f3 d3 nt2
        refine ⟨by show 2 ≤ sizeLine; decide, fun t3 nt3 => ?_⟩
        obtain ⟨f5, d5⟩ := mT2 (x := "not") (f3.trans f4) d4 nt3
        exact kk _ _ (.neg (.par c)) ((f3.trans f4).trans f5) ⟨h1, by show c.dep + 1 + 1 ≤ 2; omega, by show c.hgt + 1 ≤ 2; omega, h4, by show (c.told ++ [(")" : Str)]).length + 1 + 1 ≤ 10; rw [List.length_append]; show c.told.length + 1 + 1 + 1 ≤ 10; omega⟩ d5
    refine ⟨_, rfl, Dd, _, _, _, rfl, rfl, SqL.of hd1, atI_nat (j := 1) i1, _, 5, rfl, rfl, ⟨by decide, by decide⟩, _, 2, rfl, rfl, (by show (0 : Int) < 2; decide), rfl, _, rfl, ?_⟩
    refine ite2 (fun _ => ?_) (fun _ => ?_)
    · refine ⟨_, rfl, _, rfl, Dd, _, _, _, rfl, rfl, SqL.of hd1, atI_nat (j := 2) i2, _, rfl, _, rfl, _, Dw, Dk, ws, rfl, hw.fr f1, f1.at hk, f1.2, fun H2 v2 c2 f2 b2 d2 => ?_⟩
      obtain ⟨w2, p2, g2, n2, t2⟩ := b2
      refine ⟨by show 2 ≤ sizeLine; decide, fun p np => ⟨by show 2 ≤ sizeLine; decide, fun t nt => ?_⟩⟩
      obtain ⟨f3, d3⟩ := mL2 (x := "or") (f1.trans f2) (up f2 d1) (Tr.same (nu_back f1.3 (by simp)) d2) np nt
      exact fin (.or2 c1 c2) t _ ((f1.trans f2).trans f3) ⟨Nat.le_refl _, w1.up (by omega), w2.up (by omega)⟩ (by show max c1.dep c2.dep ≤ 0; omega) (by show max c1.hgt c2.hgt + 1 ≤ 1; omega) (by show c1.nf + c2.nf ≤ 2; omega) (by show (c1.told ++ (("or" : Str) :: c2.told)).length ≤ 7; rw [List.length_append, List.length_cons]; omega) d3
    · refine ⟨_, rfl, _, rfl, Dd, _, _, _, rfl, rfl, SqL.of hd1, atI_nat (j := 2) i2, _, rfl, _, rfl, _, Dw, Dk, ws, rfl, hw.fr f1, f1.at hk, f1.2, fun H2 v2 c2 f2 b2 d2 => ?_⟩
      obtain ⟨w2, p2, g2, n2, t2⟩ := b2
      refine ⟨by show 2 ≤ sizeLine; decide, fun p np => ⟨by show 2 ≤ sizeLine; decide, fun t nt => ?_⟩⟩
      obtain ⟨f3, d3⟩ := mL2 (x := "and") (f1.trans f2) (up f2 d1) (Tr.same (nu_back f1.3 (by simp)) d2) np nt
      exact fin (.and2 c1 c2) t _ ((f1.trans f2).trans f3) ⟨by omega, w1, w2⟩ (by show max c1.dep c2.dep ≤ 0; omega) (by show max c1.hgt c2.hgt + 1 ≤ 1; omega) (by show c1.nf + c2.nf ≤ 2; omega) (by show (c1.told ++ (("and" : Str) :: c2.told)).length ≤ 7; rw [List.length_append, List.length_cons]; omega) d3
  · exact ⟨_, rfl, kk H1 v1 c1 f1 ⟨w1, by omega, by omega, by omega, by omega⟩ d1⟩
end
end So
end

section
set_option Elab.async false
set_option linter.all false
set_option maxRecDepth 100000
set_option maxHeartbeats 4000000
namespace So
open PySem PySem.Spec PyProof.Rows L2 GxA TL
open GxR (TabB TabG Tabbed)
section
variable {P : Program} {w : World} {K : PySem.W.Frag} {mg : Str → Option Value} {base : Heap}
def spCondition (K : PySem.W.Frag) : Sp := fun vs H Q _ => ∃ (Dd : Addr) (ds : List Int) (Dw Dk : Addr) (ws : List Str), vs = [.ref Dd, .ref Dw, .ref Dk] ∧ H Dd = some (.lst (ds.map V.int)) ∧ 5 ≤ ds.length ∧ Wds H Dw ws ∧ H Dk = some (.tup (kindsL.map V.str)) ∧ Tb K H ∧
  ∀ (H' : Hp) (v : V) (c : Cnd), Fr K [] H H' → CondB (ws.take 3) c → ND K H [] H' v c.l → Q v H'
theorem and2_ok {W : List Str} {a b : Cnd} (ha : UnitB W a) (hb : UnitB W b) : (Cnd.and2 a b).wf W 1 ∧ (Cnd.and2 a b).dep ≤ 2 ∧ (Cnd.and2 a b).hgt ≤ 3 ∧ (Cnd.and2 a b).nf ≤ 4 ∧ (Cnd.and2 a b).told.length ≤ 21 := by
  obtain ⟨h1, h2, h3, h4, h5⟩ := ha
  obtain ⟨g1, g2, g3, g4, g5⟩ := hb
  refine ⟨⟨Nat.le_refl _, h1, g1⟩, ?_, ?_, ?_, ?_⟩
  · show max a.dep b.dep ≤ 2; omega
  · show max a.hgt b.hgt + 1 ≤ 3; omega
  · show a.nf + b.nf ≤ 4; omega
  · show (a.told ++ (("and" : Str) :: b.told)).length ≤ 21; rw [List.length_append, List.length_cons]; omega
theorem unit_cond {W : List Str} {a : Cnd} (ha : UnitB W a) : CondB W a := by
  obtain ⟨h1, h2, h3, h4, h5⟩ := ha
  exact ⟨h1.up (by omega), by omega, by omega, by omega, by omega⟩
theorem or_cond {W : List Str} {a b : Cnd} (h : a.wf W 1 ∧ a.dep ≤ 2 ∧ a.hgt ≤ 3 ∧ b.wf W 1 ∧ b.dep ≤ 2 ∧ b.hgt ≤ 3 ∧ a.nf + b.nf ≤ 6 ∧ a.told.length + b.told.length ≤ 31) : CondB W (.or2 a b) := by
  obtain ⟨h1, h2, h3, h4, h5, h6, h7, h8⟩ := h
  refine ⟨⟨Nat.le_refl _, h1, h4⟩, ?_, ?_, h7, ?_⟩
  · show max a.dep b.dep ≤ 2; omega
  · show max a.hgt b.hgt + 1 ≤ 4; omega
  · show (a.told ++ (("or" : Str) :: b.told)).length ≤ 32; rw [List.length_append, List.length_cons]; omega
theorem R_condition (T : Txt w K mg base) : FnR P w K mg base CX0 6 (a_law_condition K) (spCondition K) := by
  refine mkR T.f_law_condition sc_law_condition bd_law_condition ?_ ?_
  · rintro vs H Q E ⟨Dd, ds, Dw, Dk, ws, rfl, _⟩; rfl
  rintro cdv A outer s H vs Q E hr ⟨Dd, ds, Dw, Dk, ws, rfl, hd, hl, hw, hk, tb, kk⟩
  have nd := sc_law_condition.nd
  obtain ⟨_, F1⟩ := T.f_law_unit
  refine ⟨_, pss_cons (ps_par (i := 3) (j := 4) (by rfl) nd rfl rfl (by decide) rfl rfl (pa_cons (pe_cF (R_unit T) (hr.mono (by decide)) (by rfl) T.g_law_unit F1.kp (pa_cons (pv 0) (pa_cons (pv 1) (pa_cons (pv 2) pa_nil))))
      (pa_cons (pe_cF (R_unit T) (hr.mono (by decide)) (by rfl) T.g_law_unit F1.kp (pa_cons (pe_slice sl_list (pv 0) (po_some pe_int) po_none) (pa_cons (pv 1) (pa_cons (pv 2) pa_nil)))) pa_nil)) (by rfl))
    (pss_cons (ps_set (i := 5) nd rfl (.inl rfl) (pe_cF (R_unit T) (hr.mono (by decide)) (by rfl) T.g_law_unit F1.kp (pa_cons (pe_slice sl_list (pv 0) (po_some pe_int) po_none) (pa_cons (pv 1) (pa_cons (pv 2) pa_nil)))))
    (pss_cons (ps_set (i := 6) nd rfl (.inl rfl) (pe_tup (pa_cons (pv 3) (pa_cons (pv 3)
      (pa_cons (pe_tup (pa_cons pe_str (pa_cons (pe_lst (pa_cons (pv 3) (pa_cons (pv 4) pa_nil))) pa_nil)))
      (pa_cons (pe_tup (pa_cons pe_str (pa_cons (pe_lst (pa_cons (pv 3) (pa_cons (pv 4) pa_nil))) pa_nil)))
      (pa_cons (pe_tup (pa_cons pe_str (pa_cons (pe_lst (pa_cons (pe_tup (pa_cons pe_str (pa_cons (pe_lst (pa_cons (pv 3) (pa_cons (pv 4) pa_nil))) pa_nil))) (pa_cons (pv 5) pa_nil))) pa_nil))) pa_nil)))))))
    (pss_one (ps_ret (pe_ix ix_tup (pe_op op_catT (pv 6) (pe_tup
      (pa_cons (pe_tup (pa_cons pe_str (pa_cons (pe_lst (pa_cons (pv 5) (pa_cons (pe_tup (pa_cons pe_str (pa_cons (pe_lst (pa_cons (pv 3) (pa_cons (pv 4) pa_nil))) pa_nil))) pa_nil))) pa_nil)))
      (pa_cons (pe_tup (pa_cons pe_str (pa_cons (pe_lst (pa_cons (pv 3) (pa_cons (pv 4) (pa_cons (pv 5) pa_nil)))) pa_nil))) pa_nil)))) (pe_op op_mod (pe_ix ix_list (pv 0) pe_int (fun _ _ => rfl)) pe_int) (fun _ _ => rfl)))))), ?_⟩
  have dl : (ds.map V.int).length = ds.length := List.length_map ..
  refine ⟨_, rfl, _, rfl, _, rfl, Dd, ds, Dw, Dk, ws, rfl, hd, by omega, hw, hk, tb, fun H1 v1 c1 f1 b1 d1 => ?_⟩
  refine ⟨_, rfl, 1, rfl, Dd, _, rfl, SqL.of (f1.at hd), fun s1 ns1 => ?_⟩
  rw [show (some (1 : Int)) = some ((1 : Nat) : Int) from rfl, cutV_n (by rw [dl]; omega), ← List.map_drop]
  have q1 := Fr.new (E := []) (o := .lst ((ds.drop 1).map V.int)) f1.2 ns1
  have g1 := f1.trans q1
  refine ⟨_, rfl, _, rfl, s1, ds.drop 1, Dw, Dk, ws, rfl, upd_same, by rw [List.length_drop]; omega, hw.fr g1, g1.at hk, g1.2, fun H2 v2 c2 f2 b2 d2 => ?_⟩
  have g2 := g1.trans f2
  have e1 := up (q1.trans f2) d1
  have e2 : ND K H [] H2 v2 c2.l := Tr.same (nu_back g1.3 (by simp)) d2
  refine ⟨_, _, rfl, _, rfl, 2, rfl, Dd, _, rfl, SqL.of (g2.at hd), fun s2 ns2 => ?_⟩
  rw [show (some (2 : Int)) = some ((2 : Nat) : Int) from rfl, cutV_n (by rw [dl]; omega), ← List.map_drop]
  have q2 := Fr.new (E := []) (o := .lst ((ds.drop 2).map V.int)) g2.2 ns2
  have g3 := g2.trans q2
  refine ⟨_, rfl, _, rfl, s2, ds.drop 2, Dw, Dk, ws, rfl, upd_same, by rw [List.length_drop]; omega, hw.fr g3, g3.at hk, g3.2, fun H3 v3 c3 f3 b3 d3 => ?_⟩
  have G3 := g3.trans f3
  have a1 := up (q2.trans f3) e1
  have a2 := up (q2.trans f3) e2
  have a3 : ND K H [] H3 v3 c3.l := Tr.same (nu_back g3.3 (by simp)) d3
  clear e1 e2 d1 d2 d3
  -- joined
  refine ⟨_, rfl, _, rfl, _, rfl, _, rfl, by show 2 ≤ sizeLine; decide, fun p1 n1 => ⟨by show 2 ≤ sizeLine; decide, fun t1 m1 => ?_⟩⟩
  obtain ⟨h1, j1⟩ := mL2 (x := "and") G3 a1 a2 n1 m1
  have G4 := G3.trans h1
  refine ⟨_, rfl, _, rfl, by show 2 ≤ sizeLine; decide, fun p2 n2 => ⟨by show 2 ≤ sizeLine; decide, fun t2 m2 => ?_⟩⟩
  obtain ⟨h2, j2⟩ := mL2 (x := "or") G4 (up h1 a1) (up h1 a2) n2 m2
  have G5 := G4.trans h2
  have h12 := h1.trans h2
  refine ⟨_, rfl, _, rfl, by show 2 ≤ sizeLine; decide, fun p3 n3 => ⟨by show 2 ≤ sizeLine; decide, fun t3 m3 => ?_⟩⟩
  obtain ⟨h3, j3⟩ := mL2 (x := "and") G5 (up h12 a1) (up h12 a2) n3 m3
  have G6 := G5.trans h3
  have h123 := h12.trans h3
  refine ⟨_, rfl, by show 2 ≤ sizeLine; decide, fun p4 n4 => ⟨by show 2 ≤ sizeLine; decide, fun t4 m4 => ?_⟩⟩
  obtain ⟨h4, j4⟩ := mL2 (x := "or") G6 j3 (up h123 a3) n4 m4
  have G7 := G6.trans h4
  have h1234 := h123.trans h4
  refine ⟨by show 5 ≤ sizeLine; decide, fun tj ntj => ?_⟩
  have h5 := Fr.new (E := []) (o := .tup [v1, v1, .ref t1, .ref t2, .ref t4]) G7.2 ntj
  have G8 := G7.trans h5
  have hA := h1234.trans h5
  -- the rest
  refine ⟨_, rfl, _, rfl, _, rfl, _, rfl, by show 2 ≤ sizeLine; decide, fun p5 n5 => ⟨by show 2 ≤ sizeLine; decide, fun t5 m5 => ?_⟩⟩
  obtain ⟨h6, j6⟩ := mL2 (x := "and") G8 (up hA a1) (up hA a2) n5 m5
  have G9 := G8.trans h6
  have hB := hA.trans h6
  refine ⟨by show 2 ≤ sizeLine; decide, fun p6 n6 => ⟨by show 2 ≤ sizeLine; decide, fun t6 m6 => ?_⟩⟩
  obtain ⟨h7, j7⟩ := mL2 (x := "or") G9 (up hB a3) j6 n6 m6
  have G10 := G9.trans h7
  have hC := hB.trans h7
  refine ⟨_, rfl, _, rfl, _, rfl, by show 3 ≤ sizeLine; decide, fun p7 n7 => ⟨by show 2 ≤ sizeLine; decide, fun t7 m7 => ?_⟩⟩
  obtain ⟨h8, j8⟩ := mL3 (x := "and") G10 (up hC a1) (up hC a2) (up hC a3) n7 m7
  have G11 := G10.trans h8
  have hD := hC.trans h8
  refine ⟨by show 2 ≤ sizeLine; decide, fun tk ntk => ?_⟩
  have h9 := Fr.new (E := []) (o := .tup [.ref t6, .ref t7]) G11.2 ntk
  have G12 := G11.trans h9
  have tjA := ((((h6.trans h7).trans h8).trans h9)).at (upd_same (H := _) (a := tj) (o := .tup [v1, v1, .ref t1, .ref t2, .ref t4]))
  refine ⟨tj, tk, _, _, rfl, rfl, .inl (.inl tjA), .inl (.inl upd_same), by simp, by show 5 + 2 ≤ sizeLine; decide, (fun z => nomatch z), fun _ tf ntf => ?_⟩
  have h10 := Fr.new (E := []) (o := .tup ([v1, v1, .ref t1, .ref t2, .ref t4] ++ [.ref t6, .ref t7])) G12.2 ntf
  have G13 := G12.trans h10
  have hE := (hD.trans h9).trans h10
  have i4 := int_at (ds := ds) (k := 4) (by omega)
  obtain ⟨k, ek, bk⟩ := ixm ds[4] 7 (by decide)
  have fin : ∀ v c, ([v1, v1, V.ref t1, V.ref t2, V.ref t4, V.ref t6, V.ref t7] : List V)[k]? = some v → CondB (ws.take 3) c → ND K H [] _ v c.l → tOp (rIxT K) (tC (.ref tf)) (tOp (rI (fun _ j => 0 < j) fun i j => .int (i % j)) (tOp (rIxL K) (tVar 0) (tC (.int 4))) (tC (.int 7))) [some (V.ref Dd), some (V.ref Dw), some (V.ref Dk), some v1, some v2, some v3, some (.ref tj)] _ Q := fun v c hv hc hn =>
    ⟨_, rfl, Dd, _, _, _, rfl, rfl, SqL.of (G13.at hd), atI_nat (j := 4) i4, _, 7, rfl, rfl, (by show (0 : Int) < 7; decide), tf, _, _, v, rfl, rfl, .inl (.inl upd_same), by rw [ek]; exact atI_nat hv, kk _ v c G13 hc hn⟩
  have a12 := and2_ok b1 b2
  obtain ⟨x1, x2, x3, x4, x5⟩ := a12
  obtain ⟨y1, y2, y3, y4, y5⟩ := b3
  have b3' : UnitB (ws.take 3) c3 := ⟨y1, y2, y3, y4, y5⟩
  obtain ⟨z1, z2, z3, z4, z5⟩ := b1
  have b1' : UnitB (ws.take 3) c1 := ⟨z1, z2, z3, z4, z5⟩
  obtain ⟨u1, u2, u3, u4, u5⟩ := b2
  have k7 : k < 7 := by omega
  have kc : k = 0 ∨ k = 1 ∨ k = 2 ∨ k = 3 ∨ k = 4 ∨ k = 5 ∨ k = 6 := by omega
  rcases kc with rfl | rfl | rfl | rfl | rfl | rfl | rfl
  · exact fin v1 c1 rfl (unit_cond b1') (up hE a1)
  · exact fin v1 c1 rfl (unit_cond b1') (up hE a1)
  · exact fin (.ref t1) (.and2 c1 c2) rfl ⟨Cnd.wf.up x1 (by omega), x2, by omega, by omega, by omega⟩ (up (((((((h2.trans h3).trans h4).trans h5).trans h6).trans h7).trans h8).trans (h9.trans h10)) j1)
  · exact fin (.ref t2) (.or2 c1 c2) rfl (or_cond ⟨z1.up (by omega), z2, by omega, u1.up (by omega), u2, by omega, by omega, by omega⟩) (up ((((((h3.trans h4).trans h5).trans h6).trans h7).trans h8).trans (h9.trans h10)) j2)
  · exact fin (.ref t4) (.or2 (.and2 c1 c2) c3) rfl (or_cond ⟨x1, x2, x3, y1.up (by omega), y2, by omega, by omega, by omega⟩) (up ((((h5.trans h6).trans h7).trans h8).trans (h9.trans h10)) j4)
  · exact fin (.ref t6) (.or2 c3 (.and2 c1 c2)) rfl (or_cond ⟨y1.up (by omega), y2, by omega, x1, x2, x3, by omega, by omega⟩) (up (h8.trans (h9.trans h10)) j7)
  · refine fin (.ref t7) (.and3 c1 c2 c3) rfl ⟨⟨by omega, z1, u1, y1⟩, ?_, ?_, ?_, ?_⟩ (up (h9.trans h10) j8)
    · show max c1.dep (max c2.dep c3.dep) ≤ 2; omega
    · show max c1.hgt (max c2.hgt c3.hgt) + 1 ≤ 4; omega
    · show c1.nf + (c2.nf + c3.nf) ≤ 6; omega
    · show (c1.told ++ (("and" : Str) :: c2.told) ++ (("and" : Str) :: c3.told)).length ≤ 32
      rw [List.length_append, List.length_append, List.length_cons, List.length_cons]; omega
end
end So
end

section
set_option Elab.async false
set_option linter.all false
set_option maxRecDepth 100000
set_option maxHeartbeats 4000000
namespace So
open PySem PySem.Spec PyProof.Rows L2 GxA TL
open GxR (TabB TabG Tabbed)
/-- a deed as the law holds it -/
def dL (d : Deed) : PyData := if d.1 = "stop" then .tuple [.str "stop"] else .tuple [.str d.1, .str d.2]
def ruleL (r : RuleD) : PyData := .tuple [r.1.l, .list (r.2.map dL)]
def deedWs : List Str := ["file", "file", "mark", "unmark", "pass", "mark", "stop"]
section
variable {P : Program} {w : World} {K : PySem.W.Frag} {mg : Str → Option Value} {base : Heap}
def spDeeds (K : PySem.W.Frag) : Sp := fun vs H Q _ => ∃ (Dd : Addr) (xs : List Int) (Dw : Addr) (ws : List Str), vs = [.ref Dd, .ref Dw] ∧ H Dd = some (.lst (xs.map V.int)) ∧ 4 ≤ xs.length ∧ Wds H Dw ws ∧ Tb K H ∧
  ∀ (H' : Hp) (v : V) (ds : List Deed), Fr K [] H H' → ds ≠ [] → ds.length ≤ 3 → (∀ d ∈ ds, dWf d) → ND K H [] H' v (.list (ds.map dL)) → Q v H'
theorem R_deeds (T : Txt w K mg base) : FnR P w K mg base CX0 2 (a_law_deeds K) (spDeeds K) := by
  refine mkR T.f_law_deeds sc_law_deeds bd_law_deeds ?_ ?_
  · rintro vs H Q E ⟨Dd, xs, Dw, ws, rfl, _⟩; rfl
  rintro cdv A outer s H vs Q E hr ⟨Dd, xs, Dw, ws, rfl, hd, hl, hw, tb, kk⟩
  have nd := sc_law_deeds.nd
  refine ⟨_, PSs.nox <| pss_cons (ps_set (i := 2) nd rfl (.inl rfl) (pe_lst pa_nil))
    (pss_cons (ps_for PassesOwn.never rfl (pi_list (pe_slice sl_list (pv 0) po_none (po_some (pe_op op_add pe_int (pe_op op_mod (pe_ix ix_list (pv 0) pe_int (fun _ _ => rfl)) pe_int))))) (pg_name (i := 3) nd rfl (.inl rfl))
      (pss_cons (ps_set (i := 4) nd rfl (.inl rfl) (pe_ix ix_tup (pe_tup (pa_cons pe_str (pa_cons pe_str (pa_cons pe_str (pa_cons pe_str (pa_cons pe_str (pa_cons pe_str (pa_cons pe_str pa_nil)))))))) (pe_op op_mod (pv 3) pe_int) (fun _ _ => rfl)))
      (pss_one (ps_expr (pe_bm PySem.F.plainAttrs_list PySem.F.slot_list_append PySem.F.type_list_append mt_append (pv 2) (pa_cons
        (pe_ifExp (pt_cmpR op_eq (pv 4) pe_str (nomark _)) (pe_tup (pa_cons (pv 4) pa_nil)) (pe_tup (pa_cons (pv 4) (pa_cons (pe_ix ix_list (pv 1) (pe_op op_add (pe_op op_mod (pe_op op_fdiv (pv 3) pe_int) pe_int) (pe_op op_mod (pe_op op_fdiv (pv 3) pe_int) pe_int)) (fun _ _ => rfl)) pa_nil)))) pa_nil))))))
    (pss_one (ps_ret (pv 2)))), ?_⟩
  refine ⟨by show 0 ≤ sizeLine; decide, fun D nD => ?_⟩
  have hD : H D = none := nD
  have f1 := Fr.new (E := []) (o := .lst []) tb hD
  have i3 := int_at (ds := xs) (k := 3) (by omega)
  obtain ⟨k, ek, bk⟩ := ixm xs[3] 3 (by decide)
  refine ⟨_, rfl, _, rfl, Dd, _, _, _, rfl, rfl, SqL.of (f1.at hd), atI_nat (j := 3) i3, xs[3], 3, rfl, rfl, (by show (0 : Int) < 3; decide), _, _, rfl, rfl, _, rfl, Dd, _, rfl, SqL.of (f1.at hd), fun S nS => ?_⟩
  obtain ⟨ys, hys, hyl⟩ : ∃ ys : List Int, cutV (xs.map V.int) none (some ((1 : Int) + (xs[3] % 3 : Int) : Int)) = ys.map V.int ∧ 1 ≤ ys.length ∧ ys.length ≤ 3 := by
    refine ⟨xs.take (k + 1), ?_, ?_⟩
    · rw [ek, show ((1 : Int) + ((k : Nat) : Int)) = ((k + 1 : Nat) : Int) by omega, List.map_take]
      unfold cutV
      rw [HT.sIx_none, HT.sIx_nat, List.drop_zero, Nat.sub_zero, List.length_map, Nat.min_eq_left (by omega)]
    · rw [List.length_take]; omega
  rw [hys]
  have q1 := Fr.new (E := []) (o := .lst (ys.map V.int)) f1.2 nS
  have f2 := f1.trans q1
  have DS : D ≠ S := ne_of_none upd_same nS
  refine ⟨S, rfl, ⟨_, SqL.of upd_same⟩, ?_⟩
  refine for_list (xs := ys.map V.int) (fun i σ H' => (∃ y z, σ = [some (V.ref Dd), some (.ref Dw), some (.ref D), y, z]) ∧ Fr K [] H H' ∧ H' S = some (.lst (ys.map V.int)) ∧ ∃ (vs : List V) (ds : List Deed), H' D = some (.lst vs) ∧ ds.length = i ∧ (∀ d ∈ ds, dWf d) ∧ NDs K H [D] H' vs (ds.map dL))
    ⟨⟨_, _, rfl⟩, f2, upd_same, [], [], by rw [upd_ne DS]; exact upd_same, rfl, fun _ m => (nomatch m), .nil⟩ (fun i σ H' _ ⟨_, _, h, _⟩ => SqL.of h) (fun i y σ H' hy ⟨⟨z1, z2, es⟩, f, hS, vs, ds, hv, hdl, hdw, hn⟩ => ?_) (fun σ H' ⟨⟨z1, z2, es⟩, f, hS, vs, ds, hv, hdl, hdw, hn⟩ => ?_)
  · subst es
    obtain ⟨x, rfl⟩ : ∃ x, y = V.int x := by
      rw [List.getElem?_map] at hy
      cases e : ys[i]? with
      | none => rw [e] at hy; cases hy
      | some x => rw [e] at hy; exact ⟨x, (Option.some.inj hy).symm⟩
    have hi : i < ys.length := by have := (List.getElem?_eq_some_iff.mp hy).1; rwa [List.length_map] at this
    obtain ⟨k1, e1, b1⟩ := ixm x 7 (by decide)
    have dl7 : deedWs.length = 7 := rfl
    have k1l : k1 < deedWs.length := by omega
    refine ⟨by show 7 ≤ sizeLine; decide, fun t nt => ?_⟩
    have g1 := Fr.new (E := []) (o := .tup (deedWs.map V.str)) f.2 nt
    refine ⟨_, rfl, x, 7, rfl, rfl, (by show (0 : Int) < 7; decide), t, deedWs.map V.str, _, V.str deedWs[k1], rfl, rfl, .inl (.inl upd_same), ?_, ?_⟩
    · show atI _ (x % 7) = _
      rw [e1]
      exact atI_nat (str_at k1l)
    have hm : deedWs[k1] ∈ deedWs := List.getElem_mem k1l
    generalize deedWs[k1] = kd at hm ⊢
    have hv1 := g1.at hv
    have hS1 := g1.at hS
    have vl : vs.length = ds.length := by rw [TrAll.len hn, List.length_map]
    have vlt : vs.length < sizeLine := by rw [vl, hdl]; exact Nat.lt_of_lt_of_le hi (Nat.le_trans hyl.2 (by decide))
    have fin : ∀ (p : Addr) (d : Deed) (H2 : Hp) (us : List V) (es : List PyData), Fr K [] H' H2 → H2 p = none → dWf d → dL d = .tuple es → TrAll H us es → (∀ H3 : Hp, TrAll H3 us es) →
        (∃ y z, ([some (V.ref Dd), some (.ref Dw), some (.ref D), some (.int x), some (.str kd)] : L2.St) = [some (V.ref Dd), some (.ref Dw), some (.ref D), y, z]) ∧ Fr K [] H (L2.upd (L2.upd H2 p (.tup us)) D (.lst (vs ++ [.ref p]))) ∧ (L2.upd (L2.upd H2 p (.tup us)) D (.lst (vs ++ [.ref p]))) S = some (.lst (ys.map V.int)) ∧
          ∃ (vs' : List V) (ds' : List Deed), (L2.upd (L2.upd H2 p (.tup us)) D (.lst (vs ++ [.ref p]))) D = some (.lst vs') ∧ ds'.length = i + 1 ∧ (∀ d ∈ ds', dWf d) ∧ NDs K H [D] (L2.upd (L2.upd H2 p (.tup us)) D (.lst (vs ++ [.ref p]))) vs' (ds'.map dL) := by
      intro p d H2 us es g np hw1 he _ hu
      have g2 := Fr.new (E := []) (o := .tup us) (f.trans g).2 np
      have F := (f.trans g).trans g2
      have pD : p ≠ D := fun z => by rw [z, g.at hv] at np; cases np
      have hp0 : H p = none := (f.trans g).3 _ np
      refine ⟨⟨_, _, rfl⟩, F.upNew tb hD, by rw [upd_ne DS.symm]; exact (g.trans g2).at hS, vs ++ [.ref p], ds ++ [d], upd_same, by rw [List.length_append, hdl]; rfl, fun e m => ?_, ?_⟩
      · rcases List.mem_append.mp m with m | m
        · exact hdw e m
        · rw [List.mem_singleton.mp m]; exact hw1
      · rw [List.map_append]
        refine TrAll.snoc (TrAll.same (Same.trans (nu_fr (g.trans g2) (by simp)) (nu_upd (.inl (List.mem_singleton.mpr rfl)))) hn) ?_
        rw [he]
        exact ND.tup (hu _) (by rw [upd_ne pD]; exact upd_same) hp0 (fun m => pD (List.mem_singleton.mp m))
    refine ⟨_, rfl, .inl ⟨rfl, _, SqL.of hv1⟩, _, rfl, rfl, _, rfl, ?_⟩
    refine ite2 (fun hst => ?_) (fun hst => ?_)
    · have hst : kd = "stop" := by
        have z := of_decide_eq_true hst
        injection z
      subst hst
      refine ⟨_, rfl, by show 1 ≤ sizeLine; decide, fun p np => ?_⟩
      have pD : D ≠ p := ne_of_none hv1 np
      exact ⟨D, vs, .ref p, rfl, rfl, by rw [upd_ne pD]; exact hv1, vlt, fin p ("stop", "") _ [.str "stop"] [.str "stop"] g1 np (.inl rfl) (by unfold dL; exact if_pos rfl) (.cons (.str _) .nil) fun _ => .cons (.str _) .nil⟩
    · have hst : kd ≠ "stop" := fun z => hst (decide_eq_true (by rw [z]))
      obtain ⟨k2, e2, b2⟩ := ixk x 7 4 (by decide)
      obtain ⟨k3, e3, b3⟩ := ixk x 28 2 (by decide)
      have l6 := hw.len
      have k2l : k2 + k3 < ws.length := by omega
      refine ⟨_, rfl, _, rfl, _, rfl, x, 7, rfl, rfl, ⟨by decide, by decide⟩, _, 4, rfl, rfl, (by show (0 : Int) < 4; decide), _, rfl, x, 28, rfl, rfl, ⟨by decide, by decide⟩, _, 2, rfl, rfl, (by show (0 : Int) < 2; decide), _, _, rfl, rfl, Dw, _, _, V.str ws[k2 + k3], rfl, rfl, SqL.of ((f.trans g1).at hw.at_), ?_, by show 2 ≤ sizeLine; decide, fun p np => ?_⟩
      · show atI _ (x / 7 % 4 + x / 28 % 2) = _
        rw [e2, e3, show (((k2 : Nat) : Int) + ((k3 : Nat) : Int)) = ((k2 + k3 : Nat) : Int) by omega]
        exact atI_nat (str_at k2l)
      have pD : D ≠ p := ne_of_none hv1 np
      refine ⟨D, vs, .ref p, rfl, rfl, by rw [upd_ne pD]; exact hv1, vlt, fin p (kd, ws[k2 + k3]) _ [.str kd, .str ws[k2 + k3]] [.str kd, .str ws[k2 + k3]] g1 np (.inr ⟨?_, hw.nm _ (List.getElem_mem k2l)⟩) (by unfold dL; exact if_neg hst) (.cons (.str _) (.cons (.str _) .nil)) fun _ => .cons (.str _) (.cons (.str _) .nil)⟩
      show kd ∈ kindsD
      simp only [deedWs, List.mem_cons, List.not_mem_nil, or_false] at hm
      rcases hm with rfl | rfl | rfl | rfl | rfl | rfl | rfl <;> first | exact absurd rfl hst | decide +kernel
  · subst es
    rw [List.length_map] at hdl
    refine ⟨_, rfl, kk H' _ ds f (fun z => by rw [z] at hdl; simp at hdl; omega) (by omega) hdw (ND.lst (TrAll.same nu_drop hn) hv hD (by simp))⟩
end
end So
end

section
set_option Elab.async false
set_option linter.all false
set_option maxRecDepth 100000
set_option maxHeartbeats 4000000
namespace So
open PySem PySem.Spec PyProof.Rows L2 GxA TL
open GxR (TabB TabG Tabbed)
theorem dTold_len (d : Deed) : (dTold d).length ≤ 2 := by
  unfold dTold
  split <;> simp
theorem rwf_of {W : List Str} {c : Cnd} {ds : List Deed} (hc : CondB W c) (h1 : ds ≠ []) (h2 : ds.length ≤ 3) (h3 : ∀ d ∈ ds, dWf d) : RWf W (c, ds) := by
  obtain ⟨c1, c2, c3, c4, c5⟩ := hc
  refine ⟨c1, by show c.dep < 4; omega, by show c.hgt < 8; omega, by show c.nf ≤ 20; omega, h1, h3, by show ds.length ≤ 5; omega, ?_⟩
  show (("if" : Str) :: (c.told ++ (("then" : Str) :: dsT ds))).length ≤ 60
  have hd : (dsT ds).length ≤ 8 := by
    cases ds with
    | nil => exact absurd rfl h1
    | cons d ds =>
      have a := dTold_len d
      cases ds with
      | nil => show (dTold d ++ []).length ≤ 8; rw [List.append_nil]; omega
      | cons e ds =>
        have b := dTold_len e
        cases ds with
        | nil => simp [dsT]; omega
        | cons g ds =>
          have c := dTold_len g
          cases ds with
          | nil => simp [dsT]; omega
          | cons h ds => simp only [List.length_cons] at h2; omega
  rw [List.length_cons, List.length_append, List.length_cons]
  omega
section
variable {P : Program} {w : World} {K : PySem.W.Frag} {mg : Str → Option Value} {base : Heap}
def spRules (K : PySem.W.Frag) : Sp := fun vs H Q _ => ∃ (a : Addr) (ns : List Int) (k : Nat) (Dw Dk : Addr) (ws : List Str) (n : Nat), vs = [.ref a, .int k, .ref Dw, .int n, .ref Dk] ∧ SqL K H a (ns.map V.int) ∧ Wds H Dw ws ∧ H Dk = some (.tup (kindsL.map V.str)) ∧ n ≤ 10 ∧ Tb K H ∧
  ∀ (H' : Hp) (v : V) (rs : List RuleD), Fr K [] H H' → rs.length = n → (∀ r ∈ rs, RWf (ws.take 3) r) → ND K H [] H' v (.list (rs.map ruleL)) → Q v H'
theorem R_rules (T : Txt w K mg base) : FnR P w K mg base CX0 9 (a_law_rules K) (spRules K) := by
  refine mkR T.f_law_rules sc_law_rules bd_law_rules ?_ ?_
  · rintro vs H Q E ⟨a, ns, k, Dw, Dk, ws, n, rfl, _⟩; rfl
  rintro cdv A outer s H vs Q E hr ⟨a, ns, k, Dw, Dk, ws, n, rfl, ha, hw, hk, hn, tb, kk⟩
  have nd := sc_law_rules.nd
  obtain ⟨_, F1⟩ := T.f_law_digits
  obtain ⟨_, F2⟩ := T.f_law_condition
  obtain ⟨_, F3⟩ := T.f_law_deeds
  refine ⟨_, PSs.nox <| pss_cons (ps_set (i := 5) nd rfl (.inl rfl) (pe_lst pa_nil))
    (pss_cons (ps_for PassesOwn.never rfl (pi_range1 (by rfl) T.z_range (pa_cons (pv 3) pa_nil)) (pg_name (i := 6) nd rfl (.inl rfl))
      (pss_cons (ps_set (i := 7) nd rfl (.inl rfl) (pe_cF (R_digits T) (hr.mono (by decide)) (by rfl) T.g_law_digits F1.kp (pa_cons (pv 0) (pa_cons (pe_op op_add (pv 1) (pv 6)) (pa_cons pe_int (pa_cons (pe_op op_add (pe_op op_pow pe_int pe_int) pe_int) pa_nil))))))
      (pss_one (ps_expr (pe_bm PySem.F.plainAttrs_list PySem.F.slot_list_append PySem.F.type_list_append mt_append (pv 5) (pa_cons
        (pe_tup (pa_cons (pe_cF (R_condition T) (hr.mono (by decide)) (by rfl) T.g_law_condition F2.kp (pa_cons (pv 7) (pa_cons (pv 2) (pa_cons (pv 4) pa_nil))))
          (pa_cons (pe_cF (R_deeds T) (hr.mono (by decide)) (by rfl) T.g_law_deeds F3.kp (pa_cons (pe_slice sl_list (pv 7) (po_some pe_int) po_none) (pa_cons (pv 2) pa_nil))) pa_nil))) pa_nil))))))
    (pss_one (ps_ret (pv 5)))), ?_⟩
  refine ⟨by show 0 ≤ sizeLine; decide, fun D nD => ?_⟩
  have hD : H D = none := nD
  have f1 := Fr.new (E := []) (o := .lst []) tb hD
  refine ⟨_, rfl, n, rfl, by omega, by omega, ?_⟩
  refine for_range (lo := 0) (n := ((n : Nat) : Int).toNat) (fun i σ H' => (∃ y z, σ = [some (V.ref a), some (.int k), some (.ref Dw), some (.int n), some (.ref Dk), some (.ref D), y, z]) ∧ Fr K [] H H' ∧ ∃ (vs : List V) (rs : List RuleD), H' D = some (.lst vs) ∧ rs.length = i ∧ (∀ r ∈ rs, RWf (ws.take 3) r) ∧ NDs K H [D] H' vs (rs.map ruleL))
    ⟨⟨_, _, rfl⟩, f1, [], [], upd_same, rfl, fun _ m => (nomatch m), .nil⟩ (fun i σ H' hi ⟨⟨z1, z2, es⟩, f, vs, rs, hv, hrl, hrw, hnd⟩ => ?_) (fun σ H' ⟨⟨z1, z2, es⟩, f, vs, rs, hv, hrl, hrw, hnd⟩ => ?_)
  · subst es
    have hi : i < n := by omega
    refine ⟨_, rfl, _, rfl, _, rfl, _, _, rfl, rfl, 10, 6, rfl, rfl, ⟨by decide, by decide, by decide⟩, _, _, rfl, rfl, a, ns, k + i, 10, _, ?_, f.sqL' InsAll.nil ha, by decide, (by decide : (0 : Int) < 10 ^ (6 : Int).toNat + 3), by decide, f.2, fun H1 Dd ds g1 nDd hDd hdr => ?_⟩
    · have e : ((k : Int) + (0 + (i : Int))) = ((k + i : Nat) : Int) := by omega
      show [V.ref a, V.int ((k : Int) + (0 + (i : Int))), V.int 10, V.int (10 ^ (6 : Int).toNat + 3)] = _
      rw [e]
      rfl
    have F1 := f.trans g1
    have hv1 := g1.at hv
    refine ⟨_, rfl, .inl ⟨rfl, _, SqL.of hv1⟩, _, rfl, _, rfl, _, rfl, Dd, ds, Dw, Dk, ws, rfl, hDd, by rw [hdr.1]; decide, hw.fr F1, F1.at hk, F1.2, fun H2 cv c g2 hc dc => ?_⟩
    have F2 := F1.trans g2
    refine ⟨_, rfl, 5, rfl, Dd, _, rfl, SqL.of (g2.at hDd), fun s ns' => ?_⟩
    rw [show (some (5 : Int)) = some ((5 : Nat) : Int) from rfl, cutV_n (by rw [List.length_map, hdr.1]; decide), ← List.map_drop]
    have g3 := Fr.new (E := []) (o := .lst ((ds.drop 5).map V.int)) F2.2 ns'
    have F3 := F2.trans g3
    refine ⟨_, rfl, s, ds.drop 5, Dw, ws, rfl, upd_same, by rw [List.length_drop, hdr.1]; decide, hw.fr F3, F3.2, fun H3 dv des g4 d1 d2 d3 dd => ?_⟩
    have F4 := F3.trans g4
    refine ⟨by show 2 ≤ sizeLine; decide, fun t nt => ?_⟩
    have g5 := Fr.new (E := []) (o := .tup [cv, dv]) F4.2 nt
    have G := (((g1.trans g2).trans g3).trans g4).trans g5
    have hvE := G.at hv
    have vl : vs.length = rs.length := by rw [TrAll.len hnd, List.length_map]
    have tD : t ≠ D := fun z => by
      have := (((g1.trans g2).trans g3).trans g4).at hv
      rw [← z, nt] at this; cases this
    refine ⟨D, vs, .ref t, rfl, rfl, hvE, by rw [vl, hrl]; exact Nat.lt_of_lt_of_le hi (Nat.le_trans hn (by decide)), ⟨_, _, rfl⟩, (f.trans G).upNew tb hD, vs ++ [.ref t], rs ++ [(c, des)], upd_same, by rw [List.length_append, hrl]; rfl, fun r m => ?_, ?_⟩
    · rcases List.mem_append.mp m with m | m
      · exact hrw r m
      · rw [List.mem_singleton.mp m]; exact rwf_of hc d1 d2 d3
    · rw [List.map_append]
      have hDn : H1 D ≠ none := by rw [hv1]; intro z; cases z
      have exD : ∀ e ∈ [D], e ∈ ([] : List Addr) ∨ H1 e ≠ none := fun e m => .inr (by rw [List.mem_singleton.mp m]; exact hDn)
      have exD3 : ∀ e ∈ [D], e ∈ ([] : List Addr) ∨ (L2.upd H2 s (.lst ((ds.drop 5).map V.int))) e ≠ none := fun e m => .inr (by rw [List.mem_singleton.mp m, (g2.trans g3).at hv1]; intro z; cases z)
      have uD : ∀ {Hx : Hp} {o : HO}, Same (Nu H [D] Hx) (Nu H [D] (L2.upd Hx D o)) := nu_upd (.inl (List.mem_singleton.mpr rfl))
      refine TrAll.snoc (TrAll.same (Same.trans (nu_fr G (by simp)) uD) hnd) ?_
      refine ND.tup (.cons (Tr.same (Same.trans (nu_fr ((g3.trans g4).trans g5) (by simp)) (Same.trans (nu_back F1.3 exD) uD)) dc) (.cons (Tr.same (Same.trans (nu_fr g5 (by simp)) (Same.trans (nu_back F3.3 exD3) uD)) dd) .nil)) (by rw [upd_ne tD]; exact upd_same) (F4.3 _ nt) (fun m => tD (List.mem_singleton.mp m))
  · subst es
    exact ⟨_, rfl, kk H' _ rs f (by omega) hrw (ND.lst (TrAll.same nu_drop hnd) hv hD (by simp))⟩
end
end So
end

section
set_option Elab.async false
set_option linter.all false
set_option maxRecDepth 100000
set_option maxHeartbeats 4000000
namespace So
open PySem PySem.Spec PyProof.Rows L2 GxA TL
open GxR (TabB TabG Tabbed)
def Cnd.hl : Cnd → Nat
  | .neg c => c.hl + 1
  | .par c => c.hl + 1
  | .and2 a b => max a.hl b.hl + 1
  | .and3 a b c => max a.hl (max b.hl c.hl) + 1
  | .or2 a b => max a.hl b.hl + 1
  | _ => 0
def joinT (x : Str) : List Cnd → List Str
  | [] => []
  | p :: ps => p.told ++ jn x ps
theorem told_ne (c : Cnd) : c.told ≠ [] := by
  induction c with
  | and2 a b ih _ => simp [Cnd.told]
  | and3 a b c _ _ _ => simp [Cnd.told]
  | or2 a b _ _ => simp [Cnd.told]
  | _ => simp [Cnd.told]
theorem joinT_snoc (x : Str) (qs : List Cnd) (p : Cnd) : joinT x (qs ++ [p]) = joinT x qs ++ (if joinT x qs ≠ [] then [x] else []) ++ p.told := by
  cases qs with
  | nil => simp [joinT, jn]
  | cons q qs =>
    have h : joinT x (q :: qs) ≠ [] := by
      intro z
      exact told_ne q (List.append_eq_nil_iff.mp z).1
    rw [if_pos h]
    show q.told ++ jn x (qs ++ [p]) = (q.told ++ jn x qs) ++ [x] ++ p.told
    simp [jn]
theorem jn_len (x : Str) (ps : List Cnd) (i : Nat) : (jn x (ps.take i)).length ≤ (jn x ps).length := by
  conv => rhs; rw [← List.take_append_drop i ps]
  unfold jn
  rw [List.flatMap_append, List.length_append]
  omega
theorem joinT_len (x : Str) (ps : List Cnd) (i : Nat) : (joinT x (ps.take i)).length ≤ (joinT x ps).length := by
  cases ps with
  | nil => simp [joinT]
  | cons p ps =>
    cases i with
    | zero => simp [joinT]
    | succ i =>
      show (p.told ++ jn x (ps.take i)).length ≤ (p.told ++ jn x ps).length
      rw [List.length_append, List.length_append]
      have := jn_len x ps i
      omega
theorem ne_kind3 {k : Str} (h : k ∈ kinds1) : k ≠ "not" ∧ k ≠ "(" ∧ k ≠ "and" ∧ k ≠ "or" := by
  simp only [kinds1, List.mem_cons, List.not_mem_nil, or_false] at h
  rcases h with rfl | rfl | rfl | rfl | rfl <;> decide +kernel
theorem told_ok {W : List Str} : ∀ (c : Cnd) (l : Nat), c.wf W l → ∀ x ∈ c.told, PyData.strOk x = true := by
  intro c
  induction c with
  | any => intro l _ x hx; rw [List.mem_singleton.mp hx]; decide +kernel
  | fact k n =>
    intro l h x hx
    simp only [Cnd.told, List.mem_cons, List.not_mem_nil, or_false] at hx
    rcases hx with rfl | rfl
    · have hk := h.1
      simp only [kinds1, List.mem_cons, List.not_mem_nil, or_false] at hk
      rcases hk with rfl | rfl | rfl | rfl | rfl <;> decide +kernel
    · exact h.2.1.ok
  | pair a b =>
    intro l h x hx
    simp only [Cnd.told, List.mem_cons, List.not_mem_nil, or_false] at hx
    rcases hx with rfl | rfl | rfl
    · decide +kernel
    · exact h.1.ok
    · exact h.2.1.ok
  | over n =>
    intro l h x hx
    have all : ∀ n ∈ nums, PyData.strOk (numS n) = true := by decide +kernel
    simp only [Cnd.told, List.mem_cons, List.not_mem_nil, or_false] at hx
    rcases hx with rfl | rfl
    · decide +kernel
    · exact all n h
  | neg c ih =>
    intro l h x hx
    rcases List.mem_cons.mp hx with rfl | hx
    · decide +kernel
    · exact ih 0 h x hx
  | par c ih =>
    intro l h x hx
    rcases List.mem_cons.mp hx with rfl | hx
    · decide +kernel
    rcases List.mem_append.mp hx with hx | hx
    · exact ih 2 h x hx
    · rw [List.mem_singleton.mp hx]; decide +kernel
  | and2 a b iha ihb =>
    intro l h x hx
    rcases List.mem_append.mp hx with hx | hx
    · exact iha 0 h.2.1 x hx
    rcases List.mem_cons.mp hx with rfl | hx
    · decide +kernel
    · exact ihb 0 h.2.2 x hx
  | and3 a b c iha ihb ihc =>
    intro l h x hx
    rcases List.mem_append.mp hx with hx | hx
    · rcases List.mem_append.mp hx with hx | hx
      · exact iha 0 h.2.1 x hx
      rcases List.mem_cons.mp hx with rfl | hx
      · decide +kernel
      · exact ihb 0 h.2.2.1 x hx
    rcases List.mem_cons.mp hx with rfl | hx
    · decide +kernel
    · exact ihc 0 h.2.2.2 x hx
  | or2 a b iha ihb =>
    intro l h x hx
    rcases List.mem_append.mp hx with hx | hx
    · exact iha 1 h.2.1 x hx
    rcases List.mem_cons.mp hx with rfl | hx
    · decide +kernel
    · exact ihb 1 h.2.2 x hx
theorem shaped_ok {xs : List Str} (h : ∀ x ∈ xs, PyData.strOk x = true) : SeqAt.shaped (.list (xs.map PyData.str)) = true := by
  unfold SeqAt.shaped
  rw [Bool.and_eq_true]
  have h1 : PyData.canLayAll0 (xs.map PyData.str) = true := by
    induction xs with
    | nil => rfl
    | cons x xs ih =>
      show (PyData.strOk x && PyData.canLayAll0 (xs.map PyData.str)) = true
      rw [h x List.mem_cons_self, ih fun y m => h y (List.mem_cons_of_mem _ m)]
      rfl
  have z : PyData.depthAll (xs.map PyData.str) = 0 := by
    clear h h1
    induction xs with
    | nil => rfl
    | cons x xs ih =>
      show max (PyData.depth (.str x)) (PyData.depthAll (xs.map PyData.str)) = 0
      rw [ih]; rfl
  refine ⟨h1, decide_eq_true ?_⟩
  show PyData.depthAll (xs.map PyData.str) + 1 ≤ 64
  rw [z]; decide
theorem eqv_nil (xs : List Str) : PyData.eqv (.list (xs.map PyData.str)) (.list []) = decide (xs = []) := by
  cases xs <;> rfl
theorem joinT_ok {W : List Str} {x : Str} (hx : PyData.strOk x = true) {ps : List Cnd} (h : ∀ p ∈ ps, ∃ l, p.wf W l) : ∀ y ∈ joinT x ps, PyData.strOk y = true := by
  cases ps with
  | nil => intro y m; cases m
  | cons p ps =>
    intro y m
    rcases List.mem_append.mp m with m | m
    · obtain ⟨l, hl⟩ := h p List.mem_cons_self
      exact told_ok p l hl y m
    · obtain ⟨q, hq, m⟩ := List.mem_flatMap.mp m
      rcases List.mem_cons.mp m with rfl | m
      · exact hx
      · obtain ⟨l, hl⟩ := h q (List.mem_cons_of_mem _ hq)
        exact told_ok q l hl y m
section
variable {P : Program} {w : World} {K : PySem.W.Frag} {mg : Str → Option Value} {base : Heap}
def spTold (m : Nat) (K : PySem.W.Frag) : Sp := fun vs H Q _ => ∃ (v : V) (c : Cnd) (W : List Str) (l : Nat), vs = [v] ∧ Tr H v c.l ∧ c.wf W l ∧ c.hl < m ∧ c.told.length ≤ 100 ∧ Tb K H ∧
  ∀ (H' : Hp) (D : Addr), Fr K [] H H' → H D = none → H' D = some (.lst (c.told.map V.str)) → Q (.ref D) H'
theorem told_step (T : Txt w K mg base) {m n : Nat} (hT : FnR P w K mg base CX0 (n + 1) (a_law_told K) (spTold m K)) : FnR P w K mg base CX0 (n + 2) (a_law_told K) (spTold (m + 1) K) := by
  refine mkR T.f_law_told sc_law_told bd_law_told ?_ ?_
  · rintro vs H Q E ⟨v, c, W, l, rfl, _⟩; rfl
  rintro cdv A outer s H vs Q E hr ⟨v, c, W, l, rfl, hv, hw, hh, ht, tb, kk⟩
  have nd := sc_law_told.nd
  obtain ⟨_, F1⟩ := T.f_law_told
  refine ⟨_, PSs.nox <| pss_cons (ps_set (i := 1) nd rfl (.inl rfl) (pe_ix ix_tup (pv 0) pe_int (fun _ _ => rfl)))
    (pss_cons (ps_if (pt_cmpR op_eq (pv 1) pe_str (nomark _)) (pss_one (ps_ret (pe_op op_cat (pe_lst (pa_cons pe_str pa_nil)) (pe_cF hT hr (by rfl) T.g_law_told F1.kp (pa_cons (pe_ix ix_tup (pv 0) pe_int (fun _ _ => rfl)) pa_nil))))) pss_nil)
    (pss_cons (ps_if (pt_cmpR op_eq (pv 1) pe_str (nomark _)) (pss_one (ps_ret (pe_op op_cat (pe_op op_cat (pe_lst (pa_cons pe_str pa_nil)) (pe_cF hT hr (by rfl) T.g_law_told F1.kp (pa_cons (pe_ix ix_tup (pv 0) pe_int (fun _ _ => rfl)) pa_nil))) (pe_lst (pa_cons pe_str pa_nil))))) pss_nil)
    (pss_cons (ps_if (pt_cmpR op_notIn_seq (pv 1) (pe_tup (pa_cons pe_str (pa_cons pe_str pa_nil))) (by rfl)) (pss_one (ps_ret (pe_callTy call_list_of (by rfl) T.z_list (by decide +kernel) (pa_cons (pv 0) pa_nil)))) pss_nil)
    (pss_cons (ps_set (i := 2) nd rfl (.inl rfl) (pe_lst pa_nil))
    (pss_cons (ps_for PassesOwn.never rfl (pi_list (pe_ix ix_tup (pv 0) pe_int (fun _ _ => rfl))) (pg_name (i := 3) nd rfl (.inl rfl))
      (pss_one (ps_set (i := 2) nd rfl (.inl rfl) (pe_op op_cat (pe_op op_cat (pv 2) (pe_ifExp (pt_cmpR (op_neD hr.units) (pv 2) (pe_lst pa_nil) (nomark _)) (pe_lst (pa_cons (pv 1) pa_nil)) (pe_lst pa_nil)))
        (pe_cF hT hr (by rfl) T.g_law_told F1.kp (pa_cons (pv 3) pa_nil))))))
    (pss_one (ps_ret (pv 2)))))))), ?_⟩
  have lt100 : ∀ {xs : List Str}, xs.length ≤ 200 → (xs.map V.str).length ≤ sizeLine := fun h => by rw [List.length_map]; exact Nat.le_trans h (by decide)
  -- a fact: its own words
  have leaf : ∀ (b : Addr) (us : List Str) (kd : Str), v = .ref b → H b = some (.tup (us.map V.str)) → c.told = us → kd ≠ "not" → kd ≠ "(" → inV (V.str kd) [.str "and", .str "or"] = false → us[0]? = some kd →
      tSeq (tAsg (tOp (rIxT K) (tVar 0) (tC (.int 0))) (gName 1)) (tSeq (tIfS (tTest (tOp rEq (tVar 1) (tC (.str "not")))) (tRet (tOp rCat (tLst (tCons (tC (.str "not")) tNil)) (tCF (spTold m K) (tCons (tOp (rIxT K) (tVar 0) (tC (.int 1))) tNil)))) tNext)
        (tSeq (tIfS (tTest (tOp rEq (tVar 1) (tC (.str "(")))) (tRet (tOp rCat (tOp rCat (tLst (tCons (tC (.str "(")) tNil)) (tCF (spTold m K) (tCons (tOp (rIxT K) (tVar 0) (tC (.int 1))) tNil))) (tLst (tCons (tC (.str ")")) tNil)))) tNext)
        (tSeq (tIfS (tTest (tOp (rIn K true) (tVar 1) (tTup (tCons (tC (.str "and")) (tCons (tC (.str "or")) tNil))))) (tRet (tCB (fun xs H Q => ∃ p ys, xs = [.ref p] ∧ (SqL K H p ys ∨ SqT K H p ys) ∧ ∀ l, H l = none → Q (.ref l) (L2.upd H l (.lst ys))) (tCons (tVar 0) tNil))) tNext)
        (tSeq (tAsg (tLst tNil) (gName 2)) (tSeq (tFor (iList K (tOp (rIxT K) (tVar 0) (tC (.int 1)))) (gName 3)
          (tAsg (tOp rCat (tOp rCat (tVar 2) (tIf (tTest (tOp (rNeD K) (tVar 2) (tLst tNil))) (tLst (tCons (tVar 1) tNil)) (tLst tNil))) (tCF (spTold m K) (tCons (tVar 3) tNil))) (gName 2))) (tRet (tVar 2)))))))
        { nx := fun _ H' => Q .non H', rt := Q } (start ["_law_condition_here", "_law_word", "_law_found", "_law_part"] [v]) H := by
    intro b us kd e1 e2 e3 h1 h2 h3 h4
    subst e1
    have h4' : (us.map V.str)[0]? = some (V.str kd) := by rw [List.getElem?_map, h4]; rfl
    refine ⟨_, rfl, b, _, _, .str kd, rfl, rfl, .inl (.inl e2), atI_nat (j := 0) h4', ?_⟩
    refine ⟨_, rfl, rfl, _, rfl, iteX h1 ?_⟩
    refine ⟨_, rfl, rfl, _, rfl, iteX h2 ?_⟩
    refine ⟨_, rfl, by show 2 ≤ sizeLine; decide, fun t nt => ?_⟩
    have g := Fr.new (E := []) (o := .tup [.str "and", .str "or"]) tb nt
    refine ⟨t, _, rfl, .inr (.inl (.inl upd_same)), rfl, rfl, _, rfl, ?_⟩
    show (if (!inV (V.str kd) [.str "and", .str "or"]) = true then _ else _)
    rw [h3]
    refine iteT ⟨_, rfl, b, _, rfl, .inr (.inl (.inl (g.at e2))), fun l nl => ?_⟩
    exact kk _ l (g.trans (Fr.new g.2 nl)) (g.3 _ nl) (by rw [upd_same, e3])
  have loop : ∀ (b lst : Addr) (x : Str) (ps : List Cnd) (ys : List V), v = .ref b → H b = some (.tup [.str x, .ref lst]) → H lst = some (.lst ys) → TrAll H ys (ps.map Cnd.l) → (∀ p ∈ ps, (∃ l, p.wf W l) ∧ p.hl < m ∧ p.told.length ≤ 100) → c.told = joinT x ps → x ≠ "not" → x ≠ "(" → inV (V.str x) [.str "and", .str "or"] = true → PyData.strOk x = true →
      tSeq (tAsg (tOp (rIxT K) (tVar 0) (tC (.int 0))) (gName 1)) (tSeq (tIfS (tTest (tOp rEq (tVar 1) (tC (.str "not")))) (tRet (tOp rCat (tLst (tCons (tC (.str "not")) tNil)) (tCF (spTold m K) (tCons (tOp (rIxT K) (tVar 0) (tC (.int 1))) tNil)))) tNext)
        (tSeq (tIfS (tTest (tOp rEq (tVar 1) (tC (.str "(")))) (tRet (tOp rCat (tOp rCat (tLst (tCons (tC (.str "(")) tNil)) (tCF (spTold m K) (tCons (tOp (rIxT K) (tVar 0) (tC (.int 1))) tNil))) (tLst (tCons (tC (.str ")")) tNil)))) tNext)
        (tSeq (tIfS (tTest (tOp (rIn K true) (tVar 1) (tTup (tCons (tC (.str "and")) (tCons (tC (.str "or")) tNil))))) (tRet (tCB (fun xs H Q => ∃ p ys, xs = [.ref p] ∧ (SqL K H p ys ∨ SqT K H p ys) ∧ ∀ l, H l = none → Q (.ref l) (L2.upd H l (.lst ys))) (tCons (tVar 0) tNil))) tNext)
        (tSeq (tAsg (tLst tNil) (gName 2)) (tSeq (tFor (iList K (tOp (rIxT K) (tVar 0) (tC (.int 1)))) (gName 3)
          (tAsg (tOp rCat (tOp rCat (tVar 2) (tIf (tTest (tOp (rNeD K) (tVar 2) (tLst tNil))) (tLst (tCons (tVar 1) tNil)) (tLst tNil))) (tCF (spTold m K) (tCons (tVar 3) tNil))) (gName 2))) (tRet (tVar 2)))))))
        { nx := fun _ H' => Q .non H', rt := Q } (start ["_law_condition_here", "_law_word", "_law_found", "_law_part"] [v]) H := by
    intro b lst x ps ys e1 e2 e3 e4 e5 e6 h1 h2 h3 h4
    subst e1
    refine ⟨_, rfl, b, _, _, .str x, rfl, rfl, .inl (.inl e2), rfl, ?_⟩
    refine ⟨_, rfl, rfl, _, rfl, iteX h1 ?_⟩
    refine ⟨_, rfl, rfl, _, rfl, iteX h2 ?_⟩
    refine ⟨_, rfl, by show 2 ≤ sizeLine; decide, fun t nt => ?_⟩
    have g := Fr.new (E := []) (o := .tup [.str "and", .str "or"]) tb nt
    refine ⟨t, _, rfl, .inr (.inl (.inl upd_same)), rfl, rfl, _, rfl, ?_⟩
    show (if (!inV (V.str x) [.str "and", .str "or"]) = true then _ else _)
    rw [h3]
    refine iteF ?_
    refine ⟨by show 0 ≤ sizeLine; decide, fun D0 n0 => ?_⟩
    have g1 := g.trans (Fr.new (E := []) (o := .lst []) g.2 n0)
    have hlen : ys.length = ps.length := by rw [e4.len, List.length_map]
    refine ⟨_, rfl, b, _, _, .ref lst, rfl, rfl, .inl (.inl (g1.at e2)), rfl, lst, rfl, ⟨_, SqL.of (g1.at e3)⟩, ?_⟩
    refine for_list (xs := ys) (fun i σ H' => ∃ (z : Option V) (D : Addr), σ = [some (V.ref b), some (.str x), some (.ref D), z] ∧ Fr K [] H H' ∧ H D = none ∧ H' D = some (.lst ((joinT x (ps.take i)).map V.str)))
      ⟨_, D0, rfl, g1, g.3 _ n0, by rw [upd_same]; rfl⟩ (fun i σ H' _ ⟨_, _, _, f, _⟩ => SqL.of (f.at e3)) (fun i y σ H' hy ⟨z, D, es, f, nD, hD⟩ => ?_) (fun σ H' ⟨z, D, es, f, nD, hD⟩ => ?_)
    · subst es
      obtain ⟨p, hp⟩ : ∃ p, ps[i]? = some p := by
        have : i < ps.length := by rw [← hlen]; exact (List.getElem?_eq_some_iff.mp hy).1
        exact ⟨_, List.getElem?_eq_getElem this⟩
      have hm := List.mem_of_getElem? hp
      obtain ⟨⟨l', w1⟩, w2, w3⟩ := e5 p hm
      have htr : Tr H y p.l := e4.at i y p.l hy (by rw [List.getElem?_map, hp]; rfl)
      have tk : joinT x (ps.take (i + 1)) = joinT x (ps.take i) ++ (if joinT x (ps.take i) ≠ [] then [x] else []) ++ p.told := by
        rw [List.take_add_one, hp]
        exact joinT_snoc x (ps.take i) p
      have l1 := joinT_len x ps i
      rw [← e6] at l1
      have okS := joinT_ok (x := x) h4 (ps := ps.take i) fun q hq => (e5 q (List.mem_of_mem_take hq)).1
      generalize joinT x (ps.take i) = us at tk l1 okS hD
      -- the rest, from the list that stands between
      have rest : ∀ (sep : List Str) (q : Addr) (H1 : Hp), sep.length ≤ 1 → us ++ sep ++ p.told = joinT x (ps.take (i + 1)) → Fr K [] H' H1 → H1 q = some (.lst (sep.map V.str)) →
          rCat (.ref D) (.ref q) H1 fun r H2 => tCF (spTold m K) (tCons (tVar 3) tNil) [some (V.ref b), some (.str x), some (.ref D), some y] H2 fun t H3 => rCat r t H3 fun r2 H4 => gName 2 r2 [some (V.ref b), some (.str x), some (.ref D), some y] H4 fun σ2 H5 => ∃ (z : Option V) (D : Addr), σ2 = [some (V.ref b), some (.str x), some (.ref D), z] ∧ Fr K [] H H5 ∧ H D = none ∧ H5 D = some (.lst ((joinT x (ps.take (i + 1))).map V.str)) := by
        intro sep q H1 hs he g2 hq
        refine ⟨D, q, _, _, rfl, rfl, g2.at hD, hq, by rw [List.length_map, List.length_map]; exact Nat.le_trans (by omega : _ ≤ 200) (by decide), fun r nr => ?_⟩
        have F2 := f.trans g2
        have g3 := Fr.new (E := []) (o := .lst (us.map V.str ++ sep.map V.str)) F2.2 nr
        have F3 := F2.trans g3
        refine ⟨_, rfl, y, p, W, l', rfl, tr_fr F3 htr, w1, w2, w3, F3.2, fun H2 Tt g4 nT hT => ?_⟩
        have hr := g4.at (upd_same (H := H1) (a := r) (o := .lst (us.map V.str ++ sep.map V.str)))
        have F4 := F3.trans g4
        refine ⟨r, Tt, _, _, rfl, rfl, hr, hT, by rw [List.length_append, List.length_map, List.length_map, List.length_map]; exact Nat.le_trans (by omega : _ ≤ 300) (by decide), fun z2 nz => ?_⟩
        refine ⟨_, z2, rfl, F4.trans (Fr.new F4.2 nz), F4.3 _ nz, ?_⟩
        rw [upd_same, ← he, List.map_append, List.map_append]
      refine ⟨_, rfl, _, rfl, by show 0 ≤ sizeLine; decide, fun e ne => ?_⟩
      have g2 := Fr.new (E := []) (o := .lst []) f.2 ne
      refine ⟨_, _, Dp.lst (SqL.of (g2.at hD)) strs_dpAll, Dp.lst (SqL.of upd_same) (.nil), shaped_ok okS, rfl, _, rfl, ?_⟩
      rw [eqv_nil]
      by_cases hu : us = []
      · rw [decide_eq_true hu]
        refine iteF ⟨by show 0 ≤ sizeLine; decide, fun q nq => ?_⟩
        have g3 := Fr.new (E := []) (o := .lst []) g2.2 nq
        exact rest [] q _ (by simp) (by rw [tk, if_neg (fun z => z hu)]) (g2.trans g3) upd_same
      · rw [decide_eq_false hu]
        refine iteT ⟨_, rfl, by show 1 ≤ sizeLine; decide, fun q nq => ?_⟩
        have g3 := Fr.new (E := []) (o := .lst [.str x]) g2.2 nq
        exact rest [x] q _ (by simp) (by rw [tk, if_pos hu]) (g2.trans g3) upd_same
    · subst es
      rw [hlen, List.take_length, ← e6] at hD
      exact ⟨_, rfl, kk H' D f nD hD⟩
  cases c with
  | any =>
    obtain ⟨b, xs, rfl, hb, hx⟩ := tr_tup hv
    have hx := trAll_strs (xs := ["any"]) hx
    subst hx
    exact leaf b ["any"] "any" rfl hb rfl (by decide +kernel) (by decide +kernel) (by decide +kernel) rfl
  | fact x y =>
    obtain ⟨b, xs, rfl, hb, hx⟩ := tr_tup hv
    have hx := trAll_strs (xs := [x, y]) hx
    subst hx
    obtain ⟨h1, h2, h3, h4⟩ := ne_kind3 hw.1
    refine leaf b [x, y] x rfl hb rfl h1 h2 ?_ rfl
    show (("and" : Str) == x || (("or" : Str) == x || false)) = false
    rw [beq_eq_false_iff_ne.mpr (Ne.symm h3), beq_eq_false_iff_ne.mpr (Ne.symm h4)]
    rfl
  | pair x y =>
    obtain ⟨b, xs, rfl, hb, hx⟩ := tr_tup hv
    have hx := trAll_strs (xs := ["pair", x, y]) hx
    subst hx
    exact leaf b ["pair", x, y] "pair" rfl hb rfl (by decide +kernel) (by decide +kernel) (by decide +kernel) rfl
  | over nn =>
    obtain ⟨b, xs, rfl, hb, hx⟩ := tr_tup hv
    have hx := trAll_strs (xs := ["over", numS nn]) hx
    subst hx
    exact leaf b ["over", numS nn] "over" rfl hb rfl (by decide +kernel) (by decide +kernel) (by decide +kernel) rfl
  | neg c =>
    obtain ⟨b, xs, rfl, hb, hx⟩ := tr_tup hv
    cases hx with
    | cons a1 a2 =>
      cases a2 with
      | cons a2 a3 =>
      cases a3
      rw [tr_str a1] at hb
      refine ⟨_, rfl, b, _, _, _, rfl, rfl, .inl (.inl hb), rfl, ?_⟩
      refine ⟨_, rfl, rfl, _, rfl, iteD rfl ?_⟩
      refine ⟨by show 1 ≤ sizeLine; decide, fun p np => ?_⟩
      have g1 := Fr.new (E := []) (o := .lst [.str "not"]) tb np
      refine ⟨_, rfl, b, _, _, _, rfl, rfl, .inl (.inl (g1.at hb)), rfl, _, c, W, 0, rfl, tr_fr g1 a2, hw, Nat.lt_of_succ_lt_succ hh, by have : c.told.length + 1 ≤ 100 := ht; omega, g1.2, fun H2 D g2 nD hD => ?_⟩
      have G := g1.trans g2
      have h1 := g2.at (upd_same (H := H) (a := p) (o := .lst [.str "not"]))
      refine ⟨p, D, _, _, rfl, rfl, h1, hD, by rw [List.length_map]; have : c.told.length + 1 ≤ 100 := ht; exact Nat.le_trans (by show 1 + c.told.length ≤ 101; omega) (by decide), fun q nq => ?_⟩
      exact kk _ q (G.trans (Fr.new G.2 nq)) (G.3 _ nq) upd_same
  | par c =>
    have hlen : c.told.length + 2 ≤ 100 := by
      have : (c.told ++ [(")" : Str)]).length + 1 ≤ 100 := ht
      rw [List.length_append] at this
      exact this
    obtain ⟨b, xs, rfl, hb, hx⟩ := tr_tup hv
    cases hx with
    | cons a1 a2 =>
      cases a2 with
      | cons a2 a3 =>
      cases a3
      rw [tr_str a1] at hb
      refine ⟨_, rfl, b, _, _, _, rfl, rfl, .inl (.inl hb), rfl, ?_⟩
      refine ⟨_, rfl, rfl, _, rfl, iteX (x := "(") (by decide +kernel) ?_⟩
      refine ⟨_, rfl, rfl, _, rfl, iteD rfl ?_⟩
      refine ⟨by show 1 ≤ sizeLine; decide, fun p np => ?_⟩
      have g1 := Fr.new (E := []) (o := .lst [.str "("]) tb np
      refine ⟨_, rfl, b, _, _, _, rfl, rfl, .inl (.inl (g1.at hb)), rfl, _, c, W, 2, rfl, tr_fr g1 a2, hw, Nat.lt_of_succ_lt_succ hh, by omega, g1.2, fun H2 D g2 nD hD => ?_⟩
      have G := g1.trans g2
      have h1 := g2.at (upd_same (H := H) (a := p) (o := .lst [.str "("]))
      refine ⟨p, D, _, _, rfl, rfl, h1, hD, by rw [List.length_map]; exact Nat.le_trans (by show 1 + c.told.length ≤ 101; omega) (by decide), fun q nq => ?_⟩
      have g3 := Fr.new (E := []) (o := .lst ([.str "("] ++ c.told.map V.str)) G.2 nq
      refine ⟨by show 1 ≤ sizeLine; decide, fun r nr => ?_⟩
      have g4 := Fr.new (E := []) (o := .lst [.str ")"]) g3.2 nr
      refine ⟨q, r, _, _, rfl, rfl, g4.at upd_same, upd_same, by rw [List.length_append, List.length_map]; exact Nat.le_trans (by show 1 + c.told.length + 1 ≤ 102; omega) (by decide), fun z nz => ?_⟩
      have G4 := (G.trans g3).trans g4
      refine kk _ z (G4.trans (Fr.new G4.2 nz)) (G4.3 _ nz) ?_
      rw [upd_same]
      show _ = some (HO.lst (List.map V.str (("(" : Str) :: (c.told ++ [(")" : Str)]))))
      simp
  | and2 x y =>
    have hlen : (x.told ++ (("and" : Str) :: y.told)).length ≤ 100 := ht
    obtain ⟨b, xs, rfl, hb, hx⟩ := tr_tup hv
    cases hx with
    | cons a1 a2 =>
      cases a2 with
      | cons a2 a3 =>
      cases a3
      obtain ⟨lst, ys, rfl, hls, htr⟩ := tr_lst a2
      rw [tr_str a1] at hb
      refine loop b lst "and" [x, y] ys rfl hb hls htr ?_ (by simp [joinT, jn, Cnd.told]) (by decide +kernel) (by decide +kernel) (by decide +kernel) (by decide +kernel)
      · intro p hp
        simp only [List.mem_cons, List.not_mem_nil, or_false] at hp
        simp only [Cnd.hl] at hh
        have this := hlen
        rw [List.length_append, List.length_cons] at this
        rcases hp with rfl | rfl
        · exact ⟨⟨_, hw.2.1⟩, by omega, by omega⟩
        · exact ⟨⟨_, hw.2.2⟩, by omega, by omega⟩
  | and3 x y z =>
    have hlen : (x.told ++ (("and" : Str) :: y.told) ++ (("and" : Str) :: z.told)).length ≤ 100 := ht
    obtain ⟨b, xs, rfl, hb, hx⟩ := tr_tup hv
    cases hx with
    | cons a1 a2 =>
      cases a2 with
      | cons a2 a3 =>
      cases a3
      obtain ⟨lst, ys, rfl, hls, htr⟩ := tr_lst a2
      rw [tr_str a1] at hb
      refine loop b lst "and" [x, y, z] ys rfl hb hls htr ?_ (by simp [joinT, jn, Cnd.told]) (by decide +kernel) (by decide +kernel) (by decide +kernel) (by decide +kernel)
      · intro p hp
        simp only [List.mem_cons, List.not_mem_nil, or_false] at hp
        simp only [Cnd.hl] at hh
        have this := hlen
        rw [List.length_append, List.length_append, List.length_cons, List.length_cons] at this
        rcases hp with rfl | rfl | rfl
        · exact ⟨⟨_, hw.2.1⟩, by omega, by omega⟩
        · exact ⟨⟨_, hw.2.2.1⟩, by omega, by omega⟩
        · exact ⟨⟨_, hw.2.2.2⟩, by omega, by omega⟩
  | or2 x y =>
    have hlen : (x.told ++ (("or" : Str) :: y.told)).length ≤ 100 := ht
    obtain ⟨b, xs, rfl, hb, hx⟩ := tr_tup hv
    cases hx with
    | cons a1 a2 =>
      cases a2 with
      | cons a2 a3 =>
      cases a3
      obtain ⟨lst, ys, rfl, hls, htr⟩ := tr_lst a2
      rw [tr_str a1] at hb
      refine loop b lst "or" [x, y] ys rfl hb hls htr ?_ (by simp [joinT, jn, Cnd.told]) (by decide +kernel) (by decide +kernel) (by decide +kernel) (by decide +kernel)
      · intro p hp
        simp only [List.mem_cons, List.not_mem_nil, or_false] at hp
        simp only [Cnd.hl] at hh
        have this := hlen
        rw [List.length_append, List.length_cons] at this
        rcases hp with rfl | rfl
        · exact ⟨⟨_, hw.2.1⟩, by omega, by omega⟩
        · exact ⟨⟨_, hw.2.2⟩, by omega, by omega⟩
theorem R_told (T : Txt w K mg base) : ∀ m : Nat, FnR P w K mg base CX0 (m + 1) (a_law_told K) (spTold m K)
  | 0 => fnr_false fun vs H Q E ⟨_, _, _, _, _, _, _, h, _⟩ => absurd h (Nat.not_lt_zero _)
  | m + 1 => told_step T (R_told T m)
end
end So
end

section
set_option Elab.async false
set_option linter.all false
set_option maxRecDepth 100000
set_option maxHeartbeats 4000000
namespace So
open PySem PySem.Spec PyProof.Rows L2 GxA TL
open GxR (TabB TabG Tabbed)
def fixedW : List Str := ["any", "from", "has", "first", "last", "marked", "pair", "over", "not", "(", ")", "and", "or", "if", "then", ",", "stop", "mark", "unmark", "file", "pass"]
theorem told_all {Z : Str → Prop} (hk : ∀ k ∈ fixedW, Z k) (hn : ∀ x, Nm x → Z x) (hu : ∀ n ∈ nums, Z (numS n)) {W : List Str} : ∀ (c : Cnd) (l : Nat), c.wf W l → ∀ x ∈ c.told, Z x := by
  intro c
  induction c with
  | any => intro l _ x hx; rw [List.mem_singleton.mp hx]; exact hk _ (by decide +kernel)
  | fact k n =>
    intro l h x hx
    simp only [Cnd.told, List.mem_cons, List.not_mem_nil, or_false] at hx
    rcases hx with rfl | rfl
    · have hk2 := h.1
      simp only [kinds1, List.mem_cons, List.not_mem_nil, or_false] at hk2
      rcases hk2 with rfl | rfl | rfl | rfl | rfl <;> exact hk _ (by decide +kernel)
    · exact hn _ h.2.1
  | pair a b =>
    intro l h x hx
    simp only [Cnd.told, List.mem_cons, List.not_mem_nil, or_false] at hx
    rcases hx with rfl | rfl | rfl
    · exact hk _ (by decide +kernel)
    · exact hn _ h.1
    · exact hn _ h.2.1
  | over n =>
    intro l h x hx
    simp only [Cnd.told, List.mem_cons, List.not_mem_nil, or_false] at hx
    rcases hx with rfl | rfl
    · exact hk _ (by decide +kernel)
    · exact hu n h
  | neg c ih =>
    intro l h x hx
    rcases List.mem_cons.mp hx with rfl | hx
    · exact hk _ (by decide +kernel)
    · exact ih 0 h x hx
  | par c ih =>
    intro l h x hx
    rcases List.mem_cons.mp hx with rfl | hx
    · exact hk _ (by decide +kernel)
    rcases List.mem_append.mp hx with hx | hx
    · exact ih 2 h x hx
    · rw [List.mem_singleton.mp hx]; exact hk _ (by decide +kernel)
  | and2 a b iha ihb =>
    intro l h x hx
    rcases List.mem_append.mp hx with hx | hx
    · exact iha 0 h.2.1 x hx
    rcases List.mem_cons.mp hx with rfl | hx
    · exact hk _ (by decide +kernel)
    · exact ihb 0 h.2.2 x hx
  | and3 a b c iha ihb ihc =>
    intro l h x hx
    rcases List.mem_append.mp hx with hx | hx
    · rcases List.mem_append.mp hx with hx | hx
      · exact iha 0 h.2.1 x hx
      rcases List.mem_cons.mp hx with rfl | hx
      · exact hk _ (by decide +kernel)
      · exact ihb 0 h.2.2.1 x hx
    rcases List.mem_cons.mp hx with rfl | hx
    · exact hk _ (by decide +kernel)
    · exact ihc 0 h.2.2.2 x hx
  | or2 a b iha ihb =>
    intro l h x hx
    rcases List.mem_append.mp hx with hx | hx
    · exact iha 1 h.2.1 x hx
    rcases List.mem_cons.mp hx with rfl | hx
    · exact hk _ (by decide +kernel)
    · exact ihb 1 h.2.2 x hx
theorem rule_all {Z : Str → Prop} (hk : ∀ k ∈ fixedW, Z k) (hn : ∀ x, Nm x → Z x) (hu : ∀ n ∈ nums, Z (numS n)) {W : List Str} {r : RuleD} (h : RWf W r) : ∀ x ∈ ruleT r.1 r.2, Z x := by
  obtain ⟨c, ds⟩ := r
  obtain ⟨w1, _, _, _, _, w6, _⟩ := h
  have hd : ∀ d, dWf d → ∀ x ∈ dTold d, Z x := fun d h x hx => by
    rcases h with rfl | ⟨h1, h2⟩
    · have e : dTold ((("stop" : Str), ("" : Str))) = [("stop" : Str)] := by unfold dTold; exact if_pos rfl
      rw [e] at hx
      rw [List.mem_singleton.mp hx]; exact hk _ (by decide +kernel)
    · unfold dTold at hx
      split at hx
      · rw [List.mem_singleton.mp hx]; exact hk _ (by decide +kernel)
      · simp only [List.mem_cons, List.not_mem_nil, or_false] at hx
        rcases hx with rfl | rfl
        · simp only [kindsD, List.mem_cons, List.not_mem_nil, or_false] at h1
          rcases h1 with h1 | h1 | h1 | h1 <;> rw [h1] <;> exact hk _ (by decide +kernel)
        · exact hn _ h2
  intro x hx
  rcases List.mem_cons.mp hx with rfl | hx
  · exact hk _ (by decide +kernel)
  rcases List.mem_append.mp hx with hx | hx
  · exact told_all hk hn hu c 2 w1 x hx
  rcases List.mem_cons.mp hx with rfl | hx
  · exact hk _ (by decide +kernel)
  cases ds with
  | nil => cases hx
  | cons d ds =>
    rcases List.mem_append.mp hx with hx | hx
    · exact hd d (w6 d List.mem_cons_self) x hx
    · obtain ⟨e, he, hx⟩ := List.mem_flatMap.mp hx
      rcases List.mem_cons.mp hx with rfl | hx
      · exact hk _ (by decide +kernel)
      · exact hd e (w6 e (List.mem_cons_of_mem _ he)) x hx
theorem hl_le (c : Cnd) : c.hl ≤ c.dep + c.hgt := by
  induction c with
  | neg c ih => show c.hl + 1 ≤ c.dep + 1 + (c.hgt + 1); omega
  | par c ih => show c.hl + 1 ≤ c.dep + 1 + c.hgt; omega
  | and2 a b h1 h2 => show max a.hl b.hl + 1 ≤ max a.dep b.dep + (max a.hgt b.hgt + 1); omega
  | and3 a b c h1 h2 h3 => show max a.hl (max b.hl c.hl) + 1 ≤ max a.dep (max b.dep c.dep) + (max a.hgt (max b.hgt c.hgt) + 1); omega
  | or2 a b h1 h2 => show max a.hl b.hl + 1 ≤ max a.dep b.dep + (max a.hgt b.hgt + 1); omega
  | _ => exact Nat.zero_le _
theorem dsT_snoc (ds : List Deed) (d : Deed) : dsT (ds ++ [d]) = dsT ds ++ (if ds ≠ [] then [(("," : Str))] else []) ++ dTold d := by
  cases ds with
  | nil => simp [dsT]
  | cons e ds => simp [dsT]
theorem dsT_len (ds : List Deed) : (dsT ds).length ≤ 3 * ds.length := by
  cases ds with
  | nil => exact Nat.le_refl _
  | cons d ds =>
    have h : ∀ es : List Deed, (es.flatMap fun e => ("," : Str) :: dTold e).length ≤ 3 * es.length := fun es => by
      induction es with
      | nil => exact Nat.le_refl _
      | cons e es ih =>
        rw [List.flatMap_cons, List.length_append, List.length_cons, List.length_cons]
        have := dTold_len e
        omega
    show (dTold d ++ _).length ≤ _
    rw [List.length_append, List.length_cons]
    have := dTold_len d
    have := h ds
    omega
section
variable {P : Program} {w : World} {K : PySem.W.Frag} {mg : Str → Option Value} {base : Heap}
theorem dL_tup {H : Hp} {v : V} {d : Deed} (h : Tr H v (dL d)) : ∃ a, v = .ref a ∧ H a = some (.tup ((dTold d).map V.str)) := by
  unfold dL at h
  unfold dTold
  split at h
  · rename_i e
    obtain ⟨a, vs, rfl, ha, hx⟩ := tr_tup h
    have hx := trAll_strs (xs := ["stop"]) hx
    subst hx
    exact ⟨a, rfl, by rw [ha, if_pos e]⟩
  · rename_i e
    obtain ⟨a, vs, rfl, ha, hx⟩ := tr_tup h
    have hx := trAll_strs (xs := [d.1, d.2]) hx
    subst hx
    exact ⟨a, rfl, by rw [ha, if_neg e]⟩
def spRuleWords (K : PySem.W.Frag) : Sp := fun vs H Q _ => ∃ (v : V) (r : RuleD) (W : List Str), vs = [v] ∧ Tr H v (ruleL r) ∧ RWf W r ∧ Tb K H ∧
  ∀ (H' : Hp) (D : Addr), Fr K [] H H' → H D = none → H' D = some (.lst ((ruleT r.1 r.2).map V.str)) → Q (.ref D) H'
theorem R_rule_words (T : Txt w K mg base) : FnR P w K mg base CX0 14 (a_law_rule_words K) (spRuleWords K) := by
  refine mkR T.f_law_rule_words sc_law_rule_words bd_law_rule_words ?_ ?_
  · rintro vs H Q E ⟨v, r, W, rfl, _⟩; rfl
  rintro cdv A outer s H vs Q E hr ⟨v, ⟨c, ds⟩, W, rfl, hv, hw, tb, kk⟩
  have nd := sc_law_rule_words.nd
  obtain ⟨_, F1⟩ := T.f_law_told
  refine ⟨_, PSs.nox <| pss_cons (ps_set (i := 1) nd rfl (.inl rfl) (pe_op op_cat (pe_op op_cat (pe_lst (pa_cons pe_str pa_nil)) (pe_cF (R_told T 12) hr (by rfl) T.g_law_told F1.kp (pa_cons (pe_ix ix_tup (pv 0) pe_int (fun _ _ => rfl)) pa_nil))) (pe_lst (pa_cons pe_str pa_nil))))
    (pss_cons (ps_for PassesOwn.never rfl (pi_enum (by rfl) T.z_enumerate (pa_cons (pe_ix ix_tup (pv 0) pe_int (fun _ _ => rfl)) pa_nil)) (pg_tup rfl (pgs_cons (pg_name (i := 2) nd rfl (.inl rfl)) (pgs_cons (pg_name (i := 3) nd rfl (.inl rfl)) pgs_nil)))
      (pss_one (ps_set (i := 1) nd rfl (.inl rfl) (pe_op op_cat (pe_op op_cat (pv 1) (pe_ifExp (pt_cmpR op_gt (pv 2) pe_int (nomark _)) (pe_lst (pa_cons pe_str pa_nil)) (pe_lst pa_nil))) (pe_callTy call_list_of (by rfl) T.z_list (by decide +kernel) (pa_cons (pv 3) pa_nil))))))
    (pss_one (ps_ret (pv 1)))), ?_⟩
  obtain ⟨w1, w2, w3, w4, w5, w6, w7, w8⟩ := hw
  have ctl : c.told.length + 2 + (dsT ds).length ≤ 60 := by
    have : (("if" : Str) :: (c.told ++ (("then" : Str) :: dsT ds))).length ≤ 60 := w8
    rw [List.length_cons, List.length_append, List.length_cons] at this
    omega
  have hhl := hl_le c
  have w2 : c.dep < 4 := w2
  have w3 : c.hgt < 8 := w3
  have w7 : ds.length ≤ 5 := w7
  obtain ⟨b, xs, rfl, hb, hx⟩ := tr_tup hv
  cases hx with
  | cons a1 a2 =>
  cases a2 with
  | cons a2 a3 =>
  cases a3
  obtain ⟨lst, ys, rfl, hls, htr⟩ := tr_lst a2
  refine ⟨by show 1 ≤ sizeLine; decide, fun p np => ?_⟩
  have g1 := Fr.new (E := []) (o := .lst [.str "if"]) tb np
  refine ⟨_, rfl, b, _, _, _, rfl, rfl, .inl (.inl (g1.at hb)), rfl, _, c, W, 2, rfl, tr_fr g1 a1, w1, by omega, by omega, g1.2, fun H2 D g2 nD hD => ?_⟩
  have G := g1.trans g2
  have h1 := g2.at (upd_same (H := H) (a := p) (o := .lst [.str "if"]))
  refine ⟨p, D, _, _, rfl, rfl, h1, hD, by rw [List.length_map]; exact Nat.le_trans (by show 1 + c.told.length ≤ 101; omega) (by decide), fun q nq => ?_⟩
  have g3 := Fr.new (E := []) (o := .lst ([.str "if"] ++ c.told.map V.str)) G.2 nq
  refine ⟨by show 1 ≤ sizeLine; decide, fun r nr => ?_⟩
  have g4 := Fr.new (E := []) (o := .lst [.str "then"]) g3.2 nr
  refine ⟨q, r, _, _, rfl, rfl, g4.at upd_same, upd_same, by rw [List.length_append, List.length_map]; exact Nat.le_trans (by show 1 + c.told.length + 1 ≤ 102; omega) (by decide), fun z nz => ?_⟩
  have G4 := (G.trans g3).trans g4
  have g5 := Fr.new (E := []) (o := .lst ([.str "if"] ++ c.told.map V.str ++ [.str "then"])) G4.2 nz
  have G5 := G4.trans g5
  have hlen : ys.length = ds.length := by rw [htr.len, List.length_map]
  refine ⟨_, rfl, b, _, _, .ref lst, rfl, rfl, .inl (.inl (G5.at hb)), rfl, lst, _, rfl, SqL.of (G5.at hls), ?_⟩
  let hd : List Str := ("if" : Str) :: (c.told ++ [("then" : Str)])
  have hdl : hd.length = c.told.length + 2 := by show (c.told ++ [("then" : Str)]).length + 1 = _; rw [List.length_append]; rfl
  refine for_enum (xs := ys) (fun i σ H' => ∃ (y1 y2 : Option V) (D : Addr), σ = [some (V.ref b), some (.ref D), y1, y2] ∧ Fr K [] H H' ∧ H D = none ∧ H' D = some (.lst ((hd ++ dsT (ds.take i)).map V.str)))
    ⟨_, _, z, rfl, G5, G4.3 _ nz, by rw [upd_same]; simp [hd, dsT]⟩ (fun i σ H' _ ⟨_, _, _, _, f, _⟩ => SqL.of (f.at hls)) (fun i y Tp σ H' hy ⟨y1, y2, D, es, f, nD, hD⟩ nT => ?_) (fun σ H' ⟨y1, y2, D, es, f, nD, hD⟩ => ?_)
  · subst es
    obtain ⟨d, hdi⟩ : ∃ d, ds[i]? = some d := by
      have : i < ds.length := by rw [← hlen]; exact (List.getElem?_eq_some_iff.mp hy).1
      exact ⟨_, List.getElem?_eq_getElem this⟩
    have hi : i < ds.length := (List.getElem?_eq_some_iff.mp hdi).1
    have htd : Tr H y (dL d) := htr.at i y (dL d) hy (by rw [List.getElem?_map, hdi]; rfl)
    obtain ⟨da, rfl, hda⟩ := dL_tup htd
    have tk : dsT (ds.take (i + 1)) = dsT (ds.take i) ++ (if 0 < i then [(("," : Str))] else []) ++ dTold d := by
      rw [List.take_add_one, hdi]
      show dsT (ds.take i ++ [d]) = _
      rw [dsT_snoc]
      congr 2
      by_cases h0 : 0 < i
      · rw [if_pos h0, if_pos]
        intro z
        have := congrArg List.length z
        rw [List.length_take, List.length_nil] at this
        omega
      · have : i = 0 := by omega
        subst this
        simp
    have l1 : (dsT (ds.take i)).length ≤ 15 := by
      have h1 := dsT_len (ds.take i)
      have h2 : (ds.take i).length ≤ 5 := by rw [List.length_take]; omega
      omega
    have l2 := dTold_len d
    generalize dsT (ds.take i) = us at tk l1 hD
    have g6 : Fr K [] H' (L2.upd H' Tp (.tup [.int (i : Nat), .ref da])) := Fr.new f.2 nT
    refine ⟨Tp, _, rfl, .inl (.inl upd_same), rfl, _, _, rfl, _, _, rfl, rfl, ?_⟩
    have rest : ∀ (sep : List Str) (q : Addr) (H1 : Hp), sep.length ≤ 1 → us ++ sep ++ dTold d = dsT (ds.take (i + 1)) → Fr K [] H' H1 → H1 q = some (.lst (sep.map V.str)) →
        rCat (.ref D) (.ref q) H1 fun r H2 => tCB (fun xs H Q => ∃ p ys, xs = [.ref p] ∧ (SqL K H p ys ∨ SqT K H p ys) ∧ ∀ l, H l = none → Q (.ref l) (L2.upd H l (.lst ys))) (tCons (tVar 3) tNil) [some (V.ref b), some (.ref D), some (.int (i : Nat)), some (.ref da)] H2 fun t H3 => rCat r t H3 fun r2 H4 => gName 1 r2 [some (V.ref b), some (.ref D), some (.int (i : Nat)), some (.ref da)] H4 fun σ2 H5 => ∃ (y1 y2 : Option V) (D : Addr), σ2 = [some (V.ref b), some (.ref D), y1, y2] ∧ Fr K [] H H5 ∧ H D = none ∧ H5 D = some (.lst ((hd ++ dsT (ds.take (i + 1))).map V.str)) := by
      intro sep q H1 hs he g2 hq
      refine ⟨D, q, _, _, rfl, rfl, g2.at hD, hq, by rw [List.length_map, List.length_map, List.length_append, hdl]; exact Nat.le_trans (by omega : _ ≤ 200) (by decide), fun r nr => ?_⟩
      have F2 := f.trans g2
      have g3 := Fr.new (E := []) (o := .lst ((hd ++ us).map V.str ++ sep.map V.str)) F2.2 nr
      have F3 := F2.trans g3
      refine ⟨_, rfl, da, _, rfl, .inr (.inl (.inl (F3.at hda))), fun t nt => ?_⟩
      have g4 := Fr.new (E := []) (o := .lst ((dTold d).map V.str)) F3.2 nt
      have F4 := F3.trans g4
      refine ⟨r, t, _, _, rfl, rfl, g4.at upd_same, upd_same, by rw [List.length_append, List.length_map, List.length_map, List.length_map, List.length_append, hdl]; exact Nat.le_trans (by omega : _ ≤ 300) (by decide), fun z2 nz => ?_⟩
      refine ⟨_, _, z2, rfl, F4.trans (Fr.new F4.2 nz), F4.3 _ nz, ?_⟩
      rw [upd_same, ← he]
      simp
    refine ⟨_, rfl, _, rfl, _, _, rfl, rfl, _, rfl, ?_⟩
    by_cases h0 : 0 < i
    · refine iteD (by omega) ⟨by show 1 ≤ sizeLine; decide, fun q nq => ?_⟩
      have g7 := Fr.new (E := []) (o := .lst [.str ","]) g6.2 nq
      exact rest [","] q _ (by simp) (by rw [tk, if_pos h0]) (g6.trans g7) upd_same
    · refine iteN (by omega) ⟨by show 0 ≤ sizeLine; decide, fun q nq => ?_⟩
      have g7 := Fr.new (E := []) (o := .lst []) g6.2 nq
      exact rest [] q _ (by simp) (by rw [tk, if_neg h0]) (g6.trans g7) upd_same
  · subst es
    rw [hlen, List.take_length] at hD
    refine ⟨_, rfl, kk H' D f nD ?_⟩
    rw [hD]
    show _ = some (HO.lst (List.map V.str (("if" : Str) :: (c.told ++ (("then" : Str) :: dsT ds)))))
    simp [hd]
end
end So
end

section
set_option Elab.async false
set_option linter.all false
set_option maxRecDepth 100000
set_option maxHeartbeats 4000000
namespace So
open PySem PySem.Spec PyProof.Rows L2 GxA TL
open GxR (TabB TabG Tabbed)
def rowT (r : RuleD) : Str := Txt.join " " (ruleT r.1 r.2)
/-- a word as a row of the law holds it -/
structure Rw (x : Str) : Prop where
  len : x.length ≤ 10
  wd : Wd (tl x)
  nl : 10 ∉ tl x
theorem nm_rw {x : Str} (h : Nm x) : Rw x := by
  have az : ∀ d ∈ ("abcdefghijklmnopqrstuvwxyz" : Str).cps.toList, d ≠ 32 ∧ d ≠ 10 ∧ d ∉ sg := by decide +kernel
  refine ⟨h.2.1, .inl ⟨fun z => ?_, fun m => ?_, fun d m => ?_⟩, fun m => ?_⟩
  · have := h.1
    rw [len_tl, z] at this
    exact absurd this (by decide)
  · exact (az _ (h.2.2 _ m)).1 rfl
  · exact (az _ (h.2.2 _ m)).2.2
  · exact (az _ (h.2.2 _ m)).2.1 rfl
instance (w : List Nat) : Decidable (Wd w) := by unfold Wd; exact inferInstance
theorem fixed_rw : ∀ k ∈ fixedW, Rw k := by
  have h : ∀ k ∈ fixedW, k.length ≤ 10 ∧ Wd (tl k) ∧ 10 ∉ tl k := by decide +kernel
  exact fun k m => ⟨(h k m).1, (h k m).2.1, (h k m).2.2⟩
theorem num_rw : ∀ n ∈ nums, Rw (numS n) := by
  have h : ∀ n ∈ nums, (numS n).length ≤ 10 ∧ Wd (tl (numS n)) ∧ 10 ∉ tl (numS n) := by decide +kernel
  exact fun k m => ⟨(h k m).1, (h k m).2.1, (h k m).2.2⟩
theorem rule_rw {W : List Str} {r : RuleD} (h : RWf W r) : ∀ x ∈ ruleT r.1 r.2, Rw x := rule_all fixed_rw (fun _ h => nm_rw h) num_rw h
theorem ruleT_ne (c : Cnd) (ds : List Deed) : ruleT c ds ≠ [] := by unfold ruleT; simp
theorem sum_le {l : List Str} {n : Nat} (h : ∀ x ∈ l, x.length ≤ n) : (l.map (·.length)).sum ≤ n * l.length := by
  induction l with
  | nil => simp
  | cons x l ih =>
    have h1 := h x List.mem_cons_self
    have h2 := ih fun y m => h y (List.mem_cons_of_mem _ m)
    rw [List.map_cons, List.sum_cons, List.length_cons, Nat.mul_succ]
    omega
theorem rowT_len {W : List Str} {r : RuleD} (h : RWf W r) : (rowT r).length ≤ 660 := by
  unfold rowT
  rw [join_eq]
  have h1 := StrLaws.join_length_le " " (ruleT r.1 r.2)
  have h2 := sum_le (n := 10) fun x m => (rule_rw h x m).len
  have h3 : (ruleT r.1 r.2).length ≤ 60 := h.2.2.2.2.2.2.2
  have h4 : (" " : Str).length = 1 := by decide +kernel
  rw [h4] at h1
  omega
theorem rowT_words {W : List Str} {r : RuleD} (h : RWf W r) : wordsOf (rowT r) = ruleT r.1 r.2 := wordsOf_join (ruleT_ne _ _) fun x m => (rule_rw h x m).wd
theorem joinL_mem {S : List Nat} {c : Nat} : ∀ {ps : List (List Nat)}, c ∈ joinL S ps → c ∈ S ∨ ∃ p ∈ ps, c ∈ p
  | [], h => by cases h
  | [p], h => .inr ⟨p, List.mem_cons_self, h⟩
  | p :: q :: r, h => by
    rcases List.mem_append.mp (show c ∈ p ++ (S ++ joinL S (q :: r)) from h) with h | h
    · exact .inr ⟨p, List.mem_cons_self, h⟩
    rcases List.mem_append.mp h with h | h
    · exact .inl h
    · rcases joinL_mem h with h | ⟨u, hu, h⟩
      · exact .inl h
      · exact .inr ⟨u, List.mem_cons_of_mem _ hu, h⟩
theorem rowT_nl {W : List Str} {r : RuleD} (h : RWf W r) : 10 ∉ tl (rowT r) := by
  unfold rowT
  rw [join_eq, tl_join]
  intro m
  rcases joinL_mem m with m | ⟨p, hp, m⟩
  · revert m; decide +kernel
  · obtain ⟨x, hx, rfl⟩ := List.mem_map.mp hp
    exact (rule_rw h x hx).nl m
theorem rowT_head {r : RuleD} : ∃ t, tl (rowT r) = 105 :: t := by
  unfold rowT
  rw [join_eq, tl_join]
  have e : tl ("if" : Str) = [105, 102] := by decide +kernel
  obtain ⟨x, xs, h⟩ : ∃ x xs, r.1.told ++ (("then" : Str) :: dsT r.2) = x :: xs := by
    cases h : r.1.told ++ (("then" : Str) :: dsT r.2) with
    | nil => simp at h
    | cons x xs => exact ⟨x, xs, rfl⟩
  unfold ruleT
  rw [h]
  show ∃ t, tl ("if" : Str) ++ _ = 105 :: t
  rw [e]
  exact ⟨_, rfl⟩
theorem starts_no {x : Str} {c : Nat} {t : List Nat} (h : tl x = c :: t) (hc : c ≠ 35) : Txt.startswith x "#" = false := by
  have e : tl ("#" : Str) = [35] := by decide +kernel
  unfold Txt.startswith
  rw [Bool.eq_false_iff]
  intro z
  obtain ⟨z1, z2⟩ := Bool.and_eq_true_iff.mp z
  have ha : StrLaws.At x ("#" : Str) x.length 0 := ⟨of_decide_eq_true z1, z2⟩
  have := (at_iff (by rw [e]; simp) 0).mp ha
  rw [List.drop_zero, h, e] at this
  have h2 : ([c] : List Nat) = [35] := eq_of_beq this
  injection h2 with h2
  exact hc h2
theorem rowT_ok {W : List Str} {r : RuleD} (h : RWf W r) : RowOk W (rowT r) (some r) := by
  obtain ⟨t, ht⟩ := rowT_head (r := r)
  exact ⟨rowT_words h, starts_no ht (by decide), h⟩
def idleRows : List Str := ["", "# if any then stop", "   ", "#"]
theorem idle_ok {W : List Str} : ∀ x ∈ idleRows, RowOk W x none ∧ x.length ≤ 1000 ∧ 10 ∉ tl x := by
  have h : ∀ x ∈ idleRows, (wordsOf x = [] ∨ Txt.startswith x "#" = true) ∧ x.length ≤ 1000 ∧ 10 ∉ tl x := by decide +kernel
  exact h
section
variable {P : Program} {w : World} {K : PySem.W.Frag} {mg : Str → Option Value} {base : Heap}
def spText (K : PySem.W.Frag) : Sp := fun vs H Q _ => ∃ (v : V) (rs : List RuleD) (W : List Str), vs = [v] ∧ Tr H v (.list (rs.map ruleL)) ∧ (∀ r ∈ rs, RWf W r) ∧ rs.length ≤ 10 ∧ Tb K H ∧
  ∀ (H' : Hp), Fr K [] H H' → Q (.str (Txt.join "\n" (rs.map rowT))) H'
theorem R_text (T : Txt w K mg base) : FnR P w K mg base CX0 18 (a_law_text K) (spText K) := by
  refine mkR T.f_law_text sc_law_text bd_law_text ?_ ?_
  · rintro vs H Q E ⟨v, rs, W, rfl, _⟩; rfl
  rintro cdv A outer s H vs Q E hr ⟨v, rs, W, rfl, hv, hw, hl, tb, kk⟩
  have nd := sc_law_text.nd
  obtain ⟨_, F1⟩ := T.f_law_rule_words
  refine ⟨_, pss_one (ps_ret (pe_join pe_str (pe_lc (own := [("_law_rule", 1)]) (g := gName 1) (tt := tYes) (te := tM1 (fun x xs H Q => ∃ a p, ∃ ys : List Str, x = .str a ∧ xs = [.ref p] ∧ (SqL K H p (ys.map V.str) ∨ SqT K H p (ys.map V.str)) ∧ (ys.map (·.length)).sum + ys.length * a.length ≤ 16777216 ∧ Q (.str (Txt.join a ys)) H) (tC (.str " ")) (tCF (spRuleWords K) (tCons (tVar 1) tNil))) rfl nd (pi_list (pv 0)) (blkOk_by (own := [("_law_rule", 1)]) (N := N_law_text) (sc := defScope s_law_text) (by decide +kernel))
    (fun _ _ _ _ _ => pg_name (i := 1) nd rfl (Or.inl rfl)) (fun _ _ _ _ _ => pts_nil) (fun _ _ _ _ _ => pe_join pe_str (pe_cF (R_rule_words T) (hr.mono (by decide)) (by rfl) T.g_law_rule_words F1.kp (pa_cons (pv 1) pa_nil)))))), ?_⟩
  obtain ⟨lst, ys, rfl, hls, htr⟩ := tr_lst hv
  have hlen : ys.length = rs.length := by rw [htr.len, List.length_map]
  refine ⟨⟨_, rfl⟩, _, rfl, lst, rfl, ⟨_, SqL.of hls⟩, fun D nD => ?_⟩
  refine lc_list (xs := ys) (fun i H' => Fr K [] H H' ∧ H' D = some (.lst (((rs.take i).map rowT).map V.str))) ⟨Fr.new tb nD, upd_same⟩ (fun i H' _ ⟨f, _⟩ => SqL.of (f.at hls)) (fun i y H' hy ⟨f, hD⟩ => ?_) (fun H' ⟨f, hD⟩ => ?_)
  · obtain ⟨r, hri⟩ : ∃ r, rs[i]? = some r := by
      have : i < rs.length := by rw [← hlen]; exact (List.getElem?_eq_some_iff.mp hy).1
      exact ⟨_, List.getElem?_eq_getElem this⟩
    have hi : i < rs.length := (List.getElem?_eq_some_iff.mp hri).1
    have htd : Tr H y (ruleL r) := htr.at i y (ruleL r) hy (by rw [List.getElem?_map, hri]; rfl)
    have hwr := hw r (List.mem_of_getElem? hri)
    refine ⟨rfl, ⟨_, rfl⟩, _, rfl, y, r, W, rfl, tr_fr f htd, hwr, f.2, fun H2 p g np hp => ?_⟩
    refine ⟨_, p, ruleT r.1 r.2, rfl, rfl, .inl (SqL.of hp), ?_, ?_⟩
    · have h2 := sum_le (n := 10) fun x m => (rule_rw hwr x m).len
      have h3 : (ruleT r.1 r.2).length ≤ 60 := hwr.2.2.2.2.2.2.2
      have h4 : (" " : Str).length = 1 := by decide +kernel
      rw [h4]
      omega
    · refine ⟨_, g.at hD, ?_, (f.trans g).upNew tb nD, ?_⟩
      · rw [List.length_map, List.length_map, List.length_take]
        exact Nat.lt_of_le_of_lt (by omega : _ ≤ 10) (by decide)
      · rw [upd_same, List.take_add_one, hri, List.map_append, List.map_append]
        rfl
  · rw [hlen, List.take_length] at hD
    refine ⟨_, D, rs.map rowT, rfl, rfl, .inl (SqL.of hD), ?_, kk H' f⟩
    have h2 := sum_le (l := rs.map rowT) (n := 660) fun x m => by
      obtain ⟨r, hr2, rfl⟩ := List.mem_map.mp m
      exact rowT_len (hw r hr2)
    have h4 : ("\n" : Str).length = 1 := by decide +kernel
    rw [h4]
    rw [List.length_map] at h2 ⊢
    omega
end
end So
end

section
set_option Elab.async false
set_option linter.all false
set_option maxRecDepth 100000
set_option maxHeartbeats 4000000
namespace So
open PySem PySem.Spec PyProof.Rows L2 GxA TL
open GxR (TabB TabG Tabbed)
theorem hu65 {k : Nat} {A : Around} (hr : Room k A) : A.units + 65 < cLine := by have := hr.un; omega
theorem inV_bl (bs : List Bool) (b : Bool) : inV (.bl b) (bs.map V.bl) = bs.contains b := by
  unfold inV
  induction bs with
  | nil => rfl
  | cons a bs ih =>
    rw [List.map_cons, List.any_cons, ih, List.contains_cons]
    show ((a == b) || _) = _
    rw [Bool.beq_comm]
def pairD (q : Str × Str) : PyData := .tuple [.str q.1, .str q.2]
theorem shaped_pairs {zs : List (Str × Str)} (h : ∀ q ∈ zs, PyData.strOk q.1 = true ∧ PyData.strOk q.2 = true) : SeqAt.shaped (.list (zs.map pairD)) = true := by
  unfold SeqAt.shaped
  rw [Bool.and_eq_true]
  have h1 : PyData.canLayAll0 (zs.map pairD) = true := by
    induction zs with
    | nil => rfl
    | cons q zs ih =>
      obtain ⟨a, b⟩ := h q List.mem_cons_self
      show ((PyData.strOk q.1 && (PyData.strOk q.2 && true)) && PyData.canLayAll0 (zs.map pairD)) = true
      rw [a, b, ih fun y m => h y (List.mem_cons_of_mem _ m)]
      rfl
  have z : PyData.depthAll (zs.map pairD) ≤ 1 := by
    clear h h1
    induction zs with
    | nil => exact Nat.zero_le _
    | cons q zs ih =>
      show max (PyData.depth (pairD q)) (PyData.depthAll (zs.map pairD)) ≤ 1
      exact Nat.max_le.mpr ⟨Nat.le_refl _, ih⟩
  refine ⟨h1, decide_eq_true ?_⟩
  show PyData.depthAll (zs.map pairD) + 1 ≤ 64
  omega
theorem any_pairs (zs : List (Str × Str)) (x y : Str) : ((zs.map pairD).any fun z => PyData.eqv z (.tuple [.str x, .str y])) = zs.contains (x, y) := by
  induction zs with
  | nil => rfl
  | cons q zs ih =>
    rw [List.map_cons, List.any_cons, ih, List.contains_cons]
    congr 1
    show ((q.1 == x) && ((q.2 == y) && true)) = ((x, y) == q)
    rw [Bool.and_true, Bool.eq_iff_iff, Bool.and_eq_true, beq_iff_eq, beq_iff_eq, beq_iff_eq]
    exact ⟨fun z => by rw [← z.1, ← z.2], fun z => by rw [← z]; exact ⟨rfl, rfl⟩⟩
theorem tps_dp {K : PySem.W.Frag} {H : Hp} : ∀ {ts : List Addr} {zs : List (Str × Str)}, ZlX.Tps H ts (zs.map fun q => (V.str q.1, V.str q.2)) → DpAll K H (ts.map V.ref) (zs.map pairD)
  | _, [], h => by cases h; exact .nil
  | _, q :: zs, h => by
    cases h with
    | cons a b => exact .cons (.tup (.inl (.inl a)) (.cons (.str _) (.cons (.str _) .nil))) (tps_dp b)
section
variable {P : Program} {w : World} {K : PySem.W.Frag} {mg : Str → Option Value} {base : Heap}
open SkX in
theorem R_rank (T : Txt w K mg base) : ∃ fd, FnOk P w K mg base CX0 1 (a_law_rank K) fd ["_law_name"] spKey ∧ Binds K fd ["_law_name"] [] ∧ PySem.W.keepIn K (.ref (a_law_rank K)) = true := by
  obtain ⟨fd, F⟩ := T.f_law_rank
  refine ⟨fd, F.ok sc_law_rank ?_ ?_, F.bindsN bd_law_rank, F.kp⟩
  · rintro vs H Q E ⟨x, rfl, _⟩; rfl
  rintro cdv A outer s H vs Q E hr ⟨x, rfl, hx, k⟩
  refine ⟨_, PSs.nox (pss_one (ps_ret (pe_tup (pa_cons (pe_callB call_len_str (by rfl) T.z_len PySem.boot_len (pa_cons (pv 0) pa_nil)) (pa_cons (pv 0) pa_nil))))), ?_⟩
  exact ⟨_, rfl, x, rfl, Nat.le_trans hx (by decide), _, rfl, by show 2 ≤ sizeLine; decide, k⟩
def spLHolds (m : Nat) (K : PySem.W.Frag) : Sp := fun vs H Q _ => ∃ (v : V) (lt Dm : Addr) (c : Cnd) (L : Ltr) (ms : List Str) (Ws : List Str) (l : Nat), vs = [v, .ref lt, .ref Dm] ∧ Tr H v c.l ∧ LtAt H lt L ∧ LWf L ∧ H Dm = some (.lst (ms.map V.str)) ∧ c.wf Ws l ∧ c.hl < m ∧ Tb K H ∧
  ∀ H', Fr K [] H H' → Q (.bl (c.ev L ms)) H'
abbrev tDisp (a b : Str) : TE := tTup (tCons (tC (.str a)) (tCons (tC (.str b)) tNil))
theorem in_no {σ : L2.St} {H : Hp} {kd a b : Str} {i : Nat} {R : Bool → Hp → Prop} (hs : σ[i]? = some (some (.str kd))) (tb : Tb K H) (h1 : kd ≠ a) (h2 : kd ≠ b) (q : ∀ H1, Fr K [] H H1 → R false H1) : tTest (tOp (rIn K false) (tVar i) (tDisp a b)) σ H R := by
  refine ⟨_, hs, by show 2 ≤ sizeLine; decide, fun t nt => ?_⟩
  have g := Fr.new (E := []) (o := .tup [.str a, .str b]) tb nt
  refine ⟨t, _, rfl, .inr (.inl (.inl upd_same)), rfl, rfl, _, rfl, ?_⟩
  have e : inV (V.str kd) [.str a, .str b] = false := by
    show ((a == kd) || ((b == kd) || false)) = false
    rw [beq_eq_false_iff_ne.mpr (Ne.symm h1), beq_eq_false_iff_ne.mpr (Ne.symm h2)]
    rfl
  show R (if false = true then !inV (V.str kd) [.str a, .str b] else inV (V.str kd) [.str a, .str b]) _
  rw [e]
  exact q _ g
theorem in_yes {σ : L2.St} {H : Hp} {kd a b : Str} {i : Nat} {R : Bool → Hp → Prop} (hs : σ[i]? = some (some (.str kd))) (tb : Tb K H) (h : kd = a ∨ kd = b) (q : ∀ H1, Fr K [] H H1 → R true H1) : tTest (tOp (rIn K false) (tVar i) (tDisp a b)) σ H R := by
  refine ⟨_, hs, by show 2 ≤ sizeLine; decide, fun t nt => ?_⟩
  have g := Fr.new (E := []) (o := .tup [.str a, .str b]) tb nt
  refine ⟨t, _, rfl, .inr (.inl (.inl upd_same)), rfl, rfl, _, rfl, ?_⟩
  have e : inV (V.str kd) [.str a, .str b] = true := by
    show ((a == kd) || ((b == kd) || false)) = true
    rcases h with rfl | rfl
    · rw [beq_self_eq_true]; rfl
    · rw [beq_self_eq_true, Bool.true_or, Bool.or_true]
  show R (if false = true then !inV (V.str kd) [.str a, .str b] else inV (V.str kd) [.str a, .str b]) _
  rw [e]
  exact q _ g
theorem lholds_step (T : Txt w K mg base) {m n : Nat} (hH : FnR P w K mg base CX0 (n + 1) (a_law_holds K) (spLHolds m K)) : FnR P w K mg base CX0 (n + 2) (a_law_holds K) (spLHolds (m + 1) K) := by
  refine mkR T.f_law_holds sc_law_holds bd_law_holds ?_ ?_
  · rintro vs H Q E ⟨v, lt, Dm, c, L, ms, Ws, l, rfl, _⟩; rfl
  rintro cdv A outer s H vs Q E hr ⟨v, lt, Dm, c, L, ms, Ws, l, rfl, hv, hL, hl, hm, hw, hh, tb, kk⟩
  have nd := sc_law_holds.nd
  obtain ⟨_, F1⟩ := T.f_law_holds
  refine ⟨_, pss_cons (ps_asg (pe_tup (pa_cons (pe_ix ix_tup (pv 0) pe_int (fun _ _ => rfl)) (pa_cons (pv 1) pa_nil))) (pg_tup (by rfl) (pgs_cons (pg_name (i := 3) nd rfl (.inl rfl)) (pgs_cons (pg_tup (by rfl) (pgs_cons (pg_name (i := 4) nd rfl (.inl rfl)) (pgs_cons (pg_name (i := 5) nd rfl (.inl rfl)) (pgs_cons (pg_name (i := 6) nd rfl (.inl rfl)) pgs_nil)))) pgs_nil))))
    (pss_cons (ps_if (pt_cmpR op_eq (pv 3) pe_str (nomark _)) (pss_one (ps_ret pe_bl)) pss_nil)
    (pss_cons (ps_if (pt_cmpR op_in_seq (pv 3) (pe_tup (pa_cons pe_str (pa_cons pe_str pa_nil))) (by rfl)) (pss_one (ps_ret (pe_cmpR op_eq (pe_cF hH hr (by rfl) T.g_law_holds F1.kp (pa_cons (pe_ix ix_tup (pv 0) pe_int (fun _ _ => rfl)) (pa_cons (pv 1) (pa_cons (pv 2) pa_nil)))) (pe_cmpR op_eq (pv 3) pe_str (nomark _)) (nomark _)))) pss_nil)
    (pss_cons (ps_if (pt_cmpR op_in_seq (pv 3) (pe_tup (pa_cons pe_str (pa_cons pe_str pa_nil))) (by rfl))
      (pss_cons (ps_setLc (i := 7) (own := [("_law_part", 8)]) (g := gName 8) (tt := tYes) (te := tCF (spLHolds m K) (tCons (tVar 8) (tCons (tVar 1) (tCons (tVar 2) tNil)))) rfl nd rfl rfl (sw_true rfl rfl rfl (by decide +kernel))
          (pi_list (pe_ix ix_tup (pv 0) pe_int (fun _ _ => rfl))) (blkOk_by (own := [("_law_part", 8)]) (N := N_law_holds) (sc := defScope s_law_holds) (by decide +kernel)) (fun _ _ _ _ _ => pg_name (i := 8) nd rfl (Or.inl rfl)) (fun _ _ _ _ _ => pts_nil)
          (fun _ _ _ _ _ => pe_cF hH hr (by rfl) T.g_law_holds F1.kp (pa_cons (pv 8) (pa_cons (pv 1) (pa_cons (pv 2) pa_nil)))))
        (pss_one (ps_ret (pe_ifExp (pt_cmpR op_eq (pv 3) pe_str (nomark _)) (pe_cmpR op_notIn_seq pe_bl (pv 7) (by rfl)) (pe_cmpR op_in_seq pe_bl (pv 7) (by rfl)))))) pss_nil)
    (pss_cons (ps_if (pt_cmpR op_eq (pv 3) pe_str (nomark _)) (pss_one (ps_ret (pe_cmpR op_eq (pv 4) (pe_ix ix_tup (pv 0) pe_int (fun _ _ => rfl)) (nomark _)))) pss_nil)
    (pss_cons (ps_if (pt_cmpR op_eq (pv 3) pe_str (nomark _)) (pss_one (ps_ret (pe_cmpR op_in_seq (pe_ix ix_tup (pv 0) pe_int (fun _ _ => rfl)) (pv 5) (by rfl)))) pss_nil)
    (pss_cons (ps_if (PW.pt (pw_or (pt_cmpR op_eq (pv 3) pe_str (nomark _)) (pw_or1 (pt_cmpR op_eq (pv 3) pe_str (nomark _)))))
      (pss_one (ps_ret (pe_and (pe_cmpR (op_neD hr.units) (pv 5) (pe_lst pa_nil) (nomark _)) (pe_one (pe_cmpR op_eq (pe_ix ix_list (pv 5) (pe_ifExp (pt_cmpR op_eq (pv 3) pe_str (nomark _)) pe_int (pe_un un_neg pe_int)) (fun _ _ => rfl)) (pe_ix ix_tup (pv 0) pe_int (fun _ _ => rfl)) (nomark _)))))) pss_nil)
    (pss_cons (ps_if (pt_cmpR op_eq (pv 3) pe_str (nomark _)) (pss_one (ps_ret (pe_cmpR (op_inD (hu65 hr)) (pe_slice sl_tup (pv 0) (po_some pe_int) po_none) (ZlX.pe_listZip rfl (by rfl) T.z_list (by rfl) T.z_zip (pa_cons (pv 5) (pa_cons (pe_slice sl_list (pv 5) (po_some pe_int) po_none) pa_nil))) (by rfl)))) pss_nil)
    (pss_one (ps_ret (pe_ifExp (pt_cmpR op_eq (pv 3) pe_str (nomark _)) (pe_cmpR op_gt (pv 6) (pe_callTy call_int_str (by rfl) T.z_int (by decide +kernel) (pa_cons (pe_ix ix_tup (pv 0) pe_int (fun _ _ => rfl)) pa_nil)) (nomark _)) (pe_cmpR op_in_seq (pe_ix ix_tup (pv 0) pe_int (fun _ _ => rfl)) (pv 2) (by rfl)))))))))))), ?_⟩
  obtain ⟨lw, hlt, hl2⟩ := hL.ob
  have okw : ∀ x ∈ L.ws, PyData.strOk x = true := fun x m => (hl.ws x m).ok
  have eqS : ∀ {x y : Str}, decide (V.str x = V.str y) = (x == y) := fun {x y} => by
    rw [Bool.eq_iff_iff, decide_eq_true_iff, beq_iff_eq]
    exact ⟨fun z => by injection z, fun z => by rw [z]⟩
  cases c with
  | any =>
    obtain ⟨b, xs, rfl, hb, hx⟩ := tr_tup hv
    have hx := trAll_strs (xs := ["any"]) hx
    subst hx
    refine ⟨_, rfl, b, _, _, .str "any", rfl, rfl, .inl (.inl hb), rfl, _, rfl, by show 2 ≤ sizeLine; decide, fun t nt => ?_⟩
    have g1 := Fr.new (E := []) (o := .tup [.str "any", .ref lt]) tb nt
    refine ⟨t, _, rfl, .inl (.inl upd_same), rfl, _, _, rfl, _, _, rfl, lt, _, rfl, .inl (.inl (g1.at hlt)), rfl, _, _, rfl, _, _, rfl, _, _, rfl, rfl, rfl, ?_⟩
    refine ⟨_, rfl, rfl, _, rfl, iteD rfl ?_⟩
    exact kk _ g1
  | over nn =>
    obtain ⟨b, xs, rfl, hb, hx⟩ := tr_tup hv
    have hx := trAll_strs (xs := ["over", numS nn]) hx
    subst hx
    refine ⟨_, rfl, b, _, _, .str "over", rfl, rfl, .inl (.inl hb), rfl, _, rfl, by show 2 ≤ sizeLine; decide, fun t nt => ?_⟩
    have g1 := Fr.new (E := []) (o := .tup [.str "over", .ref lt]) tb nt
    refine ⟨t, _, rfl, .inl (.inl upd_same), rfl, _, _, rfl, _, _, rfl, lt, _, rfl, .inl (.inl (g1.at hlt)), rfl, _, _, rfl, _, _, rfl, _, _, rfl, rfl, rfl, ?_⟩
    refine ⟨_, rfl, rfl, _, rfl, iteX (x := "over") (y := "any") (by decide +kernel) ?_⟩
    refine in_no (i := 3) (kd := "over") (a := "not") (b := "(") rfl g1.2 (by decide +kernel) (by decide +kernel) fun H2 g2 => iteF ?_
    refine in_no (i := 3) (kd := "over") (a := "and") (b := "or") rfl g2.2 (by decide +kernel) (by decide +kernel) fun H3 g3 => iteF ?_
    have G := (g1.trans g2).trans g3
    have hb3 := G.at hb
    have hl3 := G.at hl2
    refine ⟨_, rfl, rfl, _, rfl, iteX (x := "over") (y := "from") (by decide +kernel) ?_⟩
    refine ⟨_, rfl, rfl, _, rfl, iteX (x := "over") (y := "has") (by decide +kernel) ?_⟩
    refine ⟨_, rfl, rfl, _, rfl, iteX (x := "over") (y := "first") (by decide +kernel) ?_⟩
    refine ⟨_, rfl, rfl, _, rfl, iteX (x := "over") (y := "last") (by decide +kernel) ?_⟩
    refine ⟨_, rfl, rfl, _, rfl, iteX (x := "over") (y := "pair") (by decide +kernel) ?_⟩
    refine ⟨_, rfl, rfl, _, rfl, iteD rfl ?_⟩
    have ok := num_ok nn hw
    unfold NumOk at ok
    simp only [Bool.and_eq_true, decide_eq_true_eq] at ok
    refine ⟨_, rfl, _, rfl, b, _, _, .str (numS nn), rfl, rfl, .inl (.inl hb3), rfl, _, nn, rfl, ok.2, Nat.le_trans ok.1.1.1.2 (by decide), _, _, rfl, rfl, ?_⟩
    have := kk H3 G
    have e2 : decide ((nn : Int) < (L.sz : Int)) = decide (nn < L.sz) := by
      rw [Bool.eq_iff_iff, decide_eq_true_iff, decide_eq_true_iff]; omega
    show Q (.bl (decide ((nn : Int) < (L.sz : Int)))) H3
    rw [e2]
    exact this
  | pair x y =>
    obtain ⟨b, xs, rfl, hb, hx⟩ := tr_tup hv
    have hx := trAll_strs (xs := ["pair", x, y]) hx
    subst hx
    refine ⟨_, rfl, b, _, _, .str "pair", rfl, rfl, .inl (.inl hb), rfl, _, rfl, by show 2 ≤ sizeLine; decide, fun t nt => ?_⟩
    have g1 := Fr.new (E := []) (o := .tup [.str "pair", .ref lt]) tb nt
    refine ⟨t, _, rfl, .inl (.inl upd_same), rfl, _, _, rfl, _, _, rfl, lt, _, rfl, .inl (.inl (g1.at hlt)), rfl, _, _, rfl, _, _, rfl, _, _, rfl, rfl, rfl, ?_⟩
    refine ⟨_, rfl, rfl, _, rfl, iteX (x := "pair") (y := "any") (by decide +kernel) ?_⟩
    refine in_no (i := 3) (kd := "pair") (a := "not") (b := "(") rfl g1.2 (by decide +kernel) (by decide +kernel) fun H2 g2 => iteF ?_
    refine in_no (i := 3) (kd := "pair") (a := "and") (b := "or") rfl g2.2 (by decide +kernel) (by decide +kernel) fun H3 g3 => iteF ?_
    have G := (g1.trans g2).trans g3
    have hb3 := G.at hb
    have hl3 := G.at hl2
    refine ⟨_, rfl, rfl, _, rfl, iteX (x := "pair") (y := "from") (by decide +kernel) ?_⟩
    refine ⟨_, rfl, rfl, _, rfl, iteX (x := "pair") (y := "has") (by decide +kernel) ?_⟩
    refine ⟨_, rfl, rfl, _, rfl, iteX (x := "pair") (y := "first") (by decide +kernel) ?_⟩
    refine ⟨_, rfl, rfl, _, rfl, iteX (x := "pair") (y := "last") (by decide +kernel) ?_⟩
    refine ⟨_, rfl, rfl, _, rfl, iteD rfl ?_⟩
    refine ⟨_, rfl, 1, rfl, b, _, rfl, .inl (.inl hb3), (fun z => absurd z.1 (by show ¬ HT.sIx 3 0 (some 1) = 0; decide)), fun p np => ?_⟩
    have g4 := Fr.new (E := []) (o := .tup [.str x, .str y]) G.2 np
    have G4 := G.trans g4
    have ll := hl.len
    refine ⟨_, rfl, _, rfl, 1, rfl, lw, _, rfl, SqL.of (g4.at hl3), fun p2 np2 => ?_⟩
    rw [show (some (1 : Int)) = some ((1 : Nat) : Int) from rfl]
    have g5 := Fr.new (E := []) (o := .lst (cutV (L.ws.map V.str) (some ((1 : Nat) : Int)) none)) G4.2 np2
    refine ⟨lw, p2, L.ws.map V.str, _, rfl, SqL.of (g5.at (g4.at hl3)), SqL.of upd_same, by rw [List.length_map]; omega, fun H5 S ts sm hS tps => ?_⟩
    have f6 := Fr.same (E := []) (G4.trans g5).2 sm
    have hz : (L.ws.map V.str).zip (cutV (L.ws.map V.str) (some ((1 : Nat) : Int)) none) = (L.ws.zip L.ws.tail).map fun q => (V.str q.1, V.str q.2) := by
      have e : cutV (L.ws.map V.str) (some ((1 : Nat) : Int)) none = L.ws.tail.map V.str := by
        cases h0 : L.ws with
        | nil => rfl
        | cons w0 wr =>
          rw [cutV_n (by simp), ← List.map_drop]
          rfl
      rw [e, List.zip_map]
      rfl
    rw [hz] at tps
    refine ⟨_, _, Dp.tup (.inl (.inl ((g5.trans f6).at (upd_same (H := H3) (a := p) (o := .tup [.str x, .str y]))))) (.cons (.str x) (.cons (.str y) .nil)), Dp.lst (SqL.of hS) (tps_dp tps), ?_, ?_, ?_⟩
    · unfold SeqAt.shaped
      rw [Bool.and_eq_true]
      refine ⟨?_, decide_eq_true (by show max 0 (max 0 0) + 1 ≤ 64; decide)⟩
      show (PyData.strOk x && (PyData.strOk y && true)) = true
      rw [hw.1.ok, hw.2.1.ok]; rfl
    · refine shaped_pairs fun q hq => ?_
      obtain ⟨m1, m2⟩ := List.of_mem_zip hq
      exact ⟨okw _ m1, okw _ (List.mem_of_mem_tail m2)⟩
    · have fin := kk H5 ((G4.trans g5).trans f6)
      rw [any_pairs]
      exact fin
  | fact kd n =>
    obtain ⟨b, xs, rfl, hb, hx⟩ := tr_tup hv
    have hx := trAll_strs (xs := [kd, n]) hx
    subst hx
    have hk : kd ∈ kinds1 := hw.1
    simp only [kinds1, List.mem_cons, List.not_mem_nil, or_false] at hk
    rcases hk with rfl | rfl | rfl | rfl | rfl
    · -- from
      refine ⟨_, rfl, b, _, _, .str "from", rfl, rfl, .inl (.inl hb), rfl, _, rfl, by show 2 ≤ sizeLine; decide, fun t nt => ?_⟩
      have g1 := Fr.new (E := []) (o := .tup [.str "from", .ref lt]) tb nt
      refine ⟨t, _, rfl, .inl (.inl upd_same), rfl, _, _, rfl, _, _, rfl, lt, _, rfl, .inl (.inl (g1.at hlt)), rfl, _, _, rfl, _, _, rfl, _, _, rfl, rfl, rfl, ?_⟩
      refine ⟨_, rfl, rfl, _, rfl, iteX (x := "from") (y := "any") (by decide +kernel) ?_⟩
      refine in_no (i := 3) (kd := "from") (a := "not") (b := "(") rfl g1.2 (by decide +kernel) (by decide +kernel) fun H2 g2 => iteF ?_
      refine in_no (i := 3) (kd := "from") (a := "and") (b := "or") rfl g2.2 (by decide +kernel) (by decide +kernel) fun H3 g3 => iteF ?_
      have G := (g1.trans g2).trans g3
      have hb3 := G.at hb
      have hl3 := G.at hl2
      refine ⟨_, rfl, rfl, _, rfl, iteD rfl ?_⟩
      refine ⟨_, rfl, _, rfl, b, _, _, .str n, rfl, rfl, .inl (.inl hb3), rfl, rfl, ?_⟩
      show Q (.bl (decide (V.str L.snd = V.str n))) H3
      rw [eqS]
      exact kk H3 G
    · -- has
      refine ⟨_, rfl, b, _, _, .str "has", rfl, rfl, .inl (.inl hb), rfl, _, rfl, by show 2 ≤ sizeLine; decide, fun t nt => ?_⟩
      have g1 := Fr.new (E := []) (o := .tup [.str "has", .ref lt]) tb nt
      refine ⟨t, _, rfl, .inl (.inl upd_same), rfl, _, _, rfl, _, _, rfl, lt, _, rfl, .inl (.inl (g1.at hlt)), rfl, _, _, rfl, _, _, rfl, _, _, rfl, rfl, rfl, ?_⟩
      refine ⟨_, rfl, rfl, _, rfl, iteX (x := "has") (y := "any") (by decide +kernel) ?_⟩
      refine in_no (i := 3) (kd := "has") (a := "not") (b := "(") rfl g1.2 (by decide +kernel) (by decide +kernel) fun H2 g2 => iteF ?_
      refine in_no (i := 3) (kd := "has") (a := "and") (b := "or") rfl g2.2 (by decide +kernel) (by decide +kernel) fun H3 g3 => iteF ?_
      have G := (g1.trans g2).trans g3
      have hb3 := G.at hb
      have hl3 := G.at hl2
      refine ⟨_, rfl, rfl, _, rfl, iteX (x := "has") (y := "from") (by decide +kernel) ?_⟩
      refine ⟨_, rfl, rfl, _, rfl, iteD rfl ?_⟩
      refine ⟨_, rfl, b, _, _, .str n, rfl, rfl, .inl (.inl hb3), rfl, _, rfl, lw, _, rfl, .inl (SqL.of hl3), rfl, by rw [List.all_map]; exact List.all_eq_true.mpr fun _ _ => rfl, ?_⟩
      show Q (.bl (inV (V.str n) (L.ws.map V.str))) H3
      rw [inV_strs]
      exact kk H3 G
    · -- first
      refine ⟨_, rfl, b, _, _, .str "first", rfl, rfl, .inl (.inl hb), rfl, _, rfl, by show 2 ≤ sizeLine; decide, fun t nt => ?_⟩
      have g1 := Fr.new (E := []) (o := .tup [.str "first", .ref lt]) tb nt
      refine ⟨t, _, rfl, .inl (.inl upd_same), rfl, _, _, rfl, _, _, rfl, lt, _, rfl, .inl (.inl (g1.at hlt)), rfl, _, _, rfl, _, _, rfl, _, _, rfl, rfl, rfl, ?_⟩
      refine ⟨_, rfl, rfl, _, rfl, iteX (x := "first") (y := "any") (by decide +kernel) ?_⟩
      refine in_no (i := 3) (kd := "first") (a := "not") (b := "(") rfl g1.2 (by decide +kernel) (by decide +kernel) fun H2 g2 => iteF ?_
      refine in_no (i := 3) (kd := "first") (a := "and") (b := "or") rfl g2.2 (by decide +kernel) (by decide +kernel) fun H3 g3 => iteF ?_
      have G := (g1.trans g2).trans g3
      have hb3 := G.at hb
      have hl3 := G.at hl2
      refine ⟨_, rfl, rfl, _, rfl, iteX (x := "first") (y := "from") (by decide +kernel) ?_⟩
      refine ⟨_, rfl, rfl, _, rfl, iteX (x := "first") (y := "has") (by decide +kernel) ?_⟩
      refine ⟨_, rfl, rfl, _, rfl, iteD rfl (iteT ?_)⟩
      refine ⟨_, rfl, by show 0 ≤ sizeLine; decide, fun e ne => ?_⟩
      have g4 := Fr.new (E := []) (o := .lst []) G.2 ne
      refine ⟨_, _, Dp.lst (SqL.of (g4.at hl3)) strs_dpAll, Dp.lst (SqL.of upd_same) .nil, shaped_ok okw, rfl, _, rfl, ?_⟩
      rw [eqv_nil]
      have fin := kk _ (G.trans g4)
      cases hws : L.ws with
      | nil =>
        refine iteNB (by simp) ?_
        have e3 : (Cnd.fact "first" n).ev L ms = false := by show (L.ws.head? == some n) = false; rw [hws]; rfl
        rw [e3] at fin
        exact fin
      | cons w0 wr =>
        refine iteB (by simp) ?_
        have hl4 := g4.at hl3
        refine ⟨_, rfl, _, rfl, rfl, _, rfl, iteD rfl ⟨lw, _, _, .str w0, rfl, rfl, SqL.of hl4, atI_nat (j := 0) (by rw [hws]; rfl), _, rfl, b, _, _, .str n, rfl, rfl, .inl (.inl (g4.at hb3)), rfl, rfl, ?_⟩⟩
        have e3 : (Cnd.fact "first" n).ev L ms = (w0 == n) := by show (L.ws.head? == some n) = _; rw [hws]; rfl
        rw [e3] at fin
        show Q (.bl (decide (V.str w0 = V.str n))) _
        rw [eqS]
        exact fin
    · -- last
      refine ⟨_, rfl, b, _, _, .str "last", rfl, rfl, .inl (.inl hb), rfl, _, rfl, by show 2 ≤ sizeLine; decide, fun t nt => ?_⟩
      have g1 := Fr.new (E := []) (o := .tup [.str "last", .ref lt]) tb nt
      refine ⟨t, _, rfl, .inl (.inl upd_same), rfl, _, _, rfl, _, _, rfl, lt, _, rfl, .inl (.inl (g1.at hlt)), rfl, _, _, rfl, _, _, rfl, _, _, rfl, rfl, rfl, ?_⟩
      refine ⟨_, rfl, rfl, _, rfl, iteX (x := "last") (y := "any") (by decide +kernel) ?_⟩
      refine in_no (i := 3) (kd := "last") (a := "not") (b := "(") rfl g1.2 (by decide +kernel) (by decide +kernel) fun H2 g2 => iteF ?_
      refine in_no (i := 3) (kd := "last") (a := "and") (b := "or") rfl g2.2 (by decide +kernel) (by decide +kernel) fun H3 g3 => iteF ?_
      have G := (g1.trans g2).trans g3
      have hb3 := G.at hb
      have hl3 := G.at hl2
      refine ⟨_, rfl, rfl, _, rfl, iteX (x := "last") (y := "from") (by decide +kernel) ?_⟩
      refine ⟨_, rfl, rfl, _, rfl, iteX (x := "last") (y := "has") (by decide +kernel) ?_⟩
      refine ⟨_, rfl, rfl, _, rfl, iteX (x := "last") (y := "first") (by decide +kernel) ?_⟩
      refine ⟨_, rfl, rfl, _, rfl, iteD rfl ?_⟩
      refine ⟨_, rfl, by show 0 ≤ sizeLine; decide, fun e ne => ?_⟩
      have g4 := Fr.new (E := []) (o := .lst []) G.2 ne
      refine ⟨_, _, Dp.lst (SqL.of (g4.at hl3)) strs_dpAll, Dp.lst (SqL.of upd_same) .nil, shaped_ok okw, rfl, _, rfl, ?_⟩
      rw [eqv_nil]
      have fin := kk _ (G.trans g4)
      rcases List.eq_nil_or_concat L.ws with hws | ⟨wr, w0, hws⟩
      · refine iteNB (by rw [hws]; rfl) ?_
        have e3 : (Cnd.fact "last" n).ev L ms = false := by show (L.ws.getLast? == some n) = false; rw [hws]; rfl
        rw [e3] at fin
        exact fin
      · have hws : L.ws = wr ++ [w0] := by rw [hws, List.concat_eq_append]
        refine iteB (by rw [hws]; simp) ?_
        have hl4 := g4.at hl3
        refine ⟨_, rfl, _, rfl, rfl, _, rfl, iteX (x := "last") (y := "first") (by decide +kernel) ⟨1, rfl, lw, _, _, .str w0, rfl, rfl, SqL.of hl4, by rw [hws, List.map_append]; exact atI_last _ _, _, rfl, b, _, _, .str n, rfl, rfl, .inl (.inl (g4.at hb3)), rfl, rfl, ?_⟩⟩
        have e3 : (Cnd.fact "last" n).ev L ms = (w0 == n) := by show (L.ws.getLast? == some n) = _; rw [hws, List.getLast?_concat]; rfl
        rw [e3] at fin
        show Q (.bl (decide (V.str w0 = V.str n))) _
        rw [eqS]
        exact fin
    · -- marked
      refine ⟨_, rfl, b, _, _, .str "marked", rfl, rfl, .inl (.inl hb), rfl, _, rfl, by show 2 ≤ sizeLine; decide, fun t nt => ?_⟩
      have g1 := Fr.new (E := []) (o := .tup [.str "marked", .ref lt]) tb nt
      refine ⟨t, _, rfl, .inl (.inl upd_same), rfl, _, _, rfl, _, _, rfl, lt, _, rfl, .inl (.inl (g1.at hlt)), rfl, _, _, rfl, _, _, rfl, _, _, rfl, rfl, rfl, ?_⟩
      refine ⟨_, rfl, rfl, _, rfl, iteX (x := "marked") (y := "any") (by decide +kernel) ?_⟩
      refine in_no (i := 3) (kd := "marked") (a := "not") (b := "(") rfl g1.2 (by decide +kernel) (by decide +kernel) fun H2 g2 => iteF ?_
      refine in_no (i := 3) (kd := "marked") (a := "and") (b := "or") rfl g2.2 (by decide +kernel) (by decide +kernel) fun H3 g3 => iteF ?_
      have G := (g1.trans g2).trans g3
      have hb3 := G.at hb
      have hl3 := G.at hl2
      refine ⟨_, rfl, rfl, _, rfl, iteX (x := "marked") (y := "from") (by decide +kernel) ?_⟩
      refine ⟨_, rfl, rfl, _, rfl, iteX (x := "marked") (y := "has") (by decide +kernel) ?_⟩
      refine ⟨_, rfl, rfl, _, rfl, iteX (x := "marked") (y := "first") (by decide +kernel) ?_⟩
      refine ⟨_, rfl, rfl, _, rfl, iteX (x := "marked") (y := "last") (by decide +kernel) ?_⟩
      refine ⟨_, rfl, rfl, _, rfl, iteX (x := "marked") (y := "pair") (by decide +kernel) ?_⟩
      refine ⟨_, rfl, rfl, _, rfl, iteX (x := "marked") (y := "over") (by decide +kernel) ?_⟩
      refine ⟨_, rfl, b, _, _, .str n, rfl, rfl, .inl (.inl hb3), rfl, _, rfl, Dm, _, rfl, .inl (SqL.of (G.at hm)), rfl, by rw [List.all_map]; exact List.all_eq_true.mpr fun _ _ => rfl, ?_⟩
      show Q (.bl (inV (V.str n) (ms.map V.str))) H3
      rw [inV_strs]
      exact kk H3 G
  | neg c =>
    obtain ⟨b, xs, rfl, hb, hx⟩ := tr_tup hv
    cases hx with
    | cons a1 a2 =>
      cases a2 with
      | cons a2 a3 =>
      cases a3
      rw [tr_str a1] at hb
      refine ⟨_, rfl, b, _, _, .str "not", rfl, rfl, .inl (.inl hb), rfl, _, rfl, by show 2 ≤ sizeLine; decide, fun t nt => ?_⟩
      have g1 := Fr.new (E := []) (o := .tup [.str "not", .ref lt]) tb nt
      refine ⟨t, _, rfl, .inl (.inl upd_same), rfl, _, _, rfl, _, _, rfl, lt, _, rfl, .inl (.inl (g1.at hlt)), rfl, _, _, rfl, _, _, rfl, _, _, rfl, rfl, rfl, ?_⟩
      refine ⟨_, rfl, rfl, _, rfl, iteX (x := "not") (y := "any") (by decide +kernel) ?_⟩
      refine in_yes (i := 3) (kd := "not") (a := "not") (b := "(") rfl g1.2 (.inl rfl) fun H2 g2 => iteT ?_
      have G := g1.trans g2
      refine ⟨_, rfl, b, _, _, _, rfl, rfl, .inl (.inl (G.at hb)), rfl, _, rfl, _, rfl, _, lt, Dm, c, L, ms, Ws, 0, rfl, tr_fr G a2, hL.fr G, hl, G.at hm, hw, Nat.lt_of_succ_lt_succ hh, G.2, fun H3 f3 => ⟨_, rfl, rfl, rfl, ?_⟩⟩
      have fin := kk H3 (G.trans f3)
      have e0 : decide (V.str "not" = V.str "(") = false := by decide +kernel
      show Q (.bl (decide (V.bl (c.ev L ms) = V.bl (decide (V.str "not" = V.str "("))))) H3
      rw [e0]
      have e1 : decide (V.bl (c.ev L ms) = V.bl false) = (!c.ev L ms) := by
        cases c.ev L ms <;> decide
      rw [e1]
      exact fin
  | par c =>
    obtain ⟨b, xs, rfl, hb, hx⟩ := tr_tup hv
    cases hx with
    | cons a1 a2 =>
      cases a2 with
      | cons a2 a3 =>
      cases a3
      rw [tr_str a1] at hb
      refine ⟨_, rfl, b, _, _, .str "(", rfl, rfl, .inl (.inl hb), rfl, _, rfl, by show 2 ≤ sizeLine; decide, fun t nt => ?_⟩
      have g1 := Fr.new (E := []) (o := .tup [.str "(", .ref lt]) tb nt
      refine ⟨t, _, rfl, .inl (.inl upd_same), rfl, _, _, rfl, _, _, rfl, lt, _, rfl, .inl (.inl (g1.at hlt)), rfl, _, _, rfl, _, _, rfl, _, _, rfl, rfl, rfl, ?_⟩
      refine ⟨_, rfl, rfl, _, rfl, iteX (x := "(") (y := "any") (by decide +kernel) ?_⟩
      refine in_yes (i := 3) (kd := "(") (a := "not") (b := "(") rfl g1.2 (.inr rfl) fun H2 g2 => iteT ?_
      have G := g1.trans g2
      refine ⟨_, rfl, b, _, _, _, rfl, rfl, .inl (.inl (G.at hb)), rfl, _, rfl, _, rfl, _, lt, Dm, c, L, ms, Ws, 2, rfl, tr_fr G a2, hL.fr G, hl, G.at hm, hw, Nat.lt_of_succ_lt_succ hh, G.2, fun H3 f3 => ⟨_, rfl, rfl, rfl, ?_⟩⟩
      have fin := kk H3 (G.trans f3)
      have e0 : decide (V.str "(" = V.str "(") = true := by decide +kernel
      show Q (.bl (decide (V.bl (c.ev L ms) = V.bl (decide (V.str "(" = V.str "("))))) H3
      rw [e0]
      have e1 : decide (V.bl (c.ev L ms) = V.bl true) = (c.ev L ms) := by
        cases c.ev L ms <;> decide
      rw [e1]
      exact fin
  | and2 x y =>
    obtain ⟨b, xs, rfl, hb, hx⟩ := tr_tup hv
    cases hx with
    | cons a1 a2 =>
      cases a2 with
      | cons a2 a3 =>
      cases a3
      obtain ⟨lst, ys, rfl, hls, htr⟩ := tr_lst a2
      rw [tr_str a1] at hb
      refine ⟨_, rfl, b, _, _, .str "and", rfl, rfl, .inl (.inl hb), rfl, _, rfl, by show 2 ≤ sizeLine; decide, fun t nt => ?_⟩
      have g1 := Fr.new (E := []) (o := .tup [.str "and", .ref lt]) tb nt
      refine ⟨t, _, rfl, .inl (.inl upd_same), rfl, _, _, rfl, _, _, rfl, lt, _, rfl, .inl (.inl (g1.at hlt)), rfl, _, _, rfl, _, _, rfl, _, _, rfl, rfl, rfl, ?_⟩
      refine ⟨_, rfl, rfl, _, rfl, iteX (x := "and") (y := "any") (by decide +kernel) ?_⟩
      refine in_no (i := 3) (kd := "and") (a := "not") (b := "(") rfl g1.2 (by decide +kernel) (by decide +kernel) fun H2 g2 => iteF ?_
      refine in_yes (i := 3) (kd := "and") (a := "and") (b := "or") rfl g2.2 (.inl rfl) fun H3 g3 => iteT ?_
      have G := (g1.trans g2).trans g3
      have hps : ∀ p ∈ [x, y], (∃ l, p.wf Ws l) ∧ p.hl < m := by
        intro p hp
        simp only [List.mem_cons, List.not_mem_nil, or_false] at hp
        simp only [Cnd.hl] at hh
        rcases hp with rfl | rfl
        · exact ⟨⟨_, hw.2.1⟩, by omega⟩
        · exact ⟨⟨_, hw.2.2⟩, by omega⟩
      have htr : TrAll H ys ([x, y].map Cnd.l) := htr
      have hlen : ys.length = 2 := htr.len
      refine ⟨_, rfl, b, _, _, .ref lst, rfl, rfl, .inl (.inl (G.at hb)), rfl, lst, rfl, ⟨_, SqL.of (G.at hls)⟩, fun D nD => ?_⟩
      have nD : H3 D = none := nD
      refine lc_list (xs := ys) (fun i H' => Fr K [] H3 H' ∧ H' D = some (.lst (((([x, y].take i).map fun p => p.ev L ms)).map V.bl))) ⟨Fr.new G.2 nD, upd_same⟩ (fun i H' _ ⟨f, _⟩ => SqL.of (f.at (G.at hls))) (fun i yv H' hy ⟨f, hD⟩ => ?_) (fun H4 ⟨f, hD⟩ => ?_)
      · obtain ⟨p, hp⟩ : ∃ p, [x, y][i]? = some p := by
          have : i < [x, y].length := by rw [show [x, y].length = 2 from rfl, ← hlen]; exact (List.getElem?_eq_some_iff.mp hy).1
          exact ⟨_, List.getElem?_eq_getElem this⟩
        obtain ⟨⟨l2, hl2'⟩, hh2⟩ := hps p (List.mem_of_getElem? hp)
        have ht : Tr H yv p.l := htr.at i yv p.l hy (by rw [List.getElem?_map, hp]; rfl)
        have F := G.trans f
        refine ⟨rfl, _, rfl, _, rfl, _, rfl, yv, lt, Dm, p, L, ms, Ws, l2, rfl, tr_fr F ht, hL.fr F, hl, F.at hm, hl2', hh2, F.2, fun H5 f5 => ?_⟩
        refine ⟨_, f5.at hD, ?_, (f.trans f5).upNew G.2 nD, ?_⟩
        · rw [List.length_map, List.length_map, List.length_take]
          exact Nat.lt_of_le_of_lt (Nat.min_le_right _ _) (by decide : 2 < sizeLine)
        · rw [upd_same, List.take_add_one, hp, List.map_append, List.map_append]
          rfl
      rw [hlen] at hD
      have hD : H4 D = some (.lst ([x.ev L ms, y.ev L ms].map V.bl)) := hD
      refine ⟨_, rfl, rfl, _, rfl, iteD rfl ⟨_, rfl, D, _, rfl, .inl (SqL.of hD), rfl, by rw [List.all_map]; exact List.all_eq_true.mpr fun _ _ => rfl, ?_⟩⟩
      show Q (.bl (!inV (V.bl false) ([x.ev L ms, y.ev L ms].map V.bl))) H4
      rw [inV_bl]
      have fin := kk H4 (G.trans f)
      have e1 : (!([x.ev L ms, y.ev L ms].contains false)) = (x.ev L ms && y.ev L ms) := by
        cases x.ev L ms <;> cases y.ev L ms <;> rfl
      rw [e1]
      exact fin
  | and3 x y z =>
    obtain ⟨b, xs, rfl, hb, hx⟩ := tr_tup hv
    cases hx with
    | cons a1 a2 =>
      cases a2 with
      | cons a2 a3 =>
      cases a3
      obtain ⟨lst, ys, rfl, hls, htr⟩ := tr_lst a2
      rw [tr_str a1] at hb
      refine ⟨_, rfl, b, _, _, .str "and", rfl, rfl, .inl (.inl hb), rfl, _, rfl, by show 2 ≤ sizeLine; decide, fun t nt => ?_⟩
      have g1 := Fr.new (E := []) (o := .tup [.str "and", .ref lt]) tb nt
      refine ⟨t, _, rfl, .inl (.inl upd_same), rfl, _, _, rfl, _, _, rfl, lt, _, rfl, .inl (.inl (g1.at hlt)), rfl, _, _, rfl, _, _, rfl, _, _, rfl, rfl, rfl, ?_⟩
      refine ⟨_, rfl, rfl, _, rfl, iteX (x := "and") (y := "any") (by decide +kernel) ?_⟩
      refine in_no (i := 3) (kd := "and") (a := "not") (b := "(") rfl g1.2 (by decide +kernel) (by decide +kernel) fun H2 g2 => iteF ?_
      refine in_yes (i := 3) (kd := "and") (a := "and") (b := "or") rfl g2.2 (.inl rfl) fun H3 g3 => iteT ?_
      have G := (g1.trans g2).trans g3
      have hps : ∀ p ∈ [x, y, z], (∃ l, p.wf Ws l) ∧ p.hl < m := by
        intro p hp
        simp only [List.mem_cons, List.not_mem_nil, or_false] at hp
        simp only [Cnd.hl] at hh
        rcases hp with rfl | rfl | rfl
        · exact ⟨⟨_, hw.2.1⟩, by omega⟩
        · exact ⟨⟨_, hw.2.2.1⟩, by omega⟩
        · exact ⟨⟨_, hw.2.2.2⟩, by omega⟩
      have htr : TrAll H ys ([x, y, z].map Cnd.l) := htr
      have hlen : ys.length = 3 := htr.len
      refine ⟨_, rfl, b, _, _, .ref lst, rfl, rfl, .inl (.inl (G.at hb)), rfl, lst, rfl, ⟨_, SqL.of (G.at hls)⟩, fun D nD => ?_⟩
      have nD : H3 D = none := nD
      refine lc_list (xs := ys) (fun i H' => Fr K [] H3 H' ∧ H' D = some (.lst (((([x, y, z].take i).map fun p => p.ev L ms)).map V.bl))) ⟨Fr.new G.2 nD, upd_same⟩ (fun i H' _ ⟨f, _⟩ => SqL.of (f.at (G.at hls))) (fun i yv H' hy ⟨f, hD⟩ => ?_) (fun H4 ⟨f, hD⟩ => ?_)
      · obtain ⟨p, hp⟩ : ∃ p, [x, y, z][i]? = some p := by
          have : i < [x, y, z].length := by rw [show [x, y, z].length = 3 from rfl, ← hlen]; exact (List.getElem?_eq_some_iff.mp hy).1
          exact ⟨_, List.getElem?_eq_getElem this⟩
        obtain ⟨⟨l2, hl2'⟩, hh2⟩ := hps p (List.mem_of_getElem? hp)
        have ht : Tr H yv p.l := htr.at i yv p.l hy (by rw [List.getElem?_map, hp]; rfl)
        have F := G.trans f
        refine ⟨rfl, _, rfl, _, rfl, _, rfl, yv, lt, Dm, p, L, ms, Ws, l2, rfl, tr_fr F ht, hL.fr F, hl, F.at hm, hl2', hh2, F.2, fun H5 f5 => ?_⟩
        refine ⟨_, f5.at hD, ?_, (f.trans f5).upNew G.2 nD, ?_⟩
        · rw [List.length_map, List.length_map, List.length_take]
          exact Nat.lt_of_le_of_lt (Nat.min_le_right _ _) (by decide : 3 < sizeLine)
        · rw [upd_same, List.take_add_one, hp, List.map_append, List.map_append]
          rfl
      rw [hlen] at hD
      have hD : H4 D = some (.lst ([x.ev L ms, y.ev L ms, z.ev L ms].map V.bl)) := hD
      refine ⟨_, rfl, rfl, _, rfl, iteD rfl ⟨_, rfl, D, _, rfl, .inl (SqL.of hD), rfl, by rw [List.all_map]; exact List.all_eq_true.mpr fun _ _ => rfl, ?_⟩⟩
      show Q (.bl (!inV (V.bl false) ([x.ev L ms, y.ev L ms, z.ev L ms].map V.bl))) H4
      rw [inV_bl]
      have fin := kk H4 (G.trans f)
      have e1 : (!([x.ev L ms, y.ev L ms, z.ev L ms].contains false)) = (x.ev L ms && (y.ev L ms && z.ev L ms)) := by
        cases x.ev L ms <;> cases y.ev L ms <;> cases z.ev L ms <;> rfl
      rw [e1]
      exact fin
  | or2 x y =>
    obtain ⟨b, xs, rfl, hb, hx⟩ := tr_tup hv
    cases hx with
    | cons a1 a2 =>
      cases a2 with
      | cons a2 a3 =>
      cases a3
      obtain ⟨lst, ys, rfl, hls, htr⟩ := tr_lst a2
      rw [tr_str a1] at hb
      refine ⟨_, rfl, b, _, _, .str "or", rfl, rfl, .inl (.inl hb), rfl, _, rfl, by show 2 ≤ sizeLine; decide, fun t nt => ?_⟩
      have g1 := Fr.new (E := []) (o := .tup [.str "or", .ref lt]) tb nt
      refine ⟨t, _, rfl, .inl (.inl upd_same), rfl, _, _, rfl, _, _, rfl, lt, _, rfl, .inl (.inl (g1.at hlt)), rfl, _, _, rfl, _, _, rfl, _, _, rfl, rfl, rfl, ?_⟩
      refine ⟨_, rfl, rfl, _, rfl, iteX (x := "or") (y := "any") (by decide +kernel) ?_⟩
      refine in_no (i := 3) (kd := "or") (a := "not") (b := "(") rfl g1.2 (by decide +kernel) (by decide +kernel) fun H2 g2 => iteF ?_
      refine in_yes (i := 3) (kd := "or") (a := "and") (b := "or") rfl g2.2 (.inr rfl) fun H3 g3 => iteT ?_
      have G := (g1.trans g2).trans g3
      have hps : ∀ p ∈ [x, y], (∃ l, p.wf Ws l) ∧ p.hl < m := by
        intro p hp
        simp only [List.mem_cons, List.not_mem_nil, or_false] at hp
        simp only [Cnd.hl] at hh
        rcases hp with rfl | rfl
        · exact ⟨⟨_, hw.2.1⟩, by omega⟩
        · exact ⟨⟨_, hw.2.2⟩, by omega⟩
      have htr : TrAll H ys ([x, y].map Cnd.l) := htr
      have hlen : ys.length = 2 := htr.len
      refine ⟨_, rfl, b, _, _, .ref lst, rfl, rfl, .inl (.inl (G.at hb)), rfl, lst, rfl, ⟨_, SqL.of (G.at hls)⟩, fun D nD => ?_⟩
      have nD : H3 D = none := nD
      refine lc_list (xs := ys) (fun i H' => Fr K [] H3 H' ∧ H' D = some (.lst (((([x, y].take i).map fun p => p.ev L ms)).map V.bl))) ⟨Fr.new G.2 nD, upd_same⟩ (fun i H' _ ⟨f, _⟩ => SqL.of (f.at (G.at hls))) (fun i yv H' hy ⟨f, hD⟩ => ?_) (fun H4 ⟨f, hD⟩ => ?_)
      · obtain ⟨p, hp⟩ : ∃ p, [x, y][i]? = some p := by
          have : i < [x, y].length := by rw [show [x, y].length = 2 from rfl, ← hlen]; exact (List.getElem?_eq_some_iff.mp hy).1
          exact ⟨_, List.getElem?_eq_getElem this⟩
        obtain ⟨⟨l2, hl2'⟩, hh2⟩ := hps p (List.mem_of_getElem? hp)
        have ht : Tr H yv p.l := htr.at i yv p.l hy (by rw [List.getElem?_map, hp]; rfl)
        have F := G.trans f
        refine ⟨rfl, _, rfl, _, rfl, _, rfl, yv, lt, Dm, p, L, ms, Ws, l2, rfl, tr_fr F ht, hL.fr F, hl, F.at hm, hl2', hh2, F.2, fun H5 f5 => ?_⟩
        refine ⟨_, f5.at hD, ?_, (f.trans f5).upNew G.2 nD, ?_⟩
        · rw [List.length_map, List.length_map, List.length_take]
          exact Nat.lt_of_le_of_lt (Nat.min_le_right _ _) (by decide : 2 < sizeLine)
        · rw [upd_same, List.take_add_one, hp, List.map_append, List.map_append]
          rfl
      rw [hlen] at hD
      have hD : H4 D = some (.lst ([x.ev L ms, y.ev L ms].map V.bl)) := hD
      refine ⟨_, rfl, rfl, _, rfl, iteX (x := "or") (y := "and") (by decide +kernel) ⟨_, rfl, D, _, rfl, .inl (SqL.of hD), rfl, by rw [List.all_map]; exact List.all_eq_true.mpr fun _ _ => rfl, ?_⟩⟩
      show Q (.bl (inV (V.bl true) ([x.ev L ms, y.ev L ms].map V.bl))) H4
      rw [inV_bl]
      have fin := kk H4 (G.trans f)
      have e1 : ([x.ev L ms, y.ev L ms].contains true) = (x.ev L ms || y.ev L ms) := by
        cases x.ev L ms <;> cases y.ev L ms <;> rfl
      rw [e1]
      exact fin
theorem R_lholds (T : Txt w K mg base) : ∀ m : Nat, FnR P w K mg base CX0 (m + 1) (a_law_holds K) (spLHolds m K)
  | 0 => fnr_false fun vs H Q E ⟨_, _, _, _, _, _, _, _, _, _, _, _, _, _, h, _⟩ => absurd h (Nat.not_lt_zero _)
  | m + 1 => lholds_step T (R_lholds T m)
end
end So
end

section
set_option Elab.async false
set_option linter.all false
set_option maxRecDepth 100000
set_option maxHeartbeats 4000000
namespace So
open PySem PySem.Spec PyProof.Rows L2 GxA TL
open GxR (TabB TabG Tabbed)
def mu (d : Deed) : Bool := decide (d.1 = "mark") || decide (d.1 = "unmark")
def stepL (S : WS) (d : Deed) : WS :=
  { S with ms := (S.ms.filter fun x => decide (x ≠ d.2) || !mu d) ++ (if d.1 = "mark" then [d.2] else []), fs := if d.1 = "file" ∧ d.2 ∉ S.fs then S.fs ++ [d.2] else S.fs, rs := if d.1 = "pass" ∧ d.2 ∉ S.rs then S.rs ++ [d.2] else S.rs }
def runL : List Deed → WS → WS
  | [], S => S
  | d :: ds, S => if d.1 = "stop" then { S with st := true } else runL ds (stepL S d)
def thruL (L : Ltr) : Nat → List RuleD → WS → WS
  | _, [], S => S
  | i, r :: rs, S => if S.st = true then S else if r.1.ev L S.ms = true then thruL L (i + 1) rs (runL r.2 { S with acts := S.acts ++ [i] }) else thruL L (i + 1) rs S
/-- the law's state, the program's state -/
structure Sim (S S' : WS) : Prop where
  fs : S.fs = S'.fs
  rs : S.rs = S'.rs
  acts : S.acts = S'.acts
  st : S.st = S'.st
  ms : S.ms.Perm S'.ms
  nd : S.ms.Nodup
theorem perm_contains {a b : List Str} (p : a.Perm b) (x : Str) : a.contains x = b.contains x := by
  rw [Bool.eq_iff_iff, List.contains_iff_mem, List.contains_iff_mem]
  exact p.mem_iff
theorem ev_perm (L : Ltr) {a b : List Str} (p : a.Perm b) (c : Cnd) : c.ev L a = c.ev L b := by
  induction c with
  | fact k n => show evFact L a k n = evFact L b k n; unfold evFact; rw [perm_contains p]
  | neg c ih => show (!c.ev L a) = (!c.ev L b); rw [ih]
  | par c ih => exact ih
  | and2 x y h1 h2 => show (x.ev L a && y.ev L a) = (x.ev L b && y.ev L b); rw [h1, h2]
  | and3 x y z h1 h2 h3 => show (x.ev L a && (y.ev L a && z.ev L a)) = (x.ev L b && (y.ev L b && z.ev L b)); rw [h1, h2, h3]
  | or2 x y h1 h2 => show (x.ev L a || y.ev L a) = (x.ev L b || y.ev L b); rw [h1, h2]
  | _ => rfl
theorem addN_eq (fs : List Str) (n : Str) : addN fs n = if n ∉ fs then fs ++ [n] else fs := by
  unfold addN
  by_cases h : n ∈ fs
  · rw [if_pos h, if_neg (fun z => z h)]
  · rw [if_neg h, if_pos h]
theorem addN_nd {ns : List Str} {n : Str} (h : ns.Nodup) : (addN ns n).Nodup := by
  unfold addN
  split
  · exact h
  · rename_i e; exact nd_snoc h e
theorem filter_all {xs : List Str} {p : Str → Bool} (h : ∀ x, p x = true) : xs.filter p = xs := List.filter_eq_self.mpr fun x _ => h x
theorem Sim.step {S S' : WS} (h : Sim S S') {d : Deed} (hk : d.1 ∈ kindsD) : Sim (stepD S d) (stepL S' d) := by
  obtain ⟨k, n⟩ := d
  obtain ⟨h1, h2, h3, h4, h5, h6⟩ := h
  have hk : k ∈ kindsD := hk
  simp only [kindsD, List.mem_cons, List.not_mem_nil, or_false] at hk
  have idf : ∀ (S' : WS) (k : Str), mu (k, n) = false → (S'.ms.filter fun x => decide (x ≠ n) || !mu (k, n)) = S'.ms := fun S' k e => filter_all fun x => by rw [e]; simp
  rcases hk with rfl | rfl | rfl | rfl
  · rw [step_mark]
    have e : mu (("mark" : Str), n) = true := by unfold mu; simp
    refine ⟨?_, ?_, h3, h4, ?_, addN_nd h6⟩
    · show S.fs = if ("mark" : Str) = "file" ∧ n ∉ S'.fs then S'.fs ++ [n] else S'.fs
      rw [if_neg (fun z => absurd z.1 (by decide +kernel))]; exact h1
    · show S.rs = if ("mark" : Str) = "pass" ∧ n ∉ S'.rs then S'.rs ++ [n] else S'.rs
      rw [if_neg (fun z => absurd z.1 (by decide +kernel))]; exact h2
    · show (addN S.ms n).Perm ((S'.ms.filter fun x => decide (x ≠ n) || !mu ("mark", n)) ++ (if ("mark" : Str) = "mark" then [n] else []))
      rw [if_pos rfl, e]
      have e2 : (S'.ms.filter fun x => decide (x ≠ n) || !true) = S'.ms.filter fun x => decide (x ≠ n) := List.filter_congr fun x _ => by simp
      rw [e2]
      refine (List.perm_ext_iff_of_nodup (addN_nd h6) ?_).mpr fun x => ?_
      · refine nd_snoc ((h5.nodup_iff.mp h6).sublist List.filter_sublist) fun m => ?_
        exact absurd rfl (of_decide_eq_true (List.mem_filter.mp m).2)
      · unfold addN
        by_cases hn : n ∈ S.ms
        · rw [if_pos hn, List.mem_append, List.mem_filter, List.mem_singleton, h5.mem_iff, decide_eq_true_iff]
          by_cases hx : x = n
          · subst hx
            exact ⟨fun _ => .inr rfl, fun _ => h5.mem_iff.mp hn⟩
          · exact ⟨fun m => .inl ⟨m, hx⟩, fun m => m.elim (fun z => z.1) fun z => absurd z hx⟩
        · rw [if_neg hn, List.mem_append, List.mem_append, List.mem_filter, List.mem_singleton, h5.mem_iff, decide_eq_true_iff]
          by_cases hx : x = n
          · subst hx
            exact ⟨fun _ => .inr rfl, fun _ => .inr rfl⟩
          · exact ⟨fun m => m.elim (fun z => .inl ⟨z, hx⟩) .inr, fun m => m.elim (fun z => .inl z.1) .inr⟩
  · rw [step_unmark]
    have e : mu (("unmark" : Str), n) = true := by unfold mu; simp
    refine ⟨?_, ?_, h3, h4, ?_, h6.sublist List.filter_sublist⟩
    · show S.fs = if ("unmark" : Str) = "file" ∧ n ∉ S'.fs then S'.fs ++ [n] else S'.fs
      rw [if_neg (fun z => absurd z.1 (by decide +kernel))]; exact h1
    · show S.rs = if ("unmark" : Str) = "pass" ∧ n ∉ S'.rs then S'.rs ++ [n] else S'.rs
      rw [if_neg (fun z => absurd z.1 (by decide +kernel))]; exact h2
    · show (S.ms.filter fun x => decide (x ≠ n)).Perm ((S'.ms.filter fun x => decide (x ≠ n) || !mu ("unmark", n)) ++ (if ("unmark" : Str) = "mark" then [n] else []))
      rw [if_neg (by decide +kernel : ¬ (("unmark" : Str) = "mark")), e, List.append_nil]
      have e2 : (S'.ms.filter fun x => decide (x ≠ n) || !true) = S'.ms.filter fun x => decide (x ≠ n) := List.filter_congr fun x _ => by simp
      rw [e2]
      exact h5.filter _
  · rw [step_file]
    have e : mu (("file" : Str), n) = false := by
      show (decide (("file" : Str) = "mark") || decide (("file" : Str) = "unmark")) = false
      decide +kernel
    refine ⟨?_, ?_, h3, h4, ?_, h6⟩
    · show addN S.fs n = if ("file" : Str) = "file" ∧ n ∉ S'.fs then S'.fs ++ [n] else S'.fs
      rw [addN_eq, h1]
      by_cases z : n ∈ S'.fs <;> simp [z]
    · show S.rs = if ("file" : Str) = "pass" ∧ n ∉ S'.rs then S'.rs ++ [n] else S'.rs
      rw [if_neg (fun z => absurd z.1 (by decide +kernel))]; exact h2
    · show S.ms.Perm ((S'.ms.filter fun x => decide (x ≠ n) || !mu ("file", n)) ++ (if ("file" : Str) = "mark" then [n] else []))
      rw [if_neg (by decide +kernel : ¬ (("file" : Str) = "mark")), List.append_nil, idf S' "file" e]
      exact h5
  · rw [step_pass]
    have e : mu (("pass" : Str), n) = false := by
      show (decide (("pass" : Str) = "mark") || decide (("pass" : Str) = "unmark")) = false
      decide +kernel
    refine ⟨?_, ?_, h3, h4, ?_, h6⟩
    · show S.fs = if ("pass" : Str) = "file" ∧ n ∉ S'.fs then S'.fs ++ [n] else S'.fs
      rw [if_neg (fun z => absurd z.1 (by decide +kernel))]; exact h1
    · show addN S.rs n = if ("pass" : Str) = "pass" ∧ n ∉ S'.rs then S'.rs ++ [n] else S'.rs
      rw [addN_eq, h2]
      by_cases z : n ∈ S'.rs <;> simp [z]
    · show S.ms.Perm ((S'.ms.filter fun x => decide (x ≠ n) || !mu ("pass", n)) ++ (if ("pass" : Str) = "mark" then [n] else []))
      rw [if_neg (by decide +kernel : ¬ (("pass" : Str) = "mark")), List.append_nil, idf S' "pass" e]
      exact h5
theorem Sim.run : ∀ {ds : List Deed} {S S' : WS}, Sim S S' → (∀ d ∈ ds, dWf d) → Sim (runD ds S) (runL ds S')
  | [], S, S', h, _ => h
  | d :: ds, S, S', h, hd => by
    show Sim (if d.1 = "stop" then _ else _) (if d.1 = "stop" then _ else _)
    by_cases e : d.1 = "stop"
    · rw [if_pos e, if_pos e]
      exact ⟨h.fs, h.rs, h.acts, rfl, h.ms, h.nd⟩
    · rw [if_neg e, if_neg e]
      refine Sim.run (h.step ?_) fun x m => hd x (List.mem_cons_of_mem _ m)
      rcases hd d List.mem_cons_self with z | z
      · rw [z] at e; exact absurd rfl e
      · exact z.1
theorem Sim.thru {L : Ltr} {W : List Str} : ∀ {rs : List RuleD} {S S' : WS} {i : Nat}, Sim S S' → (∀ r ∈ rs, RWf W r) → Sim (thru L i rs S) (thruL L i rs S')
  | [], S, S', i, h, _ => h
  | r :: rs, S, S', i, h, hr => by
    show Sim (if S.st = true then S else if r.1.ev L S.ms = true then _ else _) (if S'.st = true then S' else if r.1.ev L S'.ms = true then _ else _)
    rw [h.st, ev_perm L h.ms]
    split
    · exact h
    split
    · exact Sim.thru (Sim.run ⟨h.fs, h.rs, by show S.acts ++ [i] = S'.acts ++ [i]; rw [h.acts], rfl, h.ms, h.nd⟩ (hr r List.mem_cons_self).2.2.2.2.2.1) fun x m => hr x (List.mem_cons_of_mem _ m)
    · exact Sim.thru h fun x m => hr x (List.mem_cons_of_mem _ m)
theorem sim0 : Sim S0 S0 := ⟨rfl, rfl, rfl, rfl, List.Perm.refl _, List.nodup_nil⟩
end So
end

section
set_option Elab.async false
set_option linter.all false
set_option maxRecDepth 100000
set_option maxHeartbeats 4000000
namespace So
open PySem PySem.Spec PyProof.Rows L2 GxA TL
open GxR (TabB TabG Tabbed)
theorem tr_two {H : Hp} {xs : List V} {d1 d2 : PyData} (h : TrAll H xs [d1, d2]) : ∃ u v, xs = [u, v] ∧ Tr H u d1 ∧ Tr H v d2 := by
  cases h with
  | cons a b =>
    cases b with
    | cons b c =>
      cases c
      exact ⟨_, _, rfl, a, b⟩
theorem thruL_st {L : Ltr} {i : Nat} {rs : List RuleD} {S : WS} (h : S.st = true) : thruL L i rs S = S := by
  cases rs with
  | nil => rfl
  | cons r rs => show (if S.st = true then S else _) = S; rw [if_pos h]
theorem inV_two (k a b : Str) : inV (.str k) [.str a, .str b] = (decide (k = a) || decide (k = b)) := by
  show ((a == k) || ((b == k) || false)) = _
  rw [Bool.or_false]
  congr 1 <;> (rw [Bool.eq_iff_iff, beq_iff_eq, decide_eq_true_iff]; exact eq_comm)
section
variable {P : Program} {w : World} {K : PySem.W.Frag} {mg : Str → Option Value} {base : Heap}
/-- the law's state in the heap -/
structure SA (H : Hp) (H' : Hp) (Df Dm Dp Ds : Addr) (S : WS) : Prop where
  f : H' Df = some (.lst (S.fs.map V.str))
  m : H' Dm = some (.lst (S.ms.map V.str))
  p : H' Dp = some (.lst (S.rs.map V.str))
  s : H' Ds = some (.lst (S.acts.map fun (n : Nat) => V.int (n : Int)))
  nf : H Df = none
  nm : H Dm = none
  np : H Dp = none
  ns : H Ds = none
  ef : Df ≠ Ds
  em : Dm ≠ Ds
  ep : Dp ≠ Ds
theorem SA.fr {H H1 H2 : Hp} {Df Dm Dp Ds : Addr} {S : WS} (h : SA H H1 Df Dm Dp Ds S) (f : Fr K [] H1 H2) : SA H H2 Df Dm Dp Ds S := ⟨f.at h.f, f.at h.m, f.at h.p, f.at h.s, h.nf, h.nm, h.np, h.ns, h.ef, h.em, h.ep⟩
/-- how many -/
structure SL (S : WS) (n : Nat) : Prop where
  f : S.fs.length ≤ n
  m : S.ms.length ≤ n
  p : S.rs.length ≤ n
  s : S.acts.length ≤ n
  nm : SNm S
theorem SL.step {S : WS} {n : Nat} (h : SL S n) {d : Deed} (hd : Nm d.2) : SL (stepL S d) (n + 1) := by
  obtain ⟨h1, h2, h3, h4, ⟨q1, q2, q3⟩⟩ := h
  refine ⟨?_, ?_, ?_, by show S.acts.length ≤ n + 1; omega, ⟨?_, ?_, ?_⟩⟩
  · show (if d.1 = "file" ∧ d.2 ∉ S.fs then S.fs ++ [d.2] else S.fs).length ≤ n + 1
    split
    · rw [List.length_append]; simp; omega
    · omega
  · show ((S.ms.filter fun x => decide (x ≠ d.2) || !mu d) ++ (if d.1 = "mark" then [d.2] else [])).length ≤ n + 1
    have := List.length_filter_le (fun x => decide (x ≠ d.2) || !mu d) S.ms
    rw [List.length_append]
    split
    · rw [List.length_singleton]; omega
    · rw [List.length_nil]; omega
  · show (if d.1 = "pass" ∧ d.2 ∉ S.rs then S.rs ++ [d.2] else S.rs).length ≤ n + 1
    split
    · rw [List.length_append]; simp; omega
    · omega
  · intro x m
    rcases List.mem_append.mp (show x ∈ (S.ms.filter fun x => decide (x ≠ d.2) || !mu d) ++ (if d.1 = "mark" then [d.2] else []) from m) with m | m
    · exact q1 x (List.mem_filter.mp m).1
    · split at m
      · rw [List.mem_singleton.mp m]; exact hd
      · cases m
  · intro x m
    have m : x ∈ (if d.1 = "file" ∧ d.2 ∉ S.fs then S.fs ++ [d.2] else S.fs) := m
    split at m
    · rcases List.mem_append.mp m with m | m
      · exact q2 x m
      · rw [List.mem_singleton.mp m]; exact hd
    · exact q2 x m
  · intro x m
    have m : x ∈ (if d.1 = "pass" ∧ d.2 ∉ S.rs then S.rs ++ [d.2] else S.rs) := m
    split at m
    · rcases List.mem_append.mp m with m | m
      · exact q3 x m
      · rw [List.mem_singleton.mp m]; exact hd
    · exact q3 x m
theorem SL.mono {S : WS} {n m : Nat} (h : SL S n) (e : n ≤ m) : SL S m := ⟨Nat.le_trans h.f e, Nat.le_trans h.m e, Nat.le_trans h.p e, Nat.le_trans h.s e, h.nm⟩
def spLSort (K : PySem.W.Frag) : Sp := fun vs H Q _ => ∃ (v : V) (lt : Addr) (rs : List RuleD) (L : Ltr) (W : List Str), vs = [v, .ref lt] ∧ Tr H v (.list (rs.map ruleL)) ∧ LtAt H lt L ∧ LWf L ∧ (∀ r ∈ rs, RWf W r) ∧ rs.length ≤ 10 ∧ Tb K H ∧
  ∀ (H' : Hp) (t u sd : V) (ms : List Str), Fr K [] H H' → ms.Perm (thruL L 0 rs S0).ms → ms.Pairwise SkX.NLe → (∃ a, t = .ref a ∧ H' a = some (.tup [u, sd]) ∧ H a = none) → ND K H [] H' u (.tuple [.list ((thruL L 0 rs S0).fs.map PyData.str), .list (ms.map PyData.str), .list ((thruL L 0 rs S0).rs.map PyData.str)]) →
    ND K H [] H' sd (.list ((thruL L 0 rs S0).acts.map fun (n : Nat) => PyData.int (n : Int))) → SNm (thruL L 0 rs S0) → Q t H'
abbrev tLRet (K : PySem.W.Frag) : TS := tRet (tTup (tCons (tTup (tCons (tVar 2) (tCons (tCKw (SkX.rSortN K (a_law_rank K)) (tCons (tVar 3) tNil) (tCons (tC (.ref (a_law_rank K))) tNil)) (tCons (tVar 4) tNil)))) (tCons (tVar 5) tNil)))
theorem lret {H H' : Hp} {D : Ends} {v : V} {lt Df Dm Dp Ds : Addr} {S : WS} {y6 y7 y8 y9 y10 : Option V} (tb : Tb K H) (f : Fr K [] H H') (h : SA H H' Df Dm Dp Ds S) (l : SL S 500)
    (k : ∀ (H2 : Hp) (t u sd : V) (ms : List Str), Fr K [] H H2 → ms.Perm S.ms → ms.Pairwise SkX.NLe → (∃ a, t = .ref a ∧ H2 a = some (.tup [u, sd]) ∧ H a = none) → ND K H [] H2 u (.tuple [.list (S.fs.map PyData.str), .list (ms.map PyData.str), .list (S.rs.map PyData.str)]) →
      ND K H [] H2 sd (.list (S.acts.map fun (n : Nat) => PyData.int (n : Int))) → D.rt t H2) : tLRet K D [some v, some (.ref lt), some (.ref Df), some (.ref Dm), some (.ref Dp), some (.ref Ds), y6, y7, y8, y9, y10] H' := by
  refine ⟨_, rfl, _, rfl, Dm, S.ms, rfl, rfl, SqL.of h.m, Nat.le_trans l.m (by decide), fun x m => Nat.le_trans (l.nm.ms x m).2.1 (by decide), fun H1 a ms sm na pm so => ?_⟩
  have f1 := Fr.same (E := []) f.2 sm
  have f2 := f1.trans (Fr.new (E := []) (o := .lst (ms.map V.str)) f1.2 na)
  refine ⟨_, rfl, by show 3 ≤ sizeLine; decide, fun t1 n1 => ?_⟩
  have f3 := f2.trans (Fr.new (E := []) (o := .tup [.ref Df, .ref a, .ref Dp]) f2.2 n1)
  have g3 := Fr.new (E := []) (o := .tup [.ref Df, .ref a, .ref Dp]) f2.2 n1
  refine ⟨_, rfl, by show 2 ≤ sizeLine; decide, fun t2 n2 => ?_⟩
  have g4 := Fr.new (E := []) (o := .tup [.ref t1, .ref Ds]) f3.2 n2
  have f4 := f3.trans g4
  have F := f.trans f4
  refine k _ _ (.ref t1) (.ref Ds) ms F pm so ⟨t2, rfl, upd_same, (f.trans f3).3 _ n2⟩ ?_ ?_
  · exact ND.tup (.cons (ND.lst strs_trAll (f4.at h.f) h.nf (by simp)) (.cons (ND.lst strs_trAll ((g3.trans g4).at upd_same) ((f.trans f1).3 _ na) (by simp)) (.cons (ND.lst strs_trAll (f4.at h.p) h.np (by simp)) .nil))) (g4.at upd_same) ((f.trans f2).3 _ n1) (by simp)
  · exact ND.lst ints_tr (f4.at h.s) h.ns (by simp)
theorem cond_app {D : Ends} {σ : L2.St} {H' : Hp} {i : Nat} {A db : Addr} {xs : List Str} {d : Deed} {wd : Str} (h9 : σ[9]? = some (some (.ref db))) (hi : σ[i]? = some (some (.ref A))) (hs : σ.set i (some (.ref A)) = σ) (hdb : H' db = some (.tup [.str d.1, .str d.2])) (hA : H' A = some (.lst (xs.map V.str))) (hl : xs.length ≤ 900) (tb : Tb K H')
    (k : ∀ (A' : Addr) (H2 : Hp), Fr K [] H' H2 → H2 A' = some (.lst ((if d.1 = wd ∧ d.2 ∉ xs then xs ++ [d.2] else xs).map V.str)) → (A' = A ∨ H' A' = none) → D.nx (σ.set i (some (.ref A'))) H2) :
    tIfS (tAnd (tTest (tOp rEq (tOp (rIxT K) (tVar 9) (tC (.int 0))) (tC (.str wd)))) (tTest (tOp (rIn K true) (tOp (rIxT K) (tVar 9) (tC (.int 1))) (tVar i)))) (tAsg (tOp rCat (tVar i) (tLst (tCons (tOp (rIxT K) (tVar 9) (tC (.int 1))) tNil))) (gName i)) tNext D σ H' := by
  have no : ¬ (d.1 = wd ∧ d.2 ∉ xs) → D.nx σ H' := fun e => by
    have := k A H' (Fr.refl tb) (by rw [if_neg e]; exact hA) (.inl rfl)
    rw [hs] at this
    exact this
  refine ⟨_, h9, db, _, _, .str d.1, rfl, rfl, .inl (.inl hdb), rfl, rfl, _, rfl, ?_⟩
  by_cases h1 : d.1 = wd
  · refine iteD (by rw [h1]) ?_
    refine ⟨_, h9, db, _, _, .str d.2, rfl, rfl, .inl (.inl hdb), rfl, _, hi, A, _, rfl, .inl (SqL.of hA), rfl, by rw [List.all_map]; exact List.all_eq_true.mpr fun _ _ => rfl, _, rfl, ?_⟩
    show (if (!inV (V.str d.2) (xs.map V.str)) = true then _ else _)
    rw [inV_strs]
    by_cases h2 : d.2 ∈ xs
    · rw [List.contains_iff_mem.mpr h2]
      exact iteF (no fun z => z.2 h2)
    · have e : xs.contains d.2 = false := by
        rw [Bool.eq_false_iff]
        exact fun z => h2 (List.contains_iff_mem.mp z)
      rw [e]
      refine iteT ⟨_, hi, _, h9, db, _, _, .str d.2, rfl, rfl, .inl (.inl hdb), rfl, by show 1 ≤ sizeLine; decide, fun q nq => ?_⟩
      have g1 := Fr.new (E := []) (o := .lst [.str d.2]) tb nq
      refine ⟨A, q, _, _, rfl, rfl, g1.at hA, upd_same, by rw [List.length_map]; exact Nat.le_trans (by show xs.length + 1 ≤ 1000; omega) (by decide), fun r nr => ?_⟩
      exact k r _ (g1.trans (Fr.new g1.2 nr)) (by rw [upd_same, if_pos ⟨h1, h2⟩, List.map_append]; rfl) (.inr (g1.3 _ nr))
  · exact iteN (fun z => h1 (by injection z)) (iteF (no fun z => h1 z.1))
theorem R_lsort (T : Txt w K mg base) : FnR P w K mg base CX0 16 (a_law_sort K) (spLSort K) := by
  refine mkR T.f_law_sort sc_law_sort bd_law_sort ?_ ?_
  · rintro vs H Q E ⟨v, lt, rs, L, W, rfl, _⟩; rfl
  rintro cdv A outer s H vs Q E hr ⟨v, lt, rs, L, W, rfl, hv, hL, hl, hw, hrl, tb, kk⟩
  have nd := sc_law_sort.nd
  obtain ⟨_, F1⟩ := T.f_law_holds
  obtain ⟨fdK, GK, bK, kpK⟩ := R_rank (P := P) T
  refine ⟨_, PSs.nox <| pss_cons (ps_asg (pe_tup (pa_cons (pe_lst pa_nil) (pa_cons (pe_lst pa_nil) (pa_cons (pe_lst pa_nil) (pa_cons (pe_lst pa_nil) pa_nil))))) (pg_tup (by rfl) (pgs_cons (pg_name (i := 2) nd rfl (.inl rfl)) (pgs_cons (pg_name (i := 3) nd rfl (.inl rfl)) (pgs_cons (pg_name (i := 4) nd rfl (.inl rfl)) (pgs_cons (pg_name (i := 5) nd rfl (.inl rfl)) pgs_nil))))))
    (pss_cons (ps_for PassesOwn.never rfl (pi_enum (by rfl) T.z_enumerate (pa_cons (pv 0) pa_nil)) (pg_tup rfl (pgs_cons (pg_name (i := 6) nd rfl (.inl rfl)) (pgs_cons (pg_tup rfl (pgs_cons (pg_name (i := 7) nd rfl (.inl rfl)) (pgs_cons (pg_name (i := 8) nd rfl (.inl rfl)) pgs_nil))) pgs_nil)))
      (pss_one (ps_if (pt_val (pe_cF (R_lholds T 12) (hr.mono (by decide)) (by rfl) T.g_law_holds F1.kp (pa_cons (pv 7) (pa_cons (pv 1) (pa_cons (pv 3) pa_nil)))))
        (pss_cons (ps_expr (pe_bm PySem.F.plainAttrs_list PySem.F.slot_list_append PySem.F.type_list_append mt_append (pv 5) (pa_cons (pv 6) pa_nil)))
        (pss_one (ps_for PassesOwn.never rfl (pi_list (pv 8)) (pg_name (i := 9) nd rfl (.inr rfl))
          (pss_cons (ps_if (pt_cmpR op_eq (pe_ix ix_tup (pv 9) pe_int (fun _ _ => rfl)) pe_str (nomark _))
            (pss_one (ps_ret (pe_tup (pa_cons (pe_tup (pa_cons (pv 2) (pa_cons (pe_callBK (SkX.cr_sortedNames GK bK (hr.mono (by decide) : Room (1 + 2) _)) (by rfl) T.z_sorted (by decide +kernel) (pa_cons (pv 3) pa_nil) (pk_cons (pe_glob (by rfl) T.g_law_rank (v := .ref (a_law_rank K)) rfl) pk_nil)) (pa_cons (pv 4) pa_nil)))) (pa_cons (pv 5) pa_nil))))) pss_nil)
          (pss_cons (ps_setLc (i := 3) (own := [("_law_mark", 10)]) (g := gName 10) (tt := tOr (tTest (tOp rNe (tVar 10) (tOp (rIxT K) (tVar 9) (tUn (rU fun i => .int (-i)) (tC (.int 1)))))) (tTest (tOp (rIn K true) (tOp (rIxT K) (tVar 9) (tC (.int 0))) (tDisp "mark" "unmark")))) rfl nd rfl rfl (sw_true rfl rfl rfl (by decide +kernel))
              (pi_list (pv 3)) (blkOk_by (own := [("_law_mark", 10)]) (N := N_law_sort) (sc := defScope s_law_sort) (by decide +kernel)) (fun _ _ _ _ _ => pg_name (i := 10) nd rfl (Or.inl rfl))
              (fun _ _ _ _ _ => pts_one (PW.pt (pw_or (pt_cmpR op_ne (pv 10) (pe_ix ix_tup (pv 9) (pe_un un_neg pe_int) (fun _ _ => rfl)) (nomark _)) (pw_or1 (pt_cmpR op_notIn_seq (pe_ix ix_tup (pv 9) pe_int (fun _ _ => rfl)) (pe_tup (pa_cons pe_str (pa_cons pe_str pa_nil))) (by rfl)))))) (fun _ _ _ _ _ => pv 10))
          (pss_cons (ps_set (i := 3) nd rfl (.inl rfl) (pe_op op_cat (pv 3) (pe_ifExp (pt_cmpR op_eq (pe_ix ix_tup (pv 9) pe_int (fun _ _ => rfl)) pe_str (nomark _)) (pe_lst (pa_cons (pe_ix ix_tup (pv 9) pe_int (fun _ _ => rfl)) pa_nil)) (pe_lst pa_nil))))
          (pss_cons (ps_if (PW.pt (pw_and (pt_cmpR op_eq (pe_ix ix_tup (pv 9) pe_int (fun _ _ => rfl)) pe_str (nomark _)) (pw_and1 (pt_cmpR op_notIn_seq (pe_ix ix_tup (pv 9) pe_int (fun _ _ => rfl)) (pv 2) (by rfl)))))
            (pss_one (ps_set (i := 2) nd rfl (.inl rfl) (pe_op op_cat (pv 2) (pe_lst (pa_cons (pe_ix ix_tup (pv 9) pe_int (fun _ _ => rfl)) pa_nil))))) pss_nil)
          (pss_one (ps_if (PW.pt (pw_and (pt_cmpR op_eq (pe_ix ix_tup (pv 9) pe_int (fun _ _ => rfl)) pe_str (nomark _)) (pw_and1 (pt_cmpR op_notIn_seq (pe_ix ix_tup (pv 9) pe_int (fun _ _ => rfl)) (pv 4) (by rfl)))))
            (pss_one (ps_set (i := 4) nd rfl (.inl rfl) (pe_op op_cat (pv 4) (pe_lst (pa_cons (pe_ix ix_tup (pv 9) pe_int (fun _ _ => rfl)) pa_nil))))) pss_nil)))))))))
        pss_nil)))
    (pss_one (ps_ret (pe_tup (pa_cons (pe_tup (pa_cons (pv 2) (pa_cons (pe_callBK (SkX.cr_sortedNames GK bK (hr.mono (by decide) : Room (1 + 2) _)) (by rfl) T.z_sorted (by decide +kernel) (pa_cons (pv 3) pa_nil) (pk_cons (pe_glob (by rfl) T.g_law_rank (v := .ref (a_law_rank K)) rfl) pk_nil)) (pa_cons (pv 4) pa_nil)))) (pa_cons (pv 5) pa_nil)))))), ?_⟩
  obtain ⟨lst, ys, rfl, hls, htr⟩ := tr_lst hv
  have hlen : ys.length = rs.length := by rw [htr.len, List.length_map]
  have z0 : 0 ≤ sizeLine := Nat.zero_le _
  refine ⟨z0, fun Df n1 => ⟨z0, fun Dm n2 => ⟨z0, fun Dp n3 => ⟨z0, fun Ds n4 => ⟨by show 4 ≤ sizeLine; decide, fun t nt => ?_⟩⟩⟩⟩⟩
  have g1 := Fr.new (E := []) (o := .lst []) tb n1
  have g2 := Fr.new (E := []) (o := .lst []) g1.2 n2
  have g3 := Fr.new (E := []) (o := .lst []) g2.2 n3
  have g4 := Fr.new (E := []) (o := .lst []) g3.2 n4
  have g5 := Fr.new (E := []) (o := .tup [.ref Df, .ref Dm, .ref Dp, .ref Ds]) g4.2 nt
  have F5 := (((g1.trans g2).trans g3).trans g4).trans g5
  have sa0 : SA H _ Df Dm Dp Ds S0 := ⟨(((g2.trans g3).trans g4).trans g5).at upd_same, ((g3.trans g4).trans g5).at upd_same, (g4.trans g5).at upd_same, g5.at upd_same, n1, g1.3 _ n2, (g1.trans g2).3 _ n3, ((g1.trans g2).trans g3).3 _ n4,
    ne_of_none ((g2.trans g3).at upd_same) n4, ne_of_none (g3.at upd_same) n4, ne_of_none upd_same n4⟩
  refine ⟨t, _, rfl, .inl (.inl upd_same), rfl, _, _, rfl, _, _, rfl, _, _, rfl, _, _, rfl, rfl, ?_⟩
  refine ⟨_, rfl, lst, _, rfl, SqL.of (F5.at hls), ?_⟩
  refine for_enum (xs := ys) (fun j σ H' => ∃ (y6 y7 y8 y9 y10 : Option V) (Df Dm Dp : Addr) (S : WS), σ = [some (V.ref lst), some (.ref lt), some (.ref Df), some (.ref Dm), some (.ref Dp), some (.ref Ds), y6, y7, y8, y9, y10] ∧ Fr K [] H H' ∧ SA H H' Df Dm Dp Ds S ∧ thruL L 0 rs S0 = thruL L j (rs.drop j) S ∧ S.st = false ∧ SL S (6 * j))
    ⟨_, _, _, _, _, Df, Dm, Dp, S0, rfl, F5, sa0, rfl, rfl, ⟨Nat.le_refl _, Nat.le_refl _, Nat.le_refl _, Nat.le_refl _, S0_nm⟩⟩ (fun j σ H' _ ⟨_, _, _, _, _, _, _, _, _, _, f, _⟩ => SqL.of (f.at hls)) (fun j y Tp σ H' hy ⟨y6, y7, y8, y9, y10, Df, Dm, Dp, S, es, f, sa, hth, hst, hsl⟩ nT => ?_) (fun σ H' ⟨y6, y7, y8, y9, y10, Df, Dm, Dp, S, es, f, sa, hth, hst, hsl⟩ => ?_)
  · subst es
    obtain ⟨r, hrj⟩ : ∃ r, rs[j]? = some r := by
      have : j < rs.length := by rw [← hlen]; exact (List.getElem?_eq_some_iff.mp hy).1
      exact ⟨_, List.getElem?_eq_getElem this⟩
    have hj : j < rs.length := (List.getElem?_eq_some_iff.mp hrj).1
    have hdr : rs.drop j = r :: rs.drop (j + 1) := by
      rw [List.drop_eq_getElem_cons hj]
      rw [List.getElem?_eq_getElem hj] at hrj
      rw [Option.some.inj hrj]
    have hth2 : thruL L 0 rs S0 = if r.1.ev L S.ms = true then thruL L (j + 1) (rs.drop (j + 1)) (runL r.2 { S with acts := S.acts ++ [j] }) else thruL L (j + 1) (rs.drop (j + 1)) S := by
      rw [hth, hdr]
      show (if S.st = true then S else _) = _
      rw [if_neg (by rw [hst]; exact Bool.false_ne_true)]
    have ht : Tr H y (ruleL r) := htr.at j y (ruleL r) hy (by rw [List.getElem?_map, hrj]; rfl)
    obtain ⟨w1, w2, w3, w4, w5, w6, w7, w8⟩ := hw r (List.mem_of_getElem? hrj)
    obtain ⟨rb, xs, rfl, hrb, hx⟩ := tr_tup ht
    obtain ⟨cv, dv, rfl, a1, a2⟩ := tr_two hx
    obtain ⟨dlst, dys, rfl, hdls, hdtr⟩ := tr_lst a2
    have h1 : Fr K [] H' (L2.upd H' Tp (.tup [.int (j : Nat), .ref rb])) := Fr.new f.2 nT
    have G1 := f.trans h1
    refine ⟨Tp, _, rfl, .inl (.inl upd_same), rfl, _, _, rfl, _, _, rfl, rb, _, rfl, .inl (.inl (G1.at hrb)), rfl, _, _, rfl, _, _, rfl, rfl, rfl, ?_⟩
    have hhl := hl_le r.1
    refine ⟨_, rfl, _, rfl, _, rfl, cv, lt, Dm, r.1, L, S.ms, W, 2, rfl, tr_fr G1 a1, hL.fr G1, hl, h1.at sa.m, w1, by omega, G1.2, fun H2 f2 => ⟨_, rfl, ?_⟩⟩
    have G2 := G1.trans f2
    have sa2 := sa.fr (h1.trans f2)
    by_cases ev : r.1.ev L S.ms = true
    · rw [if_pos ev] at hth2
      refine iteB ev ?_
      have hs2 := hsl.s
      refine ⟨_, rfl, .inl ⟨rfl, _, SqL.of sa2.s⟩, _, rfl, Ds, _, .int j, rfl, rfl, sa2.s, by rw [List.length_map]; exact Nat.lt_of_le_of_lt (by omega : _ ≤ 1000) (by decide), ?_⟩
      have G3 : Fr K [] H (L2.upd H2 Ds (.lst ((S.acts.map fun (n : Nat) => V.int (n : Int)) ++ [.int j]))) := G2.upNew tb sa2.ns
      have sa3 : SA H (L2.upd H2 Ds (.lst ((S.acts.map fun (n : Nat) => V.int (n : Int)) ++ [.int j]))) Df Dm Dp Ds { S with acts := S.acts ++ [j] } :=
        ⟨by rw [upd_ne sa2.ef]; exact sa2.f, by rw [upd_ne sa2.em]; exact sa2.m, by rw [upd_ne sa2.ep]; exact sa2.p, by rw [upd_same, List.map_append]; rfl, sa2.nf, sa2.nm, sa2.np, sa2.ns, sa2.ef, sa2.em, sa2.ep⟩
      have sl3 : SL { S with acts := S.acts ++ [j] } (6 * j + 1) := ⟨Nat.le_trans hsl.f (by omega), Nat.le_trans hsl.m (by omega), Nat.le_trans hsl.p (by omega), by show (S.acts ++ [j]).length ≤ _; rw [List.length_append, List.length_singleton]; omega, ⟨hsl.nm.ms, hsl.nm.fs, hsl.nm.rs⟩⟩
      have dlen : dys.length = r.2.length := by rw [hdtr.len, List.length_map]
      refine ⟨_, rfl, dlst, rfl, ⟨_, SqL.of (G3.at hdls)⟩, ?_⟩
      refine for_list (xs := dys) (fun k σ H' => ∃ (y9 y10 : Option V) (Df Dm Dp : Addr) (Sc : WS), σ = [some (V.ref lst), some (.ref lt), some (.ref Df), some (.ref Dm), some (.ref Dp), some (.ref Ds), some (.int (j : Nat)), some cv, some (.ref dlst), y9, y10] ∧ Fr K [] H H' ∧ SA H H' Df Dm Dp Ds Sc ∧ runL r.2 { S with acts := S.acts ++ [j] } = runL (r.2.drop k) Sc ∧ Sc.st = false ∧ SL Sc (6 * j + 1 + k))
        ⟨_, _, Df, Dm, Dp, _, rfl, G3, sa3, rfl, hst, sl3⟩ (fun k σ H' _ ⟨_, _, _, _, _, _, _, f, _⟩ => SqL.of (f.at hdls)) (fun k yd σ H' hyd ⟨y9, y10, Df, Dm, Dp, Sc, es, f, sa, hrun, hst2, hsl2⟩ => ?_) (fun σ H' ⟨y9, y10, Df, Dm, Dp, Sc, es, f, sa, hrun, hst2, hsl2⟩ => ?_)
      · subst es
        obtain ⟨d, hdk⟩ : ∃ d, r.2[k]? = some d := by
          have : k < r.2.length := by rw [← dlen]; exact (List.getElem?_eq_some_iff.mp hyd).1
          exact ⟨_, List.getElem?_eq_getElem this⟩
        have hk : k < r.2.length := (List.getElem?_eq_some_iff.mp hdk).1
        have hdd : r.2.drop k = d :: r.2.drop (k + 1) := by
          rw [List.drop_eq_getElem_cons hk]
          rw [List.getElem?_eq_getElem hk] at hdk
          rw [Option.some.inj hdk]
        have htd : Tr H yd (dL d) := hdtr.at k yd (dL d) hyd (by rw [List.getElem?_map, hdk]; rfl)
        obtain ⟨db, rfl, hdb⟩ := dL_tup htd
        have hdw := w6 d (List.mem_of_getElem? hdk)
        have hrun2 : runL r.2 { S with acts := S.acts ++ [j] } = if d.1 = "stop" then { Sc with st := true } else runL (r.2.drop (k + 1)) (stepL Sc d) := by
          rw [hrun, hdd]; rfl
        by_cases hs : d.1 = "stop"
        · have et : dTold d = [("stop" : Str)] := by unfold dTold; exact if_pos hs
          rw [et] at hdb
          rw [if_pos hs] at hrun2
          refine ⟨_, rfl, db, _, _, .str "stop", rfl, rfl, .inl (.inl (f.at hdb)), rfl, rfl, _, rfl, iteD rfl ?_⟩
          have eS : thruL L 0 rs S0 = { Sc with st := true } := by rw [hth2, hrun2]; exact thruL_st rfl
          refine lret tb f sa (hsl2.mono (by omega)) fun H9 t u sd ms F9 pm so ht9 n9 m9 => ?_
          refine kk H9 t u sd ms F9 (by rw [eS]; exact pm) so ht9 (by rw [eS]; exact n9) (by rw [eS]; exact m9) (by rw [eS]; exact ⟨hsl2.nm.ms, hsl2.nm.fs, hsl2.nm.rs⟩)
        · have et : dTold d = [d.1, d.2] := by unfold dTold; exact if_neg hs
          rw [et] at hdb
          rw [if_neg hs] at hrun2
          have hnm : Nm d.2 := by
            rcases hdw with z | z
            · rw [z] at hs; exact absurd rfl hs
            · exact z.2
          refine ⟨_, rfl, db, _, _, .str d.1, rfl, rfl, .inl (.inl (f.at hdb)), rfl, rfl, _, rfl, iteX hs ?_⟩
          have hmS := hsl2.m
          have hfS := hsl2.f
          have hpS := hsl2.p
          refine ⟨_, rfl, Dm, rfl, ⟨_, SqL.of sa.m⟩, fun Dn nDn => ?_⟩
          have nDn : H' Dn = none := nDn
          refine lc_list (xs := Sc.ms.map V.str) (fun i Hx => Fr K [] H' Hx ∧ Hx Dn = some (.lst (((Sc.ms.take i).filter fun x => decide (x ≠ d.2) || !mu d).map V.str))) ⟨Fr.new f.2 nDn, upd_same⟩ (fun i Hx _ ⟨g, _⟩ => SqL.of (g.at sa.m)) (fun i yx Hx hyx ⟨g, hDn⟩ => ?_) (fun Hx ⟨g, hDn⟩ => ?_)
          · obtain ⟨x, hxi, rfl⟩ := at_map hyx
            have tk : (Sc.ms.take (i + 1)).filter (fun x => decide (x ≠ d.2) || !mu d) = (Sc.ms.take i).filter (fun x => decide (x ≠ d.2) || !mu d) ++ (if (decide (x ≠ d.2) || !mu d) = true then [x] else []) := by
              rw [List.take_add_one, hxi, List.filter_append]
              congr 1
              show List.filter _ [x] = _
              rw [List.filter_cons]
              rfl
            have hdbx := g.at (f.at hdb)
            have yes : ∀ Hz, Fr K [] Hx Hz → (decide (x ≠ d.2) || !mu d) = true → ∃ acc, Hz Dn = some (.lst acc) ∧ acc.length < sizeLine ∧ Fr K [] H' (L2.upd Hz Dn (.lst (acc ++ [V.str x]))) ∧ (L2.upd Hz Dn (.lst (acc ++ [V.str x]))) Dn = some (.lst (((Sc.ms.take (i + 1)).filter fun x => decide (x ≠ d.2) || !mu d).map V.str)) := fun Hz gz e => by
              refine ⟨_, gz.at hDn, ?_, (g.trans gz).upNew f.2 nDn, ?_⟩
              · rw [List.length_map]
                have := List.length_filter_le (fun x => decide (x ≠ d.2) || !mu d) (Sc.ms.take i)
                have h2 : (Sc.ms.take i).length ≤ Sc.ms.length := by rw [List.length_take]; omega
                exact Nat.lt_of_le_of_lt (by omega : _ ≤ 1000) (by decide)
              · rw [upd_same, tk, if_pos e, List.map_append]
                rfl
            refine ⟨rfl, _, rfl, _, rfl, 1, rfl, db, _, _, .str d.2, rfl, rfl, .inl (.inl hdbx), rfl, rfl, _, rfl, ?_⟩
            by_cases hxd : x = d.2
            · refine iteNS (by rw [hxd]) ?_
              refine ⟨_, rfl, db, _, _, .str d.1, rfl, rfl, .inl (.inl hdbx), rfl, by show 2 ≤ sizeLine; decide, fun t2 nt2 => ?_⟩
              have gt := Fr.new (E := []) (o := .tup [.str "mark", .str "unmark"]) g.2 nt2
              refine ⟨t2, _, rfl, .inr (.inl (.inl upd_same)), rfl, rfl, _, rfl, ?_⟩
              show (if (!inV (V.str d.1) [.str "mark", .str "unmark"]) = true then _ else _)
              rw [inV_two]
              show (if (!mu d) = true then _ else _)
              by_cases hmu : mu d = true
              · refine iteNB (by rw [hmu]; rfl) ⟨g.trans gt, ?_⟩
                rw [tk, if_neg (by rw [hmu, decide_eq_false (fun z => z hxd)]; decide), List.append_nil]
                exact gt.at hDn
              · have hmu : mu d = false := by simpa using hmu
                exact iteB (by rw [hmu]; rfl) ⟨_, rfl, yes _ gt (by rw [hmu]; simp)⟩
            · exact iteNT (fun z => hxd (by injection z)) ⟨_, rfl, yes _ (Fr.refl g.2) (by rw [decide_eq_true hxd]; rfl)⟩
          rw [List.length_map, List.take_length] at hDn
          -- the marks behind the deed
          have l1 : (Sc.ms.filter fun x => decide (x ≠ d.2) || !mu d).length ≤ Sc.ms.length := List.length_filter_le _ _
          have stage : ∀ (q : Addr) (ex : List Str) (H3 : Hp), ex = (if d.1 = "mark" then [d.2] else []) → Fr K [] Hx H3 → H3 q = some (.lst (ex.map V.str)) → ∀ R : V → Hp → Prop, (∀ (Dm2 : Addr) (H4 : Hp), Fr K [] H' H4 → H4 Dm2 = some (.lst ((stepL Sc d).ms.map V.str)) → H Dm2 = none → Dm2 ≠ Ds → R (.ref Dm2) H4) → rCat (.ref Dn) (.ref q) H3 R := by
            intro q ex H3 he g3 hq R hR
            have lex : ex.length ≤ 1 := by rw [he]; split <;> simp
            refine ⟨Dn, q, _, _, rfl, rfl, g3.at hDn, hq, by rw [List.length_map, List.length_map]; exact Nat.le_trans (by omega : _ ≤ 1000) (by decide), fun r nr => ?_⟩
            have G3 := g.trans g3
            refine hR r _ (G3.trans (Fr.new G3.2 nr)) ?_ ((f.trans G3).3 _ nr) (fun z => by rw [z, (G3.at sa.s)] at nr; cases nr)
            rw [upd_same, ← List.map_append, he]
            rfl
          have fin : ∀ (Dm2 : Addr) (H4 : Hp), Fr K [] H' H4 → H4 Dm2 = some (.lst ((stepL Sc d).ms.map V.str)) → H Dm2 = none → Dm2 ≠ Ds → ∀ (De : Ends), (∀ σ H5, (∃ (y9 y10 : Option V) (Df Dm Dp : Addr) (Sc : WS), σ = [some (V.ref lst), some (.ref lt), some (.ref Df), some (.ref Dm), some (.ref Dp), some (.ref Ds), some (.int (j : Nat)), some cv, some (.ref dlst), y9, y10] ∧ Fr K [] H H5 ∧ SA H H5 Df Dm Dp Ds Sc ∧ runL r.2 { S with acts := S.acts ++ [j] } = runL (r.2.drop (k + 1)) Sc ∧ Sc.st = false ∧ SL Sc (6 * j + 1 + (k + 1))) → De.nx σ H5) → ∀ y10' : Option V,
              tSeq (tIfS (tAnd (tTest (tOp rEq (tOp (rIxT K) (tVar 9) (tC (.int 0))) (tC (.str "file")))) (tTest (tOp (rIn K true) (tOp (rIxT K) (tVar 9) (tC (.int 1))) (tVar 2)))) (tAsg (tOp rCat (tVar 2) (tLst (tCons (tOp (rIxT K) (tVar 9) (tC (.int 1))) tNil))) (gName 2)) tNext)
                (tIfS (tAnd (tTest (tOp rEq (tOp (rIxT K) (tVar 9) (tC (.int 0))) (tC (.str "pass")))) (tTest (tOp (rIn K true) (tOp (rIxT K) (tVar 9) (tC (.int 1))) (tVar 4)))) (tAsg (tOp rCat (tVar 4) (tLst (tCons (tOp (rIxT K) (tVar 9) (tC (.int 1))) tNil))) (gName 4)) tNext) De
                [some (V.ref lst), some (.ref lt), some (.ref Df), some (.ref Dm2), some (.ref Dp), some (.ref Ds), some (.int (j : Nat)), some cv, some (.ref dlst), some (.ref db), y10'] H4 := by
            intro Dm2 H4 g4 hm4 nm4 em4 De hDe y10'
            have sa4 := sa.fr g4
            refine cond_app (i := 2) (A := Df) (db := db) (d := d) (wd := "file") rfl rfl rfl (g4.at (f.at hdb)) sa4.f (by omega) g4.2 fun A1 H5 g5 hA1 oA1 => ?_
            have G5 := g4.trans g5
            have sa5 := sa.fr G5
            refine cond_app (i := 4) (A := Dp) (db := db) (d := d) (wd := "pass") rfl rfl rfl (G5.at (f.at hdb)) sa5.p (by omega) G5.2 fun A2 H6 g6 hA2 oA2 => ?_
            have G6 := G5.trans g6
            have sa6 := sa.fr G6
            have free1 : H A1 = none ∧ A1 ≠ Ds := by
              rcases oA1 with rfl | z
              · exact ⟨sa.nf, sa.ef⟩
              · exact ⟨(f.trans g4).3 _ z, fun e => by rw [e, sa4.s] at z; cases z⟩
            have free2 : H A2 = none ∧ A2 ≠ Ds := by
              rcases oA2 with rfl | z
              · exact ⟨sa.np, sa.ep⟩
              · exact ⟨(f.trans G5).3 _ z, fun e => by rw [e, sa5.s] at z; cases z⟩
            refine hDe _ H6 ⟨_, _, A1, Dm2, A2, stepL Sc d, rfl, f.trans G6, ⟨g6.at hA1, (g5.trans g6).at hm4, hA2, sa6.s, free1.1, nm4, free2.1, sa.ns, free1.2, em4, free2.2⟩, hrun2, hst2, (hsl2.step hnm).mono (by omega)⟩
          refine ⟨_, rfl, _, rfl, db, _, _, .str d.1, rfl, rfl, .inl (.inl (g.at (f.at hdb))), rfl, rfl, _, rfl, ?_⟩
          by_cases hmk : d.1 = "mark"
          · refine iteD (by rw [hmk]) ⟨_, rfl, db, _, _, .str d.2, rfl, rfl, .inl (.inl (g.at (f.at hdb))), rfl, by show 1 ≤ sizeLine; decide, fun q nq => ?_⟩
            have g3 := Fr.new (E := []) (o := .lst [.str d.2]) g.2 nq
            exact stage q [d.2] _ (by rw [if_pos hmk]) g3 upd_same _ fun Dm2 H4 g4 hm4 nm4 em4 => fin Dm2 H4 g4 hm4 nm4 em4 _ (fun σ H5 z => z) _
          · refine iteN (fun z => hmk (by injection z)) ⟨z0, fun q nq => ?_⟩
            have g3 := Fr.new (E := []) (o := .lst []) g.2 nq
            exact stage q [] _ (by rw [if_neg hmk]) g3 upd_same _ fun Dm2 H4 g4 hm4 nm4 em4 => fin Dm2 H4 g4 hm4 nm4 em4 _ (fun σ H5 z => z) _
      · subst es
        rw [dlen, List.drop_length] at hrun
        have hrun : runL r.2 { S with acts := S.acts ++ [j] } = Sc := hrun
        rw [hrun] at hth2
        exact ⟨_, _, _, _, _, Df, Dm, Dp, Sc, rfl, f, sa, hth2, hst2, hsl2.mono (by omega)⟩
    · rw [if_neg ev] at hth2
      exact iteNB (by simpa using ev) ⟨_, _, _, _, _, Df, Dm, Dp, S, rfl, G2, sa2, hth2, hst, hsl.mono (by omega)⟩
  · subst es
    rw [hlen, List.drop_length] at hth
    have hth : thruL L 0 rs S0 = S := hth
    refine lret tb f sa (hsl.mono (by rw [hlen]; omega)) fun H9 t u sd ms F9 pm so ht9 n9 m9 => ?_
    exact kk H9 t u sd ms F9 (by rw [hth]; exact pm) so ht9 (by rw [hth]; exact n9) (by rw [hth]; exact m9) (by rw [hth]; exact hsl.nm)
end
end So
end

section
set_option Elab.async false
set_option linter.all false
set_option maxRecDepth 100000
set_option maxHeartbeats 4000000
namespace So
open PySem PySem.Spec PyProof.Rows L2 GxA TL
open GxR (TabB TabG Tabbed)
def sizesL : List Nat := [0, 1, 2, 9, 10, 11, 500, 501, 99998, 99999]
section
variable {P : Program} {w : World} {K : PySem.W.Frag} {mg : Str → Option Value} {base : Heap}
def spLetter (K : PySem.W.Frag) : Sp := fun vs H Q _ => ∃ (a : Addr) (ns : List Int) (k : Nat) (Dw : Addr) (ws : List Str), vs = [.ref a, .int k, .ref Dw] ∧ SqL K H a (ns.map V.int) ∧ Wds H Dw ws ∧ Tb K H ∧
  ∀ (H' : Hp) (lt : Addr) (L : Ltr), Fr K [] H H' → LtAt H' lt L → LWf L → Q (.ref lt) H'
theorem R_letter (T : Txt w K mg base) : FnR P w K mg base CX0 6 (a_law_letter K) (spLetter K) := by
  refine mkR T.f_law_letter sc_law_letter bd_law_letter ?_ ?_
  · rintro vs H Q E ⟨a, ns, k, Dw, ws, rfl, _⟩; rfl
  rintro cdv A outer s H vs Q E hr ⟨a, ns, k, Dw, ws, rfl, ha, hw, tb, kk⟩
  have nd := sc_law_letter.nd
  obtain ⟨_, F1⟩ := T.f_law_digits
  refine ⟨_, pss_cons (ps_asg (pe_tup (pa_cons (pe_cF (R_digits T) (hr.mono (by decide)) (by rfl) T.g_law_digits F1.kp (pa_cons (pv 0) (pa_cons (pv 1) (pa_cons pe_int (pa_cons pe_int pa_nil))))) (pa_cons (pe_op op_cat (pv 2) (pe_lst (pa_cons pe_str (pa_cons pe_str pa_nil)))) pa_nil))) (pg_tup (by rfl) (pgs_cons (pg_name (i := 3) nd rfl (.inl rfl)) (pgs_cons (pg_name (i := 4) nd rfl (.inr rfl)) pgs_nil))))
    (pss_cons (ps_set (i := 5) nd rfl (.inl rfl) (pe_ix ix_tup (pe_tup (pa_cons pe_int (pa_cons pe_int (pa_cons pe_int (pa_cons pe_int (pa_cons pe_int (pa_cons pe_int (pa_cons pe_int (pa_cons pe_int (pa_cons pe_int (pa_cons pe_int pa_nil))))))))))) (pe_op op_mod (pe_ix ix_list (pv 3) pe_int (fun _ _ => rfl)) pe_int) (fun _ _ => rfl)))
    (pss_cons (ps_set (i := 5) nd rfl (.inl rfl) (pe_ifExp (pt_cmpR op_gt (pe_op op_mod (pe_op op_fdiv (pe_ix ix_list (pv 3) pe_int (fun _ _ => rfl)) pe_int) pe_int) pe_int (nomark _)) (pv 5) (pe_op op_mul (pe_ix ix_list (pv 3) pe_int (fun _ _ => rfl)) pe_int)))
    (pss_cons (ps_setLc (i := 6) (own := [("_law_draw_here", 7)]) (g := gName 7) (tt := tYes)
        (te := tOp (rIxL K) (tVar 4) (tOp (rI (fun _ j => 0 < j) fun i j => .int (i % j)) (tOp (rI CDiv fun i j => .int (i / j)) (tVar 7) (tC (.int 3))) (tIf (tTest (tOp (rI0 fun i j => .bl (decide (j < i))) (tOp (rI (fun _ j => 0 < j) fun i j => .int (i % j)) (tVar 7) (tC (.int 3))) (tC (.int 0)))) (tC (.int 4)) (tC (.int 8))))) rfl nd rfl rfl (sw_true rfl rfl rfl (by decide +kernel))
        (pi_list (pe_slice sl_list (pv 3) (po_some pe_int) (po_some (pe_op op_add pe_int (pe_op op_mod (pe_ix ix_list (pv 3) pe_int (fun _ _ => rfl)) pe_int)))))
        (blkOk_by (own := [("_law_draw_here", 7)]) (N := N_law_letter) (sc := defScope s_law_letter) (by decide +kernel)) (fun _ _ _ _ _ => pg_name (i := 7) nd rfl (Or.inl rfl)) (fun _ _ _ _ _ => pts_nil)
        (fun _ _ _ _ _ => pe_ix ix_list (pv 4) (pe_op op_mod (pe_op op_fdiv (pv 7) pe_int) (pe_ifExp (pt_cmpR op_gt (pe_op op_mod (pv 7) pe_int) pe_int (nomark _)) pe_int pe_int)) (fun _ _ => rfl)))
    (pss_one (ps_ret (pe_tup (pa_cons (pe_ix ix_list (pv 4) (pe_op op_mod (pe_ix ix_list (pv 3) pe_int (fun _ _ => rfl)) pe_int) (fun _ _ => rfl)) (pa_cons (pv 6) (pa_cons (pv 5) pa_nil))))))))) , ?_⟩
  refine ⟨_, rfl, _, rfl, a, ns, k, 14, 1009, rfl, ha, by decide, by decide, by decide, tb, fun H1 Dd ds f1 nDd hDd hdr => ?_⟩
  have l6 := hw.len
  refine ⟨_, rfl, by show 2 ≤ sizeLine; decide, fun p1 np1 => ?_⟩
  have g1 := Fr.new (E := []) (o := .lst [.str "zzz", .str "y"]) f1.2 np1
  have F2 := f1.trans g1
  refine ⟨Dw, p1, _, _, rfl, rfl, F2.at hw.at_, upd_same, by rw [List.length_map, l6]; decide, fun p2 np2 => ?_⟩
  obtain ⟨some8, hs8⟩ : ∃ l : List Str, l = ws ++ ([("zzz" : Str), ("y" : Str)] : List Str) := ⟨_, rfl⟩
  have e8 : ws.map V.str ++ [.str "zzz", .str "y"] = some8.map V.str := by rw [hs8, List.map_append]; rfl
  rw [e8]
  have l8 : some8.length = 8 := by rw [hs8, List.length_append, l6]; rfl
  have n8 : ∀ x ∈ some8, Nm x := fun x m => by
    rw [hs8] at m
    rcases List.mem_append.mp m with m | m
    · exact hw.nm x m
    · simp only [List.mem_cons, List.not_mem_nil, or_false] at m
      rcases m with rfl | rfl <;> exact ⟨by decide +kernel, by decide +kernel, by decide +kernel⟩
  have g2 := Fr.new (E := []) (o := .lst (some8.map V.str)) F2.2 np2
  have F3 := F2.trans g2
  refine ⟨by show 2 ≤ sizeLine; decide, fun t nt => ?_⟩
  have g3 := Fr.new (E := []) (o := .tup [.ref Dd, .ref p2]) F3.2 nt
  have F4 := F3.trans g3
  have hDd4 := (((g1.trans g2).trans g3)).at hDd
  have hp4 := g3.at (upd_same (H := _) (a := p2) (o := .lst (some8.map V.str)))
  refine ⟨t, _, rfl, .inl (.inl upd_same), rfl, _, _, rfl, _, _, rfl, rfl, ?_⟩
  obtain ⟨d0, e0, q0, r0⟩ := drw_at hdr (k := 0) (by decide)
  obtain ⟨d1, e1, q1, r1⟩ := drw_at hdr (k := 1) (by decide)
  obtain ⟨d2, e2, q2, r2⟩ := drw_at hdr (k := 2) (by decide)
  refine ⟨by show 10 ≤ sizeLine; decide, fun t2 nt2 => ?_⟩
  have g4 := Fr.new (E := []) (o := .tup (sizesL.map fun (n : Nat) => V.int (n : Int))) F4.2 nt2
  have F5 := F4.trans g4
  obtain ⟨k1, ek1, bk1⟩ := ixm d1 10 (by decide)
  have sl10 : sizesL.length = 10 := rfl
  have k1l : k1 < sizesL.length := by omega
  refine ⟨_, rfl, Dd, _, _, .int d1, rfl, rfl, SqL.of (g4.at hDd4), atI_nat (j := 1) e1, d1, 10, rfl, rfl, (by show (0 : Int) < 10; decide), t2, sizesL.map (fun (n : Nat) => V.int (n : Int)), _, V.int (sizesL[k1] : Nat), rfl, rfl, .inl (.inl upd_same), ?_, ?_⟩
  · show atI _ (d1 % 10) = _
    rw [ek1]
    exact atI_nat (by rw [List.getElem?_map, List.getElem?_eq_getElem k1l]; rfl)
  have szb : sizesL[k1] ≤ 99999 := by
    have all : ∀ n ∈ sizesL, n ≤ 99999 := by decide
    exact all _ (List.getElem_mem k1l)
  have hDd5 := g4.at hDd4
  have hp5 := g4.at hp4
  -- the rest, from a size
  have rest : ∀ (z : Nat), z ≤ 99999 → ∀ σ : L2.St, σ = [some (V.ref a), some (.int k), some (.ref Dw), some (.ref Dd), some (.ref p2), some (.int (z : Int)), none, none] →
      tSeq (tAsg (tLc (iList K (tSl (rSlL K) (tVar 3) (tPart (tC (.int 3))) (tPart (tOp (rI0 fun i j => .int (i + j)) (tC (.int 3)) (tOp (rI (fun _ j => 0 < j) fun i j => .int (i % j)) (tOp (rIxL K) (tVar 3) (tC (.int 2))) (tC (.int 11)))))))
          (gName 7) tYes (tOp (rIxL K) (tVar 4) (tOp (rI (fun _ j => 0 < j) fun i j => .int (i % j)) (tOp (rI CDiv fun i j => .int (i / j)) (tVar 7) (tC (.int 3))) (tIf (tTest (tOp (rI0 fun i j => .bl (decide (j < i))) (tOp (rI (fun _ j => 0 < j) fun i j => .int (i % j)) (tVar 7) (tC (.int 3))) (tC (.int 0)))) (tC (.int 4)) (tC (.int 8))))) [7]) (gName 6))
        (tRet (tTup (tCons (tOp (rIxL K) (tVar 4) (tOp (rI (fun _ j => 0 < j) fun i j => .int (i % j)) (tOp (rIxL K) (tVar 3) (tC (.int 0))) (tC (.int 8)))) (tCons (tVar 6) (tCons (tVar 5) tNil)))))
        { nx := fun _ H' => Q .non H', rt := Q } σ (L2.upd (L2.upd (L2.upd (L2.upd H1 p1 (.lst [.str "zzz", .str "y"])) p2 (.lst (some8.map V.str))) t (.tup [.ref Dd, .ref p2])) t2 (.tup (sizesL.map fun (n : Nat) => V.int (n : Int)))) := by
    intro z hz σ es
    subst es
    obtain ⟨k2, ek2, bk2⟩ := ixm d2 11 (by decide)
    have dl : ds.length = 14 := hdr.1
    refine ⟨_, rfl, 3, rfl, _, rfl, Dd, _, _, .int d2, rfl, rfl, SqL.of hDd5, atI_nat (j := 2) e2, d2, 11, rfl, rfl, (by show (0 : Int) < 11; decide), 3, _, rfl, rfl, _, rfl, Dd, _, rfl, SqL.of hDd5, fun S nS => ?_⟩
    have ecut : cutV (ds.map V.int) (some 3) (some (3 + d2 % 11)) = ((ds.drop 3).take (3 + k2 - 3)).map V.int := by
      rw [ek2, show (some (3 : Int)) = some ((3 : Nat) : Int) from rfl, show ((3 : Int) + ((k2 : Nat) : Int)) = ((3 + k2 : Nat) : Int) by omega, cutV_nn (by omega) (by rw [List.length_map, dl]; omega), ← List.map_drop, ← List.map_take]
    rw [show cutV (ds.map V.int) (some 3) (some ((fun i j : Int => i + j) 3 (d2 % 11))) = ((ds.drop 3).take (3 + k2 - 3)).map V.int from ecut]
    have lx : ((ds.drop 3).take (3 + k2 - 3)).length ≤ 10 := by rw [List.length_take]; omega
    generalize (ds.drop 3).take (3 + k2 - 3) = xs at lx
    have g5 := Fr.new (E := []) (o := .lst (xs.map V.int)) F5.2 nS
    have F6 := F5.trans g5
    refine ⟨S, rfl, ⟨_, SqL.of upd_same⟩, fun D nD => ?_⟩
    refine lc_list (xs := xs.map V.int) (fun i Hx => Fr K [] _ Hx ∧ ∃ us : List Str, Hx D = some (.lst (us.map V.str)) ∧ us.length = i ∧ ∀ x ∈ us, Nm x) ⟨Fr.new F6.2 nD, [], upd_same, rfl, fun _ m => (nomatch m)⟩ (fun i Hx _ ⟨g, _⟩ => SqL.of (g.at upd_same)) (fun i yx Hx hyx ⟨g, us, hD, hul, hun⟩ => ?_) (fun Hx ⟨g, us, hD, hul, hun⟩ => ?_)
    · obtain ⟨x, rfl⟩ : ∃ x, yx = V.int x := by
        rw [List.getElem?_map] at hyx
        cases e : xs[i]? with
        | none => rw [e] at hyx; cases hyx
        | some x => rw [e] at hyx; exact ⟨x, (Option.some.inj hyx).symm⟩
      have hi : i < xs.length := by have := (List.getElem?_eq_some_iff.mp hyx).1; rwa [List.length_map] at this
      have hpx := g.at (g5.at hp5)
      have go : ∀ Hs : Hp, Fr K [] Hs Hx → Tb K Hs → Hs D = none → ∀ m : Int, 0 < m → m ≤ 8 → tOp (rIxL K) (tC (.ref p2)) (tC (.int (x / 3 % m))) [] Hx fun y H4 => ∃ acc, H4 D = some (.lst acc) ∧ acc.length < sizeLine ∧ Fr K [] Hs (L2.upd H4 D (.lst (acc ++ [y]))) ∧ ∃ us : List Str, (L2.upd H4 D (.lst (acc ++ [y]))) D = some (.lst (us.map V.str)) ∧ us.length = i + 1 ∧ ∀ x ∈ us, Nm x := by
        intro Hs gs tbs nDs m hm hm8
        obtain ⟨k3, e3, b3⟩ := ixk x 3 m hm
        have k3l : k3 < some8.length := by omega
        refine ⟨p2, _, _, .str some8[k3], rfl, rfl, SqL.of hpx, by rw [e3]; exact atI_nat (str_at k3l), _, hD, by rw [List.length_map, hul]; exact Nat.lt_of_lt_of_le hi (Nat.le_trans lx (by decide)), gs.upNew tbs nDs, us ++ [some8[k3]], by rw [upd_same, List.map_append]; rfl, by rw [List.length_append, hul]; rfl, fun y m => ?_⟩
        rcases List.mem_append.mp m with m | m
        · exact hun y m
        · rw [List.mem_singleton.mp m]; exact n8 _ (List.getElem_mem k3l)
      refine ⟨rfl, _, rfl, _, rfl, x, 3, rfl, rfl, ⟨by decide, by decide⟩, _, rfl, x, 3, rfl, rfl, (by show (0 : Int) < 3; decide), _, _, rfl, rfl, _, rfl, ?_⟩
      refine ite2 (fun _ => ?_) (fun _ => ?_)
      · exact ⟨_, 4, rfl, rfl, (by show (0 : Int) < 4; decide), go _ g F6.2 nD 4 (by decide) (by decide)⟩
      · exact ⟨_, 8, rfl, rfl, (by show (0 : Int) < 8; decide), go _ g F6.2 nD 8 (by decide) (by decide)⟩
    · rw [List.length_map] at hul
      have F7 := F6.trans g
      obtain ⟨k0, ek0, bk0⟩ := ixm d0 8 (by decide)
      have k0l : k0 < some8.length := by omega
      refine ⟨_, rfl, _, rfl, Dd, _, _, .int d0, rfl, rfl, SqL.of (g.at (g5.at hDd5)), atI_nat (j := 0) e0, d0, 8, rfl, rfl, (by show (0 : Int) < 8; decide), p2, _, _, .str some8[k0], rfl, rfl, SqL.of (g.at (g5.at hp5)), ?_, _, rfl, _, rfl, by show 3 ≤ sizeLine; decide, fun lt nlt => ?_⟩
      · show atI _ (d0 % 8) = _
        rw [ek0]
        exact atI_nat (str_at k0l)
      have dl2 : D ≠ lt := ne_of_none hD nlt
      exact kk _ lt ⟨some8[k0], us, z⟩ (F7.trans (Fr.new F7.2 nlt)) ⟨D, upd_same, by rw [upd_ne dl2]; exact hD⟩ ⟨n8 _ (List.getElem_mem k0l), hun, hz, by show us.length ≤ 100; omega⟩
  refine ⟨_, rfl, Dd, _, _, .int d1, rfl, rfl, SqL.of hDd5, atI_nat (j := 1) e1, d1, 10, rfl, rfl, ⟨by decide, by decide⟩, _, 3, rfl, rfl, (by show (0 : Int) < 3; decide), _, _, rfl, rfl, _, rfl, ?_⟩
  refine ite2 (fun _ => ?_) (fun _ => ?_)
  · exact ⟨_, rfl, rest sizesL[k1] szb _ rfl⟩
  · obtain ⟨z, hz⟩ := nat_of (show 0 ≤ d1 * 99 by omega)
    refine ⟨_, rfl, Dd, _, _, .int d1, rfl, rfl, SqL.of hDd5, atI_nat (j := 1) e1, d1, 99, rfl, rfl, .inl ⟨by omega, by omega⟩, rest z (by omega) _ ?_⟩
    show [some (V.ref a), some (.int k), some (.ref Dw), some (.ref Dd), some (.ref p2), some (.int (d1 * 99)), none, none] = _
    rw [hz]
end
end So
end

section
set_option Elab.async false
set_option linter.all false
set_option maxRecDepth 100000
set_option maxHeartbeats 4000000
namespace So
open PySem PySem.Spec PyProof.Rows L2 GxA TL
open GxR (TabB TabG Tabbed)
theorem SzOk.thru {L : Ltr} {W : List Str} : ∀ {rs : List RuleD} {S : WS} {i n : Nat}, SzOk S n → (∀ r ∈ rs, RWf W r) → SzOk (thru L i rs S) (n + 6 * rs.length)
  | [], S, i, n, h, _ => h
  | r :: rs, S, i, n, h, hr => by
    show SzOk (if S.st = true then S else if r.1.ev L S.ms = true then _ else _) _
    have hl : (r :: rs).length = rs.length + 1 := rfl
    have h5 := (hr r List.mem_cons_self).2.2.2.2.2.2.1
    have ht : ∀ x ∈ rs, RWf W x := fun x m => hr x (List.mem_cons_of_mem _ m)
    split
    · exact h.mono (by omega)
    split
    · exact (SzOk.thru (SzOk.run (h.acts1 (i := i))) ht).mono (by omega)
    · exact (SzOk.thru h ht).mono (by omega)
theorem sz0 : SzOk S0 0 := ⟨Nat.le_refl _, Nat.le_refl _, Nat.le_refl _, Nat.le_refl _⟩
def dS (a b c : List Str) : PyData := .tuple [.list (a.map PyData.str), .list (b.map PyData.str), .list (c.map PyData.str)]
def dA (xs : List Nat) : PyData := .list (xs.map fun (n : Nat) => PyData.int (n : Int))
theorem can_S {a b c : List Str} (ha : ∀ x ∈ a, Nm x) (hb : ∀ x ∈ b, Nm x) (hc : ∀ x ∈ c, Nm x) : PyData.canLay0 (dS a b c) = true ∧ PyData.depth (dS a b c) ≤ 2 := by
  obtain ⟨a1, a2⟩ := shapedS ha
  obtain ⟨b1, b2⟩ := shapedS hb
  obtain ⟨c1, c2⟩ := shapedS hc
  constructor
  · show (PyData.canLay0 (.list (a.map PyData.str)) && (PyData.canLay0 (.list (b.map PyData.str)) && (PyData.canLay0 (.list (c.map PyData.str)) && true))) = true
    rw [a1, b1, c1]; rfl
  · show max (PyData.depth (.list (a.map PyData.str))) (max (PyData.depth (.list (b.map PyData.str))) (max (PyData.depth (.list (c.map PyData.str))) 0)) + 1 ≤ 2
    omega
theorem can_A (xs : List Nat) : PyData.canLay0 (dA xs) = true ∧ PyData.depth (dA xs) ≤ 1 := by
  constructor
  · show PyData.canLayAll0 (xs.map fun (n : Nat) => PyData.int (n : Int)) = true
    induction xs with
    | nil => rfl
    | cons x xs ih => exact ih
  · have z : PyData.depthAll (xs.map fun (n : Nat) => PyData.int (n : Int)) = 0 := by
      induction xs with
      | nil => rfl
      | cons x xs ih =>
        show max (PyData.depth (.int x)) (PyData.depthAll (xs.map fun (n : Nat) => PyData.int (n : Int))) = 0
        rw [ih]; rfl
    show PyData.depthAll (xs.map fun (n : Nat) => PyData.int (n : Int)) + 1 ≤ 1
    rw [z]; exact Nat.le_refl _
theorem can_L {L : Ltr} (hl : LWf L) : PyData.canLay0 L.p = true ∧ PyData.depth L.p ≤ 2 := by
  obtain ⟨a1, a2⟩ := shapedS hl.ws
  constructor
  · show (PyData.strOk L.snd && (PyData.canLay0 (.list (L.ws.map PyData.str)) && true)) = true
    rw [hl.snd.ok, a1]; rfl
  · show max 0 (max (PyData.depth (.list (L.ws.map PyData.str))) (max 0 0)) + 1 ≤ 2
    omega
theorem nEq {d : PyData} (h : PyData.eqv d d = true) : (!PyData.eqv d d) = false := by rw [h]; rfl
theorem shp {d : PyData} {n : Nat} (h : PyData.canLay0 d = true ∧ PyData.depth d ≤ n) (hn : n ≤ 64 := by decide) : SeqAt.shaped d = true := by
  unfold SeqAt.shaped
  rw [Bool.and_eq_true]
  exact ⟨h.1, decide_eq_true (Nat.le_trans h.2 hn)⟩
theorem lt_dp {K : PySem.W.Frag} {H : Hp} {lt : Addr} {L : Ltr} (h : LtAt H lt L) : Dp K H (.ref lt) L.p := by
  obtain ⟨l, h1, h2⟩ := h.ob
  exact Dp.tup (.inl (.inl h1)) (.cons (.str _) (.cons (Dp.lst (SqL.of h2) strs_dpAll) (.cons (.int _) .nil)))
theorem tr_three {H : Hp} {u : V} {a b c : List Str} (h : Tr H u (dS a b c)) : ∃ p q1 q2 q3, u = .ref p ∧ H p = some (.tup [.ref q1, .ref q2, .ref q3]) ∧ H q1 = some (.lst (a.map V.str)) ∧ H q2 = some (.lst (b.map V.str)) ∧ H q3 = some (.lst (c.map V.str)) := by
  obtain ⟨p, vs, rfl, hp, hv⟩ := tr_tup h
  cases hv with
  | cons x1 r =>
    cases r with
    | cons x2 r =>
      cases r with
      | cons x3 r =>
        cases r
        obtain ⟨q1, y1, rfl, h1, t1⟩ := tr_lst x1
        obtain ⟨q2, y2, rfl, h2, t2⟩ := tr_lst x2
        obtain ⟨q3, y3, rfl, h3, t3⟩ := tr_lst x3
        exact ⟨p, q1, q2, q3, rfl, hp, by rw [h1, trAll_strs t1], by rw [h2, trAll_strs t2], by rw [h3, trAll_strs t3]⟩
section
variable {P : Program} {w : World} {K : PySem.W.Frag} {mg : Str → Option Value} {base : Heap}
def spRight (K : PySem.W.Frag) : Sp := fun vs H Q _ => ∃ (x : Str) (v : V) (lt : Addr) (os : List (Option RuleD)) (W : List Str) (L : Ltr), vs = [.str x, v, .ref lt] ∧ TxtOk x os W ∧ Tr H v (.list ((os.filterMap id).map ruleL)) ∧ LtAt H lt L ∧ LWf L ∧ (os.filterMap id).length ≤ 10 ∧ Tb K H ∧
  ∀ H', Fr K [] H H' → Q (.bl true) H'
theorem R_right (T : Txt w K mg base) : FnR P w K mg base CX0 90 (a_law_sort_right K) (spRight K) := by
  refine mkR T.f_law_sort_right sc_law_sort_right bd_law_sort_right ?_ ?_
  · rintro vs H Q E ⟨x, v, lt, os, W, L, rfl, _⟩; rfl
  rintro cdv A outer s H vs Q E hr ⟨x, v, lt, os, W, L, rfl, ht, hv, hL, hl, hrl, tb, kk⟩
  have nd := sc_law_sort_right.nd
  obtain ⟨_, F1⟩ := T.f_sort
  obtain ⟨_, F2⟩ := T.f_acting
  obtain ⟨_, F3⟩ := T.f_law_sort
  refine ⟨_, PSs.nox <| pss_cons (ps_set (i := 3) nd rfl (.inl rfl) (pe_tup (pa_cons (pe_ix ix_tup (pv 2) pe_int (fun _ _ => rfl)) (pa_cons (pe_callTy call_list_of (by rfl) T.z_list (by decide +kernel) (pa_cons (pe_ix ix_tup (pv 2) pe_int (fun _ _ => rfl)) pa_nil)) (pa_cons (pe_ix ix_tup (pv 2) pe_int (fun _ _ => rfl)) pa_nil)))))
    (pss_cons (ps_par (i := 4) (j := 5) (by rfl) nd rfl rfl (by decide) rfl rfl (pa_cons (pe_cF (R_sort T) (hr.mono (by decide)) (by rfl) T.g_sort F1.kp (pa_cons (pv 0) (pa_cons (pv 3) pa_nil))) (pa_cons (pe_cF (R_acting T) (hr.mono (by decide)) (by rfl) T.g_acting F2.kp (pa_cons (pv 0) (pa_cons (pv 3) pa_nil))) pa_nil)) (by rfl))
    (pss_cons (ps_asg (pe_cF (R_lsort T) (hr.mono (by decide)) (by rfl) T.g_law_sort F3.kp (pa_cons (pv 1) (pa_cons (pv 2) pa_nil))) (pg_tup (by rfl) (pgs_cons (pg_name (i := 6) nd rfl (.inl rfl)) (pgs_cons (pg_name (i := 7) nd rfl (.inl rfl)) pgs_nil))))
    (pss_cons (ps_if (PW.pt (pw_or (pt_not (pt_val (pe_callB call_isi (by rfl) T.z_isinstance (by decide +kernel) (pa_cons (pv 4) (pa_cons (pe_bltn (by rfl) T.z_tuple (by decide +kernel) (v := .ty "tuple") rfl) pa_nil)))))
        (pw_or (pt_cmpR (op_neD hr.units) (pv 4) (pv 6) (nomark _)) (pw_or (pt_cmpR (op_neD hr.units) (pv 5) (pv 7) (nomark _)) (pw_or1 (pt_cmpR (op_neD hr.units) (pv 3) (pv 2) (nomark _)))))))
      (pss_one (ps_ret pe_bl)) pss_nil)
    (pss_cons (ps_if (PW.pt (pw_or (pt_not (pt_val (pe_callB (cr_all rfl) (by rfl) T.z_all (by decide +kernel) (pa_cons (pe_lc (own := [("_law_one", 8)]) (g := gName 8) (tt := tYes)
          (te := tCB (rIsi K) (tCons (tVar 8) (tCons (tC (.ty "list")) tNil))) rfl nd (pi_tup (pv 4)) (blkOk_by (own := [("_law_one", 8)]) (N := N_law_sort_right) (sc := defScope s_law_sort_right) (by decide +kernel))
          (fun _ _ _ _ _ => pg_name (i := 8) nd rfl (Or.inl rfl)) (fun _ _ _ _ _ => pts_nil) (fun _ _ _ _ _ => pe_callB call_isi (by rfl) T.z_isinstance (by decide +kernel) (pa_cons (pv 8) (pa_cons (pe_bltn (by rfl) T.z_list (by decide +kernel) (v := .ty "list") rfl) pa_nil)))) pa_nil))))
        (pw_or1 (pt_not (pt_val (pe_callB call_isi (by rfl) T.z_isinstance (by decide +kernel) (pa_cons (pv 5) (pa_cons (pe_bltn (by rfl) T.z_list (by decide +kernel) (v := .ty "list") rfl) pa_nil))))))))
      (pss_one (ps_ret pe_bl)) pss_nil)
    (pss_cons (ps_for PassesOwn.never rfl (pi_tup (pv 4)) (pg_name (i := 8) nd rfl (.inl rfl))
      (pss_one (ps_expr (pe_bm PySem.F.plainAttrs_list PySem.F.slot_list_append PySem.F.type_list_append mt_append (pv 8) (pa_cons pe_str pa_nil)))))
    (pss_cons (ps_expr (pe_bm PySem.F.plainAttrs_list PySem.F.slot_list_append PySem.F.type_list_append mt_append (pv 5) (pa_cons pe_int pa_nil)))
    (pss_one (ps_ret (pe_and (pe_cmpR (op_eqD hr.units) (pe_cF (R_sort T) (hr.mono (by decide)) (by rfl) T.g_sort F1.kp (pa_cons (pv 0) (pa_cons (pv 3) pa_nil))) (pv 6) (nomark _))
      (pe_one (pe_cmpR (op_eqD hr.units) (pe_cF (R_acting T) (hr.mono (by decide)) (by rfl) T.g_acting F2.kp (pa_cons (pv 0) (pa_cons (pv 3) pa_nil))) (pv 7) (nomark _)))))))))))), ?_⟩
  obtain ⟨l, h1, h2⟩ := hL.ob
  obtain ⟨wf, wl⟩ := ht.wf
  -- what is handed in
  refine ⟨_, rfl, lt, _, _, .str L.snd, rfl, rfl, .inl (.inl h1), rfl, _, rfl, lt, _, _, .ref l, rfl, rfl, .inl (.inl h1), rfl, l, _, rfl, .inl (SqL.of h2), fun p np => ?_⟩
  have g1 := Fr.new (E := []) (o := .lst (L.ws.map V.str)) tb np
  refine ⟨_, rfl, lt, _, _, .int L.sz, rfl, rfl, .inl (.inl (g1.at h1)), rfl, by show 3 ≤ sizeLine; decide, fun hd nhd => ?_⟩
  have g2 := Fr.new (E := []) (o := .tup [.str L.snd, .ref p, .int L.sz]) g1.2 nhd
  have G2 := g1.trans g2
  have hhd : LtAt _ hd L := ⟨p, upd_same, g2.at (upd_same (H := H) (a := p) (o := .lst (L.ws.map V.str)))⟩
  generalize L2.upd (L2.upd H p (.lst (L.ws.map V.str))) hd (.tup [.str L.snd, .ref p, .int L.sz]) = H2 at hhd G2 ⊢
  -- told
  refine ⟨_, rfl, _, rfl, x, hd, os, W, L, rfl, ht, hhd, hl, G2.2, fun H3 u ms f3 pm so nd3 => ?_⟩
  refine ⟨_, rfl, _, rfl, x, hd, os, W, L, rfl, ht, hhd.fr f3, hl, f3.2, fun H4 a4 f4 nd4 => ?_⟩
  refine ⟨_, _, rfl, ?_⟩
  have G4 := (G2.trans f3).trans f4
  refine ⟨_, rfl, _, rfl, v, lt, os.filterMap id, L, W, rfl, tr_fr G4 hv, hL.fr G4, hl, wf, hrl, G4.2, fun H6 t2 u2 sd ms2 f6 pm2 so2 ⟨b, hb1, hb, nb⟩ nd6 nd6s nm2 => ?_⟩
  subst hb1
  refine ⟨b, _, rfl, .inl (.inl hb), rfl, _, _, rfl, _, _, rfl, rfl, ?_⟩
  have sim : Sim (wayOf L os) (thruL L 0 (os.filterMap id) S0) := Sim.thru sim0 wf
  obtain rfl : ms = ms2 := SkX.ord_unique (pm.trans (sim.ms.trans pm2.symm)) so so2
  have sz : SzOk (wayOf L os) 200 := (SzOk.thru sz0 wf).mono (by omega)
  have nm : SNm (wayOf L os) := SNm.thru S0_nm wf
  have nms : ∀ y ∈ ms, Nm y := fun y m => nm.ms y (pm.mem_iff.mp m)
  have msl : ms.length ≤ 200 := by rw [pm.length_eq]; exact sz.ms
  rw [← sim.fs, ← sim.rs] at nd6
  rw [← sim.acts] at nd6s
  generalize hS : wayOf L os = S at *
  have cS := can_S nm.fs nms nm.rs
  have cA := can_A S.acts
  have cL := can_L hl
  have rS := SeqAt.eqv_refl _ cS.1
  have rA := SeqAt.eqv_refl _ cA.1
  have rL := SeqAt.eqv_refl _ cL.1
  obtain ⟨ua, q1, q2, q3, hu, nu0, nu1, nu2, nu3⟩ := tr_three (a := S.fs) (b := ms) (c := S.rs) nd3
  subst hu
  obtain ⟨sa, sxs, hsa0, nsa, hsx⟩ := tr_lst nd4
  subst hsa0
  have hsl : sxs.length ≤ 200 := by rw [hsx.len, List.length_map]; exact sz.acts
  obtain ⟨_, _, e0, _⟩ := Nu.iff.mp nu0
  obtain ⟨z1, _, e1, _⟩ := Nu.iff.mp nu1
  obtain ⟨z2, _, e2, _⟩ := Nu.iff.mp nu2
  obtain ⟨z3, _, e3, _⟩ := Nu.iff.mp nu3
  obtain ⟨z4, _, e4, _⟩ := Nu.iff.mp nsa
  have f46 := f4.trans f6
  -- the first test
  refine ⟨_, rfl, _, _, _, _, true, rfl, .ty _, .base (.tup (f46.at e0)), kit_ty (by decide +kernel), true, rfl, iteF ?_⟩
  refine ⟨_, rfl, _, rfl, _, _, (tr_fr f46 (ND.tr nd3)).dp, (ND.tr nd6).dp, shp cS, shp cS, _, rfl, iteNB (nEq rS) ?_⟩
  refine ⟨_, rfl, _, rfl, _, _, (tr_fr f6 (ND.tr nd4)).dp, (ND.tr nd6s).dp, shp cA, shp cA, _, rfl, iteNB (nEq rA) ?_⟩
  refine ⟨_, rfl, _, rfl, _, _, lt_dp ((hhd.fr f3).fr f46), lt_dp ((hL.fr G4).fr f6), shp cL, shp cL, _, rfl, iteNB (nEq rL) ?_⟩
  -- the second test
  have hua6 := f46.at e0
  have three : ∀ (i : Nat) (y : V), ([.ref q1, .ref q2, .ref q3] : List V)[i]? = some y → i < 3 ∧ ∃ q, q ∈ [q1, q2, q3] ∧ y = .ref q := by
    intro i y h
    match i, h with
    | 0, h => exact ⟨by decide, q1, by simp, (Option.some.inj h).symm⟩
    | 1, h => exact ⟨by decide, q2, by simp, (Option.some.inj h).symm⟩
    | 2, h => exact ⟨by decide, q3, by simp, (Option.some.inj h).symm⟩
    | n + 3, h => simp at h
  have lists : ∀ q ∈ [q1, q2, q3], ∃ xs : List V, H3 q = some (.lst xs) ∧ xs.length ≤ 200 ∧ H2 q = none := by
    intro q m
    simp only [List.mem_cons, List.not_mem_nil, or_false] at m
    rcases m with rfl | rfl | rfl
    · exact ⟨_, e1, by rw [List.length_map]; exact sz.fs, z1⟩
    · exact ⟨_, e2, by rw [List.length_map]; exact msl, z2⟩
    · exact ⟨_, e3, by rw [List.length_map]; exact sz.rs, z3⟩
  refine ⟨_, rfl, ua, rfl, ⟨_, .inl (.inl hua6)⟩, fun D nD => ?_⟩
  refine lc_tup (xs := [.ref q1, .ref q2, .ref q3]) (fun i Hx => Fr K [] H6 Hx ∧ Hx D = some (.lst ((List.replicate i true).map V.bl))) ⟨Fr.new f6.2 nD, upd_same⟩ (fun i Hx _ ⟨g, _⟩ => .inl (.inl (g.at hua6))) (fun i y Hx hy ⟨g, hD⟩ => ?_) (fun H7 ⟨g, hD⟩ => ?_)
  · obtain ⟨i3, q, mq, rfl⟩ := three i y hy
    obtain ⟨xs, hx, _, _⟩ := lists q mq
    exact ⟨rfl, _, rfl, _, _, _, _, true, rfl, .ty _, .base (.lst (g.at (f46.at hx))), kit_ty (by decide +kernel), _, hD, by rw [List.length_map, List.length_replicate]; exact Nat.lt_trans i3 (by decide), g.upNew f6.2 nD, by rw [upd_same, List.replicate_succ', List.map_append]; rfl⟩
  refine ⟨D, List.replicate 3 true, rfl, SqL.of hD, true, rfl, iteF ?_⟩
  have hsa7 := g.at (f6.at e4)
  refine ⟨_, rfl, _, _, _, _, true, rfl, .ty _, .base (.lst hsa7), kit_ty (by decide +kernel), true, rfl, iteF ?_⟩
  -- what is told is written over
  have f37 := f46.trans g
  have hua7 := f37.at e0
  have nE : ∀ e ∈ [q1, q2, q3, sa], H2 e = none := by
    intro e m
    simp only [List.mem_cons, List.not_mem_nil, or_false] at m
    rcases m with rfl | rfl | rfl | rfl
    · exact z1
    · exact z2
    · exact z3
    · exact f3.3 _ z4
  have e3q : ∀ q ∈ [q1, q2, q3], q ∈ [q1, q2, q3, sa] := fun q m => by
    simp only [List.mem_cons, List.not_mem_nil, or_false] at m ⊢
    rcases m with m | m | m
    · exact .inl m
    · exact .inr (.inl m)
    · exact .inr (.inr (.inl m))
  have uaE : ua ∉ [q1, q2, q3, sa] := by
    intro m
    simp only [List.mem_cons, List.not_mem_nil, or_false] at m
    rcases m with z | z | z | z
    · rw [z, e1] at e0; cases e0
    · rw [z, e2] at e0; cases e0
    · rw [z, e3] at e0; cases e0
    · rw [z, z4] at e0; cases e0
  refine ⟨_, rfl, ua, rfl, ⟨_, .inl (.inl hua7)⟩, ?_⟩
  refine for_tup (xs := [.ref q1, .ref q2, .ref q3]) (fun j σ H' => ∃ y8, σ = [some (V.str x), some v, some (.ref lt), some (.ref hd), some (.ref ua), some (.ref sa), some u2, some sd, y8] ∧ Fr K [q1, q2, q3, sa] H7 H' ∧ (∀ q ∈ [q1, q2, q3], ∃ xs : List V, H' q = some (.lst xs) ∧ xs.length ≤ 200 + j) ∧ H' sa = some (.lst sxs))
    ⟨_, rfl, Fr.refl g.2, fun q m => by obtain ⟨xs, hx, hl, _⟩ := lists q m; exact ⟨xs, f37.at hx, hl⟩, hsa7⟩ (fun j σ H' _ ⟨_, _, f, _⟩ => .inl (.inl (f.at hua7 (m := uaE)))) (fun j y σ H' hy ⟨y8, es, f, hq, hs⟩ => ?_) (fun σ H' ⟨y8, es, f, hq, hs⟩ => ?_)
  · subst es
    obtain ⟨i3, q, mq, rfl⟩ := three j y hy
    obtain ⟨xs, hx, hxl⟩ := hq q mq
    obtain ⟨_, hx3, _, _⟩ := lists q mq
    have qs : sa ≠ q := fun z => by rw [← z, z4] at hx3; cases hx3
    refine ⟨_, rfl, .inl ⟨rfl, _, SqL.of hx⟩, q, xs, .str "a", rfl, rfl, hx, Nat.lt_of_le_of_lt (by omega : _ ≤ 1000) (by decide), _, rfl, f.trans (Fr.put f.2 hx (by intro _ z; cases z) (e3q q mq)), fun r mr => ?_, by rw [upd_ne qs]; exact hs⟩
    by_cases hrq : r = q
    · rw [hrq]
      exact ⟨_, upd_same, by rw [List.length_append, List.length_singleton]; omega⟩
    · obtain ⟨xr, hxr, hxrl⟩ := hq r mr
      exact ⟨xr, by rw [upd_ne hrq]; exact hxr, by omega⟩
  subst es
  refine ⟨_, rfl, .inl ⟨rfl, _, SqL.of hs⟩, sa, sxs, .int 9, rfl, rfl, hs, Nat.lt_of_le_of_lt (by omega : _ ≤ 1000) (by decide), ?_⟩
  have F9 := f.trans (Fr.put (o' := .lst (sxs ++ [.int 9])) f.2 hs (by intro _ z; cases z) (by simp : sa ∈ [q1, q2, q3, sa]))
  generalize L2.upd H' sa (.lst (sxs ++ [.int 9])) = H9 at F9 ⊢
  have hh9 : LtAt H9 hd L := by
    obtain ⟨p', hh1, hh2⟩ := hhd.ob
    have no : ∀ {r : Addr} {o : HO}, H2 r = some o → r ∉ [q1, q2, q3, sa] := fun h m => by rw [nE _ m] at h; cases h
    exact ⟨p', F9.at ((f3.trans f37).at hh1) (m := no hh1), F9.at ((f3.trans f37).at hh2) (m := no hh2)⟩
  have E4 : ∀ e ∈ [q1, q2, q3, sa], e ∈ ([] : List Addr) ∨ H4 e ≠ none := by
    intro e m
    refine .inr ?_
    simp only [List.mem_cons, List.not_mem_nil, or_false] at m
    rcases m with rfl | rfl | rfl | rfl
    · rw [f4.at e1]; simp
    · rw [f4.at e2]; simp
    · rw [f4.at e3]; simp
    · rw [e4]; simp
  have due9 : Tr H9 u2 (dS S.fs ms S.rs) := ND.tr (Tr.same (nu_fr F9 E4) (Tr.same (nu_fr g (fun _ m => nomatch m)) nd6))
  have acts9 : Tr H9 sd (dA S.acts) := ND.tr (Tr.same (nu_fr F9 E4) (Tr.same (nu_fr g (fun _ m => nomatch m)) nd6s))
  have FH9 : Fr K [] H H9 := (((G2.trans f3).trans f37).nil.trans F9).drop fun e m => G2.3 _ (nE e m)
  refine ⟨_, rfl, _, rfl, x, hd, os, W, L, rfl, ht, hh9, hl, F9.2, fun H10 u' ms' f10 pm' so' nd10 => ?_⟩
  rw [hS] at pm' nd10
  obtain rfl : ms' = ms := SkX.ord_unique (pm'.trans pm.symm) so' so
  refine ⟨_, rfl, _, _, (ND.tr nd10).dp, (tr_fr f10 due9).dp, shp cS, shp cS, _, rfl, iteB rS ?_⟩
  refine ⟨_, rfl, _, rfl, x, hd, os, W, L, rfl, ht, hh9.fr f10, hl, f10.2, fun H11 a' f11 nd11 => ?_⟩
  rw [hS] at nd11
  have fin : Q (.bl (PyData.eqv (dA S.acts) (dA S.acts))) H11 := by rw [rA]; exact kk H11 ((FH9.trans f10).trans f11)
  exact ⟨_, rfl, _, _, (ND.tr nd11).dp, (tr_fr (f10.trans f11) acts9).dp, shp cA, shp cA, fin⟩
end
end So
end

section
set_option Elab.async false
set_option linter.all false
set_option maxRecDepth 100000
set_option maxHeartbeats 4000000
namespace So
open PySem PySem.Spec PyProof.Rows L2 GxA TL
open GxR (TabB TabG Tabbed)
def CL (d : PyData) (n : Nat) : Prop := PyData.canLay0 d = true ∧ PyData.depth d ≤ n
theorem CL.s {x : Str} {n : Nat} (h : PyData.strOk x = true) : CL (.str x) n := ⟨h, Nat.zero_le _⟩
theorem CL.all : ∀ {ds : List PyData} {n : Nat}, (∀ d ∈ ds, CL d n) → PyData.canLayAll0 ds = true ∧ PyData.depthAll ds ≤ n
  | [], n, _ => ⟨rfl, Nat.zero_le _⟩
  | d :: ds, n, h => by
    obtain ⟨a1, a2⟩ := h d List.mem_cons_self
    obtain ⟨b1, b2⟩ := CL.all fun x m => h x (List.mem_cons_of_mem _ m)
    refine ⟨?_, ?_⟩
    · show (PyData.canLay0 d && PyData.canLayAll0 ds) = true
      rw [a1, b1]; rfl
    · show max (PyData.depth d) (PyData.depthAll ds) ≤ n
      omega
theorem CL.t {ds : List PyData} {n : Nat} (h : ∀ d ∈ ds, CL d n) : CL (.tuple ds) (n + 1) := ⟨(CL.all h).1, by show PyData.depthAll ds + 1 ≤ n + 1; have := (CL.all h).2; omega⟩
theorem CL.l {ds : List PyData} {n : Nat} (h : ∀ d ∈ ds, CL d n) : CL (.list ds) (n + 1) := ⟨(CL.all h).1, by show PyData.depthAll ds + 1 ≤ n + 1; have := (CL.all h).2; omega⟩
theorem CL.up {d : PyData} {n m : Nat} (h : CL d n) (e : n ≤ m) : CL d m := ⟨h.1, Nat.le_trans h.2 e⟩
theorem cl1 {a : PyData} {n : Nat} (ha : CL a n) : ∀ d ∈ [a], CL d n := fun d m => by rw [List.mem_singleton.mp m]; exact ha
theorem cl2 {a b : PyData} {n : Nat} (ha : CL a n) (hb : CL b n) : ∀ d ∈ [a, b], CL d n := fun d m => by
  rcases List.mem_cons.mp m with rfl | m
  · exact ha
  · exact cl1 hb d m
theorem cl3 {a b c : PyData} {n : Nat} (ha : CL a n) (hb : CL b n) (hc : CL c n) : ∀ d ∈ [a, b, c], CL d n := fun d m => by
  rcases List.mem_cons.mp m with rfl | m
  · exact ha
  · exact cl2 hb hc d m
theorem cl_l {W : List Str} : ∀ (c : Cnd) (l : Nat), c.wf W l → CL c.l (2 * c.hl + 1) := by
  have k1 : ∀ k ∈ kinds1, PyData.strOk k = true := by decide +kernel
  have kn : ∀ n ∈ nums, PyData.strOk (numS n) = true := by decide +kernel
  intro c
  induction c with
  | any => intro l _; exact CL.t (cl1 (CL.s (by decide +kernel)))
  | fact k n => intro l h; exact CL.t (cl2 (CL.s (k1 k h.1)) (CL.s h.2.1.ok))
  | pair a b => intro l h; exact CL.t (cl3 (CL.s (by decide +kernel)) (CL.s h.1.ok) (CL.s h.2.1.ok))
  | over n => intro l h; exact CL.t (cl2 (CL.s (by decide +kernel)) (CL.s (kn n h)))
  | neg c ih => intro l h; exact (CL.t (cl2 (CL.s (by decide +kernel)) (ih 0 h))).up (by show _ ≤ 2 * (c.hl + 1) + 1; omega)
  | par c ih => intro l h; exact (CL.t (cl2 (CL.s (by decide +kernel)) (ih 2 h))).up (by show _ ≤ 2 * (c.hl + 1) + 1; omega)
  | and2 a b iha ihb =>
    intro l h
    have e : (Cnd.and2 a b).hl = max a.hl b.hl + 1 := rfl
    exact (CL.t (cl2 (CL.s (by decide +kernel)) (CL.l (cl2 ((iha 0 h.2.1).up (m := 2 * max a.hl b.hl + 1) (by omega)) ((ihb 0 h.2.2).up (by omega)))))).up (by omega)
  | and3 a b c iha ihb ihc =>
    intro l h
    have e : (Cnd.and3 a b c).hl = max a.hl (max b.hl c.hl) + 1 := rfl
    exact (CL.t (cl2 (CL.s (by decide +kernel)) (CL.l (cl3 ((iha 0 h.2.1).up (m := 2 * max a.hl (max b.hl c.hl) + 1) (by omega)) ((ihb 0 h.2.2.1).up (by omega)) ((ihc 0 h.2.2.2).up (by omega)))))).up (by omega)
  | or2 a b iha ihb =>
    intro l h
    have e : (Cnd.or2 a b).hl = max a.hl b.hl + 1 := rfl
    exact (CL.t (cl2 (CL.s (by decide +kernel)) (CL.l (cl2 ((iha 1 h.2.1).up (m := 2 * max a.hl b.hl + 1) (by omega)) ((ihb 1 h.2.2).up (by omega)))))).up (by omega)
theorem cl_d {d : Deed} (h : dWf d) : CL (dL d) 1 := by
  have k1 : ∀ k ∈ kindsD, PyData.strOk k = true := by decide +kernel
  unfold dL
  split
  · exact CL.t (cl1 (CL.s (by decide +kernel)))
  · rename_i hs
    rcases h with z | z
    · rw [z] at hs; exact absurd rfl hs
    · exact CL.t (cl2 (CL.s (k1 _ z.1)) (CL.s z.2.ok))
theorem cl_r {W : List Str} {r : RuleD} (h : RWf W r) : CL (ruleL r) 24 := by
  obtain ⟨w1, w2, w3, w4, w5, w6, w7, w8⟩ := h
  have := hl_le r.1
  refine CL.t (n := 23) (cl2 ((cl_l r.1 2 w1).up (by omega)) ((CL.l (n := 1) fun d m => ?_).up (by decide)))
  obtain ⟨x, hx, rfl⟩ := List.mem_map.mp m
  exact cl_d (w6 x hx)
theorem cl_rs {W : List Str} {rs : List RuleD} (h : ∀ r ∈ rs, RWf W r) : CL (.list (rs.map ruleL)) 25 := CL.l (n := 24) fun d m => by
  obtain ⟨x, hx, rfl⟩ := List.mem_map.mp m
  exact cl_r (h x hx)
end So
end

section
set_option Elab.async false
set_option linter.all false
set_option maxRecDepth 100000
set_option maxHeartbeats 4000000
namespace So
open PySem PySem.Spec PyProof.Rows L2 GxA TL
open GxR (TabB TabG Tabbed)
theorem Paired.app2 {α β : Type} {F : α → β → Prop} {a c : List α} {b d : List β} (h : Paired F a b) (g : Paired F c d) : Paired F (a ++ c) (b ++ d) := by
  induction h with
  | nil => exact g
  | cons x _ ih => exact .cons x ih
theorem rows_ok {W : List Str} : ∀ {rs : List RuleD}, (∀ r ∈ rs, RWf W r) → Paired (RowOk W) (rs.map rowT) (rs.map some)
  | [], _ => .nil
  | r :: rs, h => .cons (rowT_ok (h r List.mem_cons_self)) (rows_ok fun x m => h x (List.mem_cons_of_mem _ m))
def osOf (rs : List RuleD) (i : Nat) : List (Option RuleD) := (rs.take i).map some ++ [none] ++ (rs.drop i).map some
def rowsOf (rs : List RuleD) (i : Nat) (x : Str) : List Str := (rs.map rowT).take i ++ [x] ++ (rs.map rowT).drop i
theorem fm_some (rs : List RuleD) : (rs.map some).filterMap id = rs := by
  induction rs with
  | nil => rfl
  | cons r rs ih => show r :: (rs.map some).filterMap id = _; rw [ih]
theorem os_rs (rs : List RuleD) (i : Nat) : (osOf rs i).filterMap id = rs := by
  unfold osOf
  rw [List.filterMap_append, List.filterMap_append, fm_some, fm_some]
  show rs.take i ++ [] ++ rs.drop i = rs
  rw [List.append_nil, List.take_append_drop]
theorem rows_paired {W : List Str} {rs : List RuleD} {i : Nat} {x : Str} (h : ∀ r ∈ rs, RWf W r) (hx : x ∈ idleRows) : Paired (RowOk W) (rowsOf rs i x) (osOf rs i) := by
  unfold rowsOf osOf
  refine Paired.app2 (Paired.app2 ?_ (.cons (idle_ok x hx).1 .nil)) ?_
  · rw [← List.map_take]; exact rows_ok fun r m => h r (List.mem_of_mem_take m)
  · rw [← List.map_drop]; exact rows_ok fun r m => h r (List.mem_of_mem_drop m)
theorem rows_mem {rs : List RuleD} {i : Nat} {x y : Str} (h : y ∈ rowsOf rs i x) : y = x ∨ ∃ r ∈ rs, y = rowT r := by
  rcases List.mem_append.mp h with h | h
  · rcases List.mem_append.mp h with h | h
    · obtain ⟨r, hr, rfl⟩ := List.mem_map.mp (List.mem_of_mem_take h)
      exact .inr ⟨r, hr, rfl⟩
    · exact .inl (List.mem_singleton.mp h)
  · obtain ⟨r, hr, rfl⟩ := List.mem_map.mp (List.mem_of_mem_drop h)
    exact .inr ⟨r, hr, rfl⟩
theorem rows_len {W : List Str} {rs : List RuleD} {i : Nat} {x : Str} (h : ∀ r ∈ rs, RWf W r) (hx : x ∈ idleRows) : ∀ y ∈ rowsOf rs i x, y.length ≤ 1000 ∧ 10 ∉ tl y := by
  intro y m
  rcases rows_mem m with rfl | ⟨r, hr, rfl⟩
  · exact (idle_ok (W := W) _ hx).2
  · exact ⟨Nat.le_trans (rowT_len (h r hr)) (by decide), rowT_nl (h r hr)⟩
theorem rows_n (rs : List RuleD) (i : Nat) (x : Str) : (rowsOf rs i x).length = rs.length + 1 := by
  unfold rowsOf
  rw [List.length_append, List.length_append, List.length_take, List.length_drop, List.length_map, List.length_singleton]
  omega
theorem nlS : tl ("\n" : Str) = [10] := by decide +kernel
theorem nlK : ("\n" : Str).cps.all (· < 256) = true := by decide +kernel
theorem nlL : ("\n" : Str).length = 1 := by decide +kernel
theorem rows_txt {W : List Str} {rs : List RuleD} {i : Nat} {x : Str} (h : ∀ r ∈ rs, RWf W r) (hx : x ∈ idleRows) (hl : rs.length ≤ 10) (hW : W.length ≤ 4) : TxtOk (Txt.join "\n" (rowsOf rs i x)) (osOf rs i) W := by
  have hn := rows_n rs i x
  have hlen := rows_len (i := i) h hx
  refine ⟨⟨rowsOf rs i x, split_join nlS nlK (fun z => by rw [z] at hn; cases hn) fun p m => (hlen p m).2, rows_paired h hx, fun r m => (hlen r m).1, by omega⟩, ?_, hW⟩
  rw [join_eq]
  have h1 := StrLaws.join_length_le "\n" (rowsOf rs i x)
  have h2 := sum_le (n := 1000) fun y m => (hlen y m).1
  rw [nlL] at h1
  exact Nat.le_trans (by omega : _ ≤ 100000) (by decide)
end So
end

section
set_option Elab.async false
set_option linter.all false
set_option maxRecDepth 100000
set_option maxHeartbeats 4000000
namespace So
open PySem PySem.Spec PyProof.Rows L2 GxA TL
open GxR (TabB TabG Tabbed)
theorem cut_ints (ns : List Int) (a b : Option Int) : ∃ ms : List Int, cutV (ns.map V.int) a b = ms.map V.int := ⟨_, by unfold cutV; rw [← List.map_drop, ← List.map_take]⟩
section
variable {P : Program} {w : World} {K : PySem.W.Frag} {mg : Str → Option Value} {base : Heap}
def spLaw (K : PySem.W.Frag) : Sp := fun vs H Q _ => ∃ (a : Addr) (ns : List Int), vs = [.ref a] ∧ SqL K H a (ns.map V.int) ∧ ns.length ≤ sizeLine ∧ Tb K H ∧ ∀ H', Q (.bl true) H'
theorem mkOk {x qual : Str} {st : Stmt} {N ps : List Str} {k : Nat} {sp : Sp} {f : Addr} (F : FD K x qual st f) (S : FnScope N ps (defScope st))
    (hb : ∀ (kV doc pm : Value) (an : Option Addr) (cdv ct : Value) (us : List Value), us.length = ps.length → bindArgs (PySem.W.fnOf x qual (defArgs st) (defBody st) (defScope st) .none kV doc pm an cdv ct) ⟨us, []⟩ = pure (ps.zip us))
    (len : ∀ vs H Q E, sp vs H Q E → vs.length = ps.length)
    (hbody : ∀ (cdv : Value) (A : Around) (outer : List Env) (s : Shared) (H : Hp) (vs : List V) (Q : VK) (E : XK), Room k (A.deeper (envOfC qual (defScope st) s.heap.objs.size f cdv)) → sp vs H Q E →
      ∃ t, PSs (cxOf CX0 P w K mg base N qual (defScope st) f cdv A outer s H E) (defBody st) t ∧ t { nx := fun _ H' => Q .non H', rt := Q } (start N vs) H) : ∃ fd, FunD K x qual (defArgs st) (defBody st) (defScope st) [] [] f fd ∧ FnOk P w K mg base CX0 (k + 1) f fd ps sp ∧ Binds K fd ps [] := by
  obtain ⟨fd, F⟩ := F
  exact ⟨fd, F, F.ok S len hbody, F.bindsN hb⟩
theorem R_law (T : Txt w K mg base) (zm : mg "max" = none) : ∃ fd, FunD K "law" "law" (defArgs s_law) (defBody s_law) (defScope s_law) [] [] (a_law K) fd ∧ FnOk P w K mg base CX0 92 (a_law K) fd ["_law_script"] (spLaw K) ∧ Binds K fd ["_law_script"] [] := by
  refine mkOk T.f_law sc_law bd_law ?_ ?_
  · rintro vs H Q E ⟨a, ns, rfl, _⟩; rfl
  rintro cdv A outer s H vs Q E hr ⟨a, ns, rfl, ha, hns, tb, kk⟩
  have nd := sc_law.nd
  obtain ⟨_, Fs⟩ := T.f_sort
  obtain ⟨_, Fa⟩ := T.f_acting
  obtain ⟨_, Fw⟩ := T.f_law_words
  obtain ⟨_, Fr0⟩ := T.f_law_rules
  obtain ⟨_, Fc⟩ := T.f_law_cell_at
  obtain ⟨_, Ft⟩ := T.f_law_text
  obtain ⟨_, Fl⟩ := T.f_law_letter
  obtain ⟨_, Fg⟩ := T.f_law_sort_right
  refine ⟨_, PSs.nox <| pss_cons (ps_set (i := 0) nd rfl (.inl rfl) (pe_slice sl_list (pv 0) po_none (po_some pe_int)))
    (pss_cons (ps_set (i := 1) nd rfl (.inl rfl) (pe_cF (R_words T) (hr.mono (by decide)) (by rfl) T.g_law_words Fw.kp (pa_cons (pv 0) (pa_cons pe_int pa_nil))))
    (pss_cons (ps_set (i := 2) nd rfl (.inl rfl) (pe_tup (pa_cons pe_str (pa_cons pe_str (pa_cons pe_str (pa_cons pe_str (pa_cons pe_str (pa_cons pe_str (pa_cons pe_str (pa_cons pe_str (pa_cons pe_str pa_nil)))))))))))
    (pss_cons (ps_for PassesOwn.never rfl (pi_range2 (by rfl) T.z_range (pa_cons pe_int (pa_cons (pe_callB (call_max2 rfl) (by rfl) zm (by decide +kernel) (pa_cons pe_int (pa_cons (pe_callB (call_min2 rfl) (by rfl) T.z_min (by decide +kernel) (pa_cons pe_int (pa_cons (pe_callB call_len_seq (by rfl) T.z_len PySem.boot_len (pa_cons (pv 0) pa_nil)) pa_nil))) pa_nil))) pa_nil))) (pg_name (i := 3) nd rfl (.inl rfl))
      (pss_cons (ps_set (i := 4) nd rfl (.inl rfl) (pe_cF (R_rules T) (hr.mono (by decide)) (by rfl) T.g_law_rules Fr0.kp (pa_cons (pv 0) (pa_cons (pv 3) (pa_cons (pv 1) (pa_cons (pe_op op_mod (pe_cF (R_cell_at T) (hr.mono (by decide)) (by rfl) T.g_law_cell_at Fc.kp (pa_cons (pv 0) (pa_cons (pv 3) pa_nil))) pe_int) (pa_cons (pv 2) pa_nil)))))))
      (pss_cons (ps_set (i := 5) nd rfl (.inl rfl) (pe_ifExp (pt_cmpR (op_neD hr.units) (pv 4) (pe_lst pa_nil) (nomark _)) (pe_split (pe_cF (R_text T) (hr.mono (by decide)) (by rfl) T.g_law_text Ft.kp (pa_cons (pv 4) pa_nil)) pe_str) (pe_lst pa_nil)))
      (pss_cons (ps_set (i := 6) nd rfl (.inl rfl) (pe_cF (R_cell_at T) (hr.mono (by decide)) (by rfl) T.g_law_cell_at Fc.kp (pa_cons (pv 0) (pa_cons (pv 3) pa_nil))))
      (pss_cons (ps_expr (pe_bm PySem.F.plainAttrs_list PySem.F.slot_list_insert PySem.F.type_list_insert mt_insert (pv 5) (pa_cons (pe_op op_mod (pv 6) (pe_op op_add (pe_callB call_len_seq (by rfl) T.z_len PySem.boot_len (pa_cons (pv 5) pa_nil)) pe_int)) (pa_cons (pe_ix ix_tup (pe_tup (pa_cons pe_str (pa_cons pe_str (pa_cons pe_str (pa_cons pe_str pa_nil))))) (pe_op op_mod (pv 6) pe_int) (fun _ _ => rfl)) pa_nil))))
      (pss_one (ps_for PassesOwn.never rfl (pi_range1 (by rfl) T.z_range (pa_cons pe_int pa_nil)) (pg_name (i := 6) nd rfl (.inl rfl))
        (pss_one (ps_if (pt_not (pt_val (pe_cF (R_right T) (hr.mono (by decide)) (by rfl) T.g_law_sort_right Fg.kp (pa_cons (pe_join pe_str (pv 5)) (pa_cons (pv 4) (pa_cons (pe_cF (R_letter T) (hr.mono (by decide)) (by rfl) T.g_law_letter Fl.kp (pa_cons (pv 0) (pa_cons (pe_op op_add (pv 3) (pv 6)) (pa_cons (pv 1) pa_nil)))) pa_nil))))))
          (pss_one (ps_ret pe_bl)) pss_nil)))))))))
    (pss_one (ps_ret (pe_and (pe_cmpR (op_eqD hr.units) (pe_cF (R_sort T) (hr.mono (by decide)) (by rfl) T.g_sort Fs.kp (pa_cons pe_str (pa_cons (pe_tup (pa_cons pe_str (pa_cons (pe_lst pa_nil) (pa_cons pe_int pa_nil)))) pa_nil))) (pe_tup (pa_cons (pe_lst pa_nil) (pa_cons (pe_lst pa_nil) (pa_cons (pe_lst pa_nil) pa_nil)))) (nomark _))
      (pe_one (pe_cmpR (op_eqD hr.units) (pe_cF (R_acting T) (hr.mono (by decide)) (by rfl) T.g_acting Fa.kp (pa_cons pe_str (pa_cons (pe_tup (pa_cons pe_str (pa_cons (pe_lst pa_nil) (pa_cons pe_int pa_nil)))) pa_nil))) (pe_lst (pa_cons pe_int pa_nil)) (nomark _))))))))), ?_⟩
  refine ⟨_, rfl, 63, rfl, a, _, rfl, ha, fun S nS => ?_⟩
  obtain ⟨ms, ems⟩ := cut_ints ns none (some 63)
  rw [ems]
  have g1 := Fr.new (E := []) (o := .lst (ms.map V.int)) tb nS
  refine ⟨_, rfl, S, ms, rfl, SqL.of upd_same, g1.2, fun H2 Dw ws f2 nDw hDw hwl hwn => ?_⟩
  refine ⟨by show 9 ≤ sizeLine; decide, fun Dk nDk => ?_⟩
  have g3 := Fr.new (E := []) (o := (.tup [V.str ("has" : Str), V.str ("has" : Str), V.str ("first" : Str), V.str ("last" : Str), V.str ("pair" : Str), V.str ("from" : Str), V.str ("over" : Str), V.str ("marked" : Str), V.str ("any" : Str)])) f2.2 nDk
  have hS3 := (f2.trans g3).at (upd_same (H := H) (a := S) (o := .lst (ms.map V.int)))
  have hw3 : Wds _ Dw ws := ⟨g3.at hDw, hwl, hwn⟩
  have hk3 : (L2.upd H2 Dk (.tup [V.str ("has" : Str), V.str ("has" : Str), V.str ("first" : Str), V.str ("last" : Str), V.str ("pair" : Str), V.str ("from" : Str), V.str ("over" : Str), V.str ("marked" : Str), V.str ("any" : Str)])) Dk = some (.tup (kindsL.map V.str)) := upd_same
  have T3 := g3.2
  generalize L2.upd H2 Dk (.tup [V.str ("has" : Str), V.str ("has" : Str), V.str ("first" : Str), V.str ("last" : Str), V.str ("pair" : Str), V.str ("from" : Str), V.str ("over" : Str), V.str ("marked" : Str), V.str ("any" : Str)]) = H3 at hS3 hw3 hk3 T3 ⊢
  have z0 : 0 ≤ sizeLine := Nat.zero_le _
  have w3 : ∀ (x : Str), x ∈ ws.take 3 → Nm x := fun x m => hwn x (List.mem_of_mem_take m)
  have w4 : (ws.take 3).length ≤ 4 := by rw [List.length_take]; omega
  refine ⟨_, rfl, S, _, rfl, .inl (SqL.of hS3), _, _, rfl, _, _, rfl, _, _, rfl, ⟨by decide, by decide, ?_, ?_⟩, ?_⟩
  · split <;> (try split) <;> omega
  · split <;> (try split) <;> omega
  refine for_range (lo := 1) (fun i σ H' => ∃ y3 y4 y5 y6 : Option V, σ = [some (V.ref S), some (.ref Dw), some (.ref Dk), y3, y4, y5, y6] ∧ Fr K [] H3 H') ⟨_, _, _, _, rfl, Fr.refl T3⟩ (fun i σ H' hi ⟨y3, y4, y5, y6, es, f⟩ => ?_) (fun σ H' ⟨y3, y4, y5, y6, es, f⟩ => ?_)
  · subst es
    have e0 : (1 + (i : Int)) = ((1 + i : Nat) : Int) := by omega
    refine ⟨_, rfl, _, rfl, _, rfl, _, rfl, _, rfl, S, ms, 1 + i, (by show [V.ref S, V.int (1 + (i : Int))] = _; rw [e0]), SqL.of (f.at hS3), f.2, fun H4 x f4 x0 => ?_⟩
    obtain ⟨n, en, bn⟩ := ixm x 7 (by decide)
    have G4 := f.trans f4
    refine ⟨x, 7, rfl, rfl, (by show (0 : Int) < 7; decide), _, rfl, S, ms, 1 + i, Dw, Dk, ws, n, (by show [V.ref S, V.int (1 + (i : Int)), V.ref Dw, V.int (x % 7), V.ref Dk] = _; rw [e0, en]), SqL.of (G4.at hS3), hw3.fr G4, G4.at hk3, by omega, G4.2, fun H5 v rs f5 hrl hwf hnd => ?_⟩
    have G5 := G4.trans f5
    have hv5 : Tr H5 v (.list (rs.map ruleL)) := ND.tr hnd
    have cl := cl_rs hwf
    have key : ∀ R : V → Hp → Prop, (∀ (Dr : Addr) (Hr : Hp), Fr K [] H5 Hr → H5 Dr = none → Hr Dr = some (.lst ((rs.map rowT).map V.str)) → R (.ref Dr) Hr) →
        tIf (tTest (tOp (rNeD K) (tVar 4) (tLst tNil))) (tM1 (fun x xs H Q => ∃ a b, x = .str a ∧ xs = [.str b] ∧ (b.length == 0) = false ∧ a.length + 2 ≤ sizeLine ∧ rNewStrs (Txt.split a b) H Q) (tCF (spText K) (tCons (tVar 4) tNil)) (tC (.str "\n"))) (tLst tNil)
          [some (V.ref S), some (.ref Dw), some (.ref Dk), some (.int (1 + (i : Int))), some v, y5, y6] H5 R := by
      intro R hR
      refine ⟨_, rfl, z0, fun q nq => ?_⟩
      have g6 := Fr.new (E := []) (o := .lst []) G5.2 nq
      refine ⟨_, _, (tr_fr g6 hv5).dp, Dp.lst (SqL.of upd_same) .nil, shp cl, rfl, _, rfl, ?_⟩
      cases rs with
      | nil =>
        refine iteNB rfl ⟨z0, fun Dr nr => ?_⟩
        exact hR Dr _ (g6.trans (Fr.new g6.2 nr)) (g6.3 _ nr) upd_same
      | cons r rs =>
        refine iteB rfl ⟨_, rfl, v, r :: rs, ws.take 3, rfl, tr_fr g6 hv5, hwf, by omega, g6.2, fun H6 f6 => ?_⟩
        have hs : Txt.split (Txt.join "\n" ((r :: rs).map rowT)) "\n" = (r :: rs).map rowT := split_join nlS nlK (by simp) fun p m => by
          obtain ⟨r', hr', rfl⟩ := List.mem_map.mp m
          exact rowT_nl (hwf r' hr')
        refine ⟨⟨_, rfl⟩, _, _, rfl, rfl, by decide +kernel, ?_, fun Dr nr => ?_⟩
        · rw [join_eq]
          have h1 := StrLaws.join_length_le "\n" ((r :: rs).map rowT)
          have h2 := sum_le (l := (r :: rs).map rowT) (n := 660) fun y m => by
            obtain ⟨r', hr', rfl⟩ := List.mem_map.mp m
            exact rowT_len (hwf r' hr')
          rw [nlL] at h1
          rw [List.length_map] at h1 h2
          exact Nat.le_trans (by omega : _ ≤ 100000) (by decide)
        · have G := g6.trans f6
          exact hR Dr _ (G.trans (Fr.new G.2 nr)) (G.3 _ nr) (by rw [hs]; exact upd_same)
    refine key _ fun Dr Hr fr nDr hDr => ?_
    have Gr := G5.trans fr
    refine ⟨_, rfl, _, rfl, S, ms, 1 + i, (by show [V.ref S, V.int (1 + (i : Int))] = _; rw [e0]), SqL.of (Gr.at hS3), Gr.2, fun H7 y f7 y0 => ?_⟩
    have G7 := Gr.trans f7
    have hD7 := f7.at hDr
    obtain ⟨k, ek, bk⟩ := ixm y ((rs.length : Int) + 1) (by omega)
    obtain ⟨k4, ek4, bk4⟩ := ixm y 4 (by decide)
    refine ⟨_, rfl, .inl ⟨rfl, _, SqL.of hD7⟩, _, rfl, _, rfl, Dr, _, rfl, .inl (SqL.of hD7), _, 1, rfl, rfl, y, _, rfl, rfl, ?_, ?_⟩
    · show (0 : Int) < (((rs.map rowT).map V.str).length : Int) + 1
      omega
    have hlen : ((rs.map rowT).map V.str).length = rs.length := by rw [List.length_map, List.length_map]
    refine ⟨by show 4 ≤ sizeLine; decide, fun t nt => ?_⟩
    have g8 := Fr.new (E := []) (o := (.tup [V.str ("" : Str), V.str ("# if any then stop" : Str), V.str ("   " : Str), V.str ("#" : Str)])) G7.2 nt
    have hD8 := g8.at hD7
    have k4l : k4 < idleRows.length := by show k4 < 4; omega
    have him : idleRows[k4] ∈ idleRows := List.getElem_mem k4l
    refine ⟨_, rfl, y, 4, rfl, rfl, (by show (0 : Int) < 4; decide), t, _, _, V.str idleRows[k4], rfl, rfl, .inl (.inl upd_same), ?_, ?_⟩
    · show atI (idleRows.map V.str) (y % 4) = _
      rw [ek4]
      exact atI_nat (by rw [List.getElem?_map, List.getElem?_eq_getElem k4l]; rfl)
    refine ⟨Dr, (rs.map rowT).map V.str, (k : Int), .str idleRows[k4], rfl, (by show [V.int (y % ((((rs.map rowT).map V.str).length : Int) + 1)), V.str idleRows[k4]] = _; rw [hlen, ek]), hD8, by rw [hlen]; exact Nat.lt_of_le_of_lt (by omega : _ ≤ 1000) (by decide), by omega, by omega, ?_⟩
    have e9 : ((rs.map rowT).map V.str).take ((k : Int).toNat) ++ [V.str idleRows[k4]] ++ ((rs.map rowT).map V.str).drop ((k : Int).toNat) = (rowsOf rs k idleRows[k4]).map V.str := by
      unfold rowsOf
      rw [List.map_append, List.map_append, List.map_take, List.map_drop]
      rfl
    rw [e9]
    have F9 := (G7.trans g8).upNew (D := Dr) (o := .lst ((rowsOf rs k idleRows[k4]).map V.str)) T3 (G5.3 _ nDr)
    have f59 := ((fr.trans f7).trans g8).upNew (D := Dr) (o := .lst ((rowsOf rs k idleRows[k4]).map V.str)) G5.2 nDr
    have hD9 : (L2.upd (L2.upd H7 t (.tup [V.str ("" : Str), V.str ("# if any then stop" : Str), V.str ("   " : Str), V.str ("#" : Str)])) Dr (.lst ((rowsOf rs k idleRows[k4]).map V.str))) Dr = some (.lst ((rowsOf rs k idleRows[k4]).map V.str)) := upd_same
    generalize L2.upd (L2.upd H7 t (.tup [V.str ("" : Str), V.str ("# if any then stop" : Str), V.str ("   " : Str), V.str ("#" : Str)])) Dr (.lst ((rowsOf rs k idleRows[k4]).map V.str)) = H9 at F9 f59 hD9 ⊢
    have hv9 := tr_fr f59 hv5
    have tx := rows_txt (i := k) hwf him (by omega) w4
    have rl := rows_len (i := k) hwf him
    have rn := rows_n rs k idleRows[k4]
    refine ⟨6, rfl, by decide, by decide, ?_⟩
    refine for_range (lo := 0) (n := (6 : Int).toNat) (fun j σ H' => ∃ y6 : Option V, σ = [some (V.ref S), some (.ref Dw), some (.ref Dk), some (.int (1 + (i : Int))), some v, some (.ref Dr), y6] ∧ Fr K [] H9 H') ⟨_, rfl, Fr.refl F9.2⟩ (fun j σ H' hj ⟨y6, es, g⟩ => ?_) (fun σ H' ⟨y6, es, g⟩ => ?_)
    · subst es
      have e1 : (1 + (i : Int)) + (0 + (j : Int)) = ((1 + i + j : Nat) : Int) := by omega
      refine ⟨⟨_, rfl⟩, _, rfl, "\n", Dr, rowsOf rs k idleRows[k4], rfl, rfl, .inl (SqL.of (g.at hD9)), ?_, ?_⟩
      · have h2 := sum_le (n := 1000) fun y m => (rl y m).1
        rw [nlL]
        omega
      refine ⟨_, rfl, _, rfl, _, rfl, _, rfl, _, _, rfl, rfl, _, rfl, S, ms, 1 + i + j, Dw, ws, (by show [V.ref S, V.int ((1 + (i : Int)) + (0 + (j : Int))), V.ref Dw] = _; rw [e1]), SqL.of ((F9.trans g).at hS3), hw3.fr (F9.trans g), g.2, fun H10 lt L f10 hlt hlw => ?_⟩
      refine ⟨_, v, lt, osOf rs k, ws.take 3, L, rfl, tx, by rw [os_rs]; exact tr_fr (g.trans f10) hv9, hlt, hlw, by rw [os_rs]; omega, f10.2, fun H11 f11 => ⟨true, rfl, iteF ⟨_, rfl, (g.trans f10).trans f11⟩⟩⟩
    · subst es
      exact ⟨_, _, _, _, rfl, F9.trans g⟩
  · subst es
    -- a letter that no rule speaks of
    have la : LWf ⟨"a", [], 0⟩ := ⟨⟨by decide +kernel, by decide +kernel, by decide +kernel⟩, fun _ m => (nomatch m), by decide, by decide⟩
    have t0 : TxtOk "" [none] [] := ⟨⟨[""], by decide +kernel, .cons (idle_ok "" (by decide +kernel)).1 .nil, by decide +kernel, by decide⟩, by decide +kernel, by decide⟩
    have t1 : TxtOk "if any then stop" [some (.any, [("stop", "")])] [] := ⟨⟨["if any then stop"], by decide +kernel, .cons ⟨by decide +kernel, by decide +kernel, trivial, by decide, by decide, by decide, by decide, fun d m => .inl (List.mem_singleton.mp m), by decide, by decide +kernel⟩ .nil, by decide +kernel, by decide⟩, by decide +kernel, by decide⟩
    have w0 : wayOf ⟨"a", [], 0⟩ [none] = S0 := rfl
    have w1 : (wayOf ⟨"a", [], 0⟩ [some (.any, [("stop", "")])]).acts = [0] := by decide +kernel
    refine ⟨z0, fun p np => ?_⟩
    have g1 := Fr.new (E := []) (o := .lst []) f.2 np
    refine ⟨by show 3 ≤ sizeLine; decide, fun hd nhd => ?_⟩
    have g2 := Fr.new (E := []) (o := .tup [.str "a", .ref p, .int 0]) g1.2 nhd
    refine ⟨_, hd, _, [], ⟨"a", [], 0⟩, rfl, t0, ⟨p, upd_same, g2.at upd_same⟩, la, g2.2, fun Ha u us f3 pm so nd3 => ?_⟩
    rw [w0] at pm nd3
    obtain rfl : us = [] := pm.eq_nil
    refine ⟨z0, fun q1 n1 => ⟨z0, fun q2 n2 => ⟨z0, fun q3 n3 => ⟨by show 3 ≤ sizeLine; decide, fun q4 n4 => ?_⟩⟩⟩⟩
    have h1 := Fr.new (E := []) (o := .lst []) f3.2 n1
    have h2 := Fr.new (E := []) (o := .lst []) h1.2 n2
    have h3 := Fr.new (E := []) (o := .lst []) h2.2 n3
    have h4 := Fr.new (E := []) (o := .tup [.ref q1, .ref q2, .ref q3]) h3.2 n4
    have G := ((h1.trans h2).trans h3).trans h4
    have nil3 : PyData.eqv (dS [] [] []) (dS [] [] []) = true := SeqAt.eqv_refl _ (by rfl)
    have sh3 : SeqAt.shaped (dS [] [] []) = true := by rfl
    refine ⟨_, dS [] [] [], (tr_fr G (ND.tr nd3)).dp, Dp.tup (.inl (.inl upd_same)) (.cons (Dp.lst (SqL.of (((h2.trans h3).trans h4).at upd_same)) .nil) (.cons (Dp.lst (SqL.of ((h3.trans h4).at upd_same)) .nil) (.cons (Dp.lst (SqL.of (h4.at upd_same)) .nil) .nil))), sh3, sh3, _, rfl, iteB nil3 ?_⟩
    refine ⟨z0, fun p' np' => ?_⟩
    have j1 := Fr.new (E := []) (o := .lst []) G.2 np'
    refine ⟨by show 3 ≤ sizeLine; decide, fun hd' nhd' => ?_⟩
    have j2 := Fr.new (E := []) (o := .tup [.str "a", .ref p', .int 0]) j1.2 nhd'
    refine ⟨_, hd', _, [], ⟨"a", [], 0⟩, rfl, t1, ⟨p', upd_same, j2.at upd_same⟩, la, j2.2, fun Hb u' fb ndb => ?_⟩
    rw [w1] at ndb
    refine ⟨by show 1 ≤ sizeLine; decide, fun q5 n5 => ?_⟩
    have j3 := Fr.new (E := []) (o := .lst [.int 0]) fb.2 n5
    have one : PyData.eqv (dA [0]) (dA [0]) = true := SeqAt.eqv_refl _ (by rfl)
    have sh1 : SeqAt.shaped (dA [0]) = true := by rfl
    have fin : Q (.bl (PyData.eqv (dA [0]) (dA [0]))) (L2.upd Hb q5 (.lst [.int 0])) := by rw [one]; exact kk _
    exact ⟨_, dA [0], (tr_fr j3 (ND.tr ndb)).dp, Dp.lst (SqL.of upd_same) (.cons (.int 0) .nil), sh1, sh1, fin⟩
end
end So
end

section
set_option Elab.async false
set_option linter.all false
set_option maxRecDepth 100000
set_option maxHeartbeats 4000000
namespace So
open PySem PySem.Spec PyProof.Rows L2 GxA
open GxR (TabG Tabbed)
/-- what the top has written -/
structure Facts (w : World) (K : PySem.W.Frag) : Prop where
  fr_max : (He.Fa.free "max").ok K = true
  y_is_name : d_is_name.ok K = true
  z_is_name : He.fnW K d_is_name.at_ = d_is_name.val
  g_is_name : (He.Fa.glo "is_name").ok K = true
  y_is_size : d_is_size.ok K = true
  z_is_size : He.fnW K d_is_size.at_ = d_is_size.val
  g_is_size : (He.Fa.glo "is_size").ok K = true
  y_is_letter : d_is_letter.ok K = true
  z_is_letter : He.fnW K d_is_letter.at_ = d_is_letter.val
  g_is_letter : (He.Fa.glo "is_letter").ok K = true
  y_name_key : d_name_key.ok K = true
  z_name_key : He.fnW K d_name_key.at_ = d_name_key.val
  g_name_key : (He.Fa.glo "name_key").ok K = true
  y_in_order : d_in_order.ok K = true
  z_in_order : He.fnW K d_in_order.at_ = d_in_order.val
  g_in_order : (He.Fa.glo "in_order").ok K = true
  y_Rule_init : d_Rule_init.ok K = true
  z_Rule_init : He.fnW K d_Rule_init.at_ = d_Rule_init.val
  y_Reader_init : d_Reader_init.ok K = true
  z_Reader_init : He.fnW K d_Reader_init.at_ = d_Reader_init.val
  y_Reader_fail : d_Reader_fail.ok K = true
  z_Reader_fail : He.fnW K d_Reader_fail.at_ = d_Reader_fail.val
  m_Reader_fail : (He.Fa.meth "Reader" "fail").ok K = true
  y_Reader_peek : d_Reader_peek.ok K = true
  z_Reader_peek : He.fnW K d_Reader_peek.at_ = d_Reader_peek.val
  m_Reader_peek : (He.Fa.meth "Reader" "peek").ok K = true
  y_Reader_take : d_Reader_take.ok K = true
  z_Reader_take : He.fnW K d_Reader_take.at_ = d_Reader_take.val
  m_Reader_take : (He.Fa.meth "Reader" "take").ok K = true
  y_Reader_skip : d_Reader_skip.ok K = true
  z_Reader_skip : He.fnW K d_Reader_skip.at_ = d_Reader_skip.val
  m_Reader_skip : (He.Fa.meth "Reader" "skip").ok K = true
  y_Reader_take_name : d_Reader_take_name.ok K = true
  z_Reader_take_name : He.fnW K d_Reader_take_name.at_ = d_Reader_take_name.val
  m_Reader_take_name : (He.Fa.meth "Reader" "take_name").ok K = true
  y_Reader_take_number : d_Reader_take_number.ok K = true
  z_Reader_take_number : He.fnW K d_Reader_take_number.at_ = d_Reader_take_number.val
  m_Reader_take_number : (He.Fa.meth "Reader" "take_number").ok K = true
  y_Reader_read_rule : d_Reader_read_rule.ok K = true
  z_Reader_read_rule : He.fnW K d_Reader_read_rule.at_ = d_Reader_read_rule.val
  m_Reader_read_rule : (He.Fa.meth "Reader" "read_rule").ok K = true
  y_Reader_read_condition : d_Reader_read_condition.ok K = true
  z_Reader_read_condition : He.fnW K d_Reader_read_condition.at_ = d_Reader_read_condition.val
  m_Reader_read_condition : (He.Fa.meth "Reader" "read_condition").ok K = true
  y_Reader_read_joined : d_Reader_read_joined.ok K = true
  z_Reader_read_joined : He.fnW K d_Reader_read_joined.at_ = d_Reader_read_joined.val
  m_Reader_read_joined : (He.Fa.meth "Reader" "read_joined").ok K = true
  y_Reader_read_single : d_Reader_read_single.ok K = true
  z_Reader_read_single : He.fnW K d_Reader_read_single.at_ = d_Reader_read_single.val
  m_Reader_read_single : (He.Fa.meth "Reader" "read_single").ok K = true
  y_Reader_read_fact : d_Reader_read_fact.ok K = true
  z_Reader_read_fact : He.fnW K d_Reader_read_fact.at_ = d_Reader_read_fact.val
  m_Reader_read_fact : (He.Fa.meth "Reader" "read_fact").ok K = true
  y_Reader_read_deed : d_Reader_read_deed.ok K = true
  z_Reader_read_deed : He.fnW K d_Reader_read_deed.at_ = d_Reader_read_deed.val
  m_Reader_read_deed : (He.Fa.meth "Reader" "read_deed").ok K = true
  y_is_number : d_is_number.ok K = true
  z_is_number : He.fnW K d_is_number.at_ = d_is_number.val
  g_is_number : (He.Fa.glo "is_number").ok K = true
  y_words_of : d_words_of.ok K = true
  z_words_of : He.fnW K d_words_of.at_ = d_words_of.val
  g_words_of : (He.Fa.glo "words_of").ok K = true
  y_rule_of : d_rule_of.ok K = true
  z_rule_of : He.fnW K d_rule_of.at_ = d_rule_of.val
  g_rule_of : (He.Fa.glo "rule_of").ok K = true
  y_read : d_read.ok K = true
  z_read : He.fnW K d_read.at_ = d_read.val
  g_read : (He.Fa.glo "read").ok K = true
  y_check_names : d_check_names.ok K = true
  z_check_names : He.fnW K d_check_names.at_ = d_check_names.val
  g_check_names : (He.Fa.glo "check_names").ok K = true
  y_word_names : d_word_names.ok K = true
  z_word_names : He.fnW K d_word_names.at_ = d_word_names.val
  g_word_names : (He.Fa.glo "word_names").ok K = true
  y_facts_of : d_facts_of.ok K = true
  z_facts_of : He.fnW K d_facts_of.at_ = d_facts_of.val
  g_facts_of : (He.Fa.glo "facts_of").ok K = true
  y_add_facts : d_add_facts.ok K = true
  z_add_facts : He.fnW K d_add_facts.at_ = d_add_facts.val
  g_add_facts : (He.Fa.glo "add_facts").ok K = true
  y_sort : d_sort.ok K = true
  z_sort : He.fnW K d_sort.at_ = d_sort.val
  g_sort : (He.Fa.glo "sort").ok K = true
  y_acting : d_acting.ok K = true
  z_acting : He.fnW K d_acting.at_ = d_acting.val
  g_acting : (He.Fa.glo "acting").ok K = true
  y_check_letter : d_check_letter.ok K = true
  z_check_letter : He.fnW K d_check_letter.at_ = d_check_letter.val
  g_check_letter : (He.Fa.glo "check_letter").ok K = true
  y_way_through : d_way_through.ok K = true
  z_way_through : He.fnW K d_way_through.at_ = d_way_through.val
  g_way_through : (He.Fa.glo "way_through").ok K = true
  y_Way_init : d_Way_init.ok K = true
  z_Way_init : He.fnW K d_Way_init.at_ = d_Way_init.val
  y_Way_outcome : d_Way_outcome.ok K = true
  z_Way_outcome : He.fnW K d_Way_outcome.at_ = d_Way_outcome.val
  m_Way_outcome : (He.Fa.meth "Way" "outcome").ok K = true
  y_Way_act : d_Way_act.ok K = true
  z_Way_act : He.fnW K d_Way_act.at_ = d_Way_act.val
  m_Way_act : (He.Fa.meth "Way" "act").ok K = true
  y_Way_holds : d_Way_holds.ok K = true
  z_Way_holds : He.fnW K d_Way_holds.at_ = d_Way_holds.val
  m_Way_holds : (He.Fa.meth "Way" "holds").ok K = true
  y_Way_fact_holds : d_Way_fact_holds.ok K = true
  z_Way_fact_holds : He.fnW K d_Way_fact_holds.at_ = d_Way_fact_holds.val
  m_Way_fact_holds : (He.Fa.meth "Way" "fact_holds").ok K = true
  y_Way_has_pair : d_Way_has_pair.ok K = true
  z_Way_has_pair : He.fnW K d_Way_has_pair.at_ = d_Way_has_pair.val
  m_Way_has_pair : (He.Fa.meth "Way" "has_pair").ok K = true
  y_law_draw : d_law_draw.ok K = true
  z_law_draw : He.fnW K d_law_draw.at_ = d_law_draw.val
  g_law_draw : (He.Fa.glo "_law_draw").ok K = true
  y_law_cell_at : d_law_cell_at.ok K = true
  z_law_cell_at : He.fnW K d_law_cell_at.at_ = d_law_cell_at.val
  g_law_cell_at : (He.Fa.glo "_law_cell_at").ok K = true
  y_law_digits : d_law_digits.ok K = true
  z_law_digits : He.fnW K d_law_digits.at_ = d_law_digits.val
  g_law_digits : (He.Fa.glo "_law_digits").ok K = true
  y_law_words : d_law_words.ok K = true
  z_law_words : He.fnW K d_law_words.at_ = d_law_words.val
  g_law_words : (He.Fa.glo "_law_words").ok K = true
  y_law_fact : d_law_fact.ok K = true
  z_law_fact : He.fnW K d_law_fact.at_ = d_law_fact.val
  g_law_fact : (He.Fa.glo "_law_fact").ok K = true
  y_law_unit : d_law_unit.ok K = true
  z_law_unit : He.fnW K d_law_unit.at_ = d_law_unit.val
  g_law_unit : (He.Fa.glo "_law_unit").ok K = true
  y_law_condition : d_law_condition.ok K = true
  z_law_condition : He.fnW K d_law_condition.at_ = d_law_condition.val
  g_law_condition : (He.Fa.glo "_law_condition").ok K = true
  y_law_deeds : d_law_deeds.ok K = true
  z_law_deeds : He.fnW K d_law_deeds.at_ = d_law_deeds.val
  g_law_deeds : (He.Fa.glo "_law_deeds").ok K = true
  y_law_rules : d_law_rules.ok K = true
  z_law_rules : He.fnW K d_law_rules.at_ = d_law_rules.val
  g_law_rules : (He.Fa.glo "_law_rules").ok K = true
  y_law_told : d_law_told.ok K = true
  z_law_told : He.fnW K d_law_told.at_ = d_law_told.val
  g_law_told : (He.Fa.glo "_law_told").ok K = true
  y_law_rule_words : d_law_rule_words.ok K = true
  z_law_rule_words : He.fnW K d_law_rule_words.at_ = d_law_rule_words.val
  g_law_rule_words : (He.Fa.glo "_law_rule_words").ok K = true
  y_law_text : d_law_text.ok K = true
  z_law_text : He.fnW K d_law_text.at_ = d_law_text.val
  g_law_text : (He.Fa.glo "_law_text").ok K = true
  y_law_holds : d_law_holds.ok K = true
  z_law_holds : He.fnW K d_law_holds.at_ = d_law_holds.val
  g_law_holds : (He.Fa.glo "_law_holds").ok K = true
  y_law_rank : d_law_rank.ok K = true
  z_law_rank : He.fnW K d_law_rank.at_ = d_law_rank.val
  g_law_rank : (He.Fa.glo "_law_rank").ok K = true
  y_law_sort : d_law_sort.ok K = true
  z_law_sort : He.fnW K d_law_sort.at_ = d_law_sort.val
  g_law_sort : (He.Fa.glo "_law_sort").ok K = true
  y_law_letter : d_law_letter.ok K = true
  z_law_letter : He.fnW K d_law_letter.at_ = d_law_letter.val
  g_law_letter : (He.Fa.glo "_law_letter").ok K = true
  y_law_sort_right : d_law_sort_right.ok K = true
  z_law_sort_right : He.fnW K d_law_sort_right.at_ = d_law_sort_right.val
  g_law_sort_right : (He.Fa.glo "_law_sort_right").ok K = true
  y_law : d_law.ok K = true
  z_law : He.fnW K d_law.at_ = d_law.val
  g_law : (He.Fa.glo "law").ok K = true
  c_Rule : (He.Fa.cls "Rule").ok K = true
  mk_Rule : (He.Fa.mkr "Rule").ok K = true
  g_Rule : (He.Fa.glo "Rule").ok K = true
  n_Rule_words : (He.Fa.noat "Rule" "words").ok K = true
  n_Rule_condition : (He.Fa.noat "Rule" "condition").ok K = true
  n_Rule_deeds : (He.Fa.noat "Rule" "deeds").ok K = true
  c_Reader : (He.Fa.cls "Reader").ok K = true
  mk_Reader : (He.Fa.mkr "Reader").ok K = true
  g_Reader : (He.Fa.glo "Reader").ok K = true
  n_Reader_words : (He.Fa.noat "Reader" "words").ok K = true
  n_Reader_row : (He.Fa.noat "Reader" "row").ok K = true
  n_Reader_at : (He.Fa.noat "Reader" "at").ok K = true
  c_Way : (He.Fa.cls "Way").ok K = true
  mk_Way : (He.Fa.mkr "Way").ok K = true
  g_Way : (He.Fa.glo "Way").ok K = true
  n_Way_sender : (He.Fa.noat "Way" "sender").ok K = true
  n_Way_words : (He.Fa.noat "Way" "words").ok K = true
  n_Way_size : (He.Fa.noat "Way" "size").ok K = true
  n_Way_marks : (He.Fa.noat "Way" "marks").ok K = true
  n_Way_folders : (He.Fa.noat "Way" "folders").ok K = true
  n_Way_receivers : (He.Fa.noat "Way" "receivers").ok K = true
  n_Way_acts : (He.Fa.noat "Way" "acts").ok K = true
  n_Way_stopped : (He.Fa.noat "Way" "stopped").ok K = true
  fr_isinstance : (He.Fa.free "isinstance").ok K = true
  fr_len : (He.Fa.free "len").ok K = true
  fr_all : (He.Fa.free "all").ok K = true
  fr_any : (He.Fa.free "any").ok K = true
  fr_sorted : (He.Fa.free "sorted").ok K = true
  fr_str : (He.Fa.free "str").ok K = true
  fr_int : (He.Fa.free "int").ok K = true
  fr_bool : (He.Fa.free "bool").ok K = true
  fr_tuple : (He.Fa.free "tuple").ok K = true
  fr_list : (He.Fa.free "list").ok K = true
  fr_min : (He.Fa.free "min").ok K = true
  fr_range : (He.Fa.free "range").ok K = true
  fr_abs : (He.Fa.free "abs").ok K = true
  fr_sum : (He.Fa.free "sum").ok K = true
  fr_enumerate : (He.Fa.free "enumerate").ok K = true
  fr_zip : (He.Fa.free "zip").ok K = true
  i_LONGEST_NAME : (He.Fa.int "LONGEST_NAME" 10).ok K = true
  i_BIGGEST_SIZE : (He.Fa.int "BIGGEST_SIZE" 99999).ok K = true
  i_MOST_WORDS : (He.Fa.int "MOST_WORDS" 60).ok K = true
  i_MOST_NAMES : (He.Fa.int "MOST_NAMES" 4).ok K = true
  i_LONGEST_NUMBER : (He.Fa.int "LONGEST_NUMBER" 5).ok K = true
  i_SIGNS : (He.Fa.str "SIGNS" "abcdefghijklmnopqrstuvwxyz").ok K = true
  i_DIGITS : (He.Fa.str "DIGITS" "0123456789").ok K = true
  g_FACTS : (He.Fa.glo "FACTS").ok K = true
  g_DEEDS : (He.Fa.glo "DEEDS").ok K = true
  g_WORD_FACTS : (He.Fa.glo "WORD_FACTS").ok K = true
  t_FACTS : He.dicW K (He.ga K "FACTS") = some (He.keysIn w.params ["from", "has", "first", "last", "pair", "marked"])
  v_FACTS : He.valsB K (He.ga K "FACTS") [("from", .int 1), ("has", .int 1), ("first", .int 1), ("last", .int 1), ("pair", .int 2), ("marked", .int 1)] = true
  t_DEEDS : He.tupB K "DEEDS" [.str "mark", .str "unmark", .str "file", .str "pass"] = true
  t_WORD_FACTS : He.tupB K "WORD_FACTS" [.str "has", .str "first", .str "last", .str "pair"] = true
theorem mkTxt {w : World} {K : PySem.W.Frag} {mg : Str → Option Value} {h : Heap} (F : Facts w K) (X : K.In h) (G : h.Ns mainGlobals mg)
    (Tb_is_name : GxR.TabB h mg (cc_is_name K) (tb_is_name K)) (Tb_is_letter : GxR.TabB h mg (cc_is_letter K) (tb_is_letter K)) (Tb_is_number : GxR.TabB h mg (cc_is_number K) (tb_is_number K)) (Tb_Way_holds : GxR.TabB h mg (cc_Way_holds K) (tb_Way_holds K)) : Txt w K mg h where
  f_is_name := He.DefD.funD F.z_is_name F.y_is_name
  g_is_name := He.glo_ok X G F.g_is_name
  f_is_size := He.DefD.funD F.z_is_size F.y_is_size
  g_is_size := He.glo_ok X G F.g_is_size
  f_is_letter := He.DefD.funD F.z_is_letter F.y_is_letter
  g_is_letter := He.glo_ok X G F.g_is_letter
  f_name_key := He.DefD.funD F.z_name_key F.y_name_key
  g_name_key := He.glo_ok X G F.g_name_key
  f_in_order := He.DefD.funD F.z_in_order F.y_in_order
  g_in_order := He.glo_ok X G F.g_in_order
  f_Rule_init := He.DefD.funD F.z_Rule_init F.y_Rule_init
  f_Reader_init := He.DefD.funD F.z_Reader_init F.y_Reader_init
  f_Reader_fail := He.DefD.funD F.z_Reader_fail F.y_Reader_fail
  m_Reader_fail := He.meth_ok F.m_Reader_fail
  f_Reader_peek := He.DefD.funD F.z_Reader_peek F.y_Reader_peek
  m_Reader_peek := He.meth_ok F.m_Reader_peek
  f_Reader_take := He.DefD.funD F.z_Reader_take F.y_Reader_take
  m_Reader_take := He.meth_ok F.m_Reader_take
  f_Reader_skip := He.DefD.funD F.z_Reader_skip F.y_Reader_skip
  m_Reader_skip := He.meth_ok F.m_Reader_skip
  f_Reader_take_name := He.DefD.funD F.z_Reader_take_name F.y_Reader_take_name
  m_Reader_take_name := He.meth_ok F.m_Reader_take_name
  f_Reader_take_number := He.DefD.funD F.z_Reader_take_number F.y_Reader_take_number
  m_Reader_take_number := He.meth_ok F.m_Reader_take_number
  f_Reader_read_rule := He.DefD.funD F.z_Reader_read_rule F.y_Reader_read_rule
  m_Reader_read_rule := He.meth_ok F.m_Reader_read_rule
  f_Reader_read_condition := He.DefD.funD F.z_Reader_read_condition F.y_Reader_read_condition
  m_Reader_read_condition := He.meth_ok F.m_Reader_read_condition
  f_Reader_read_joined := He.DefD.funD F.z_Reader_read_joined F.y_Reader_read_joined
  m_Reader_read_joined := He.meth_ok F.m_Reader_read_joined
  f_Reader_read_single := He.DefD.funD F.z_Reader_read_single F.y_Reader_read_single
  m_Reader_read_single := He.meth_ok F.m_Reader_read_single
  f_Reader_read_fact := He.DefD.funD F.z_Reader_read_fact F.y_Reader_read_fact
  m_Reader_read_fact := He.meth_ok F.m_Reader_read_fact
  f_Reader_read_deed := He.DefD.funD F.z_Reader_read_deed F.y_Reader_read_deed
  m_Reader_read_deed := He.meth_ok F.m_Reader_read_deed
  f_is_number := He.DefD.funD F.z_is_number F.y_is_number
  g_is_number := He.glo_ok X G F.g_is_number
  f_words_of := He.DefD.funD F.z_words_of F.y_words_of
  g_words_of := He.glo_ok X G F.g_words_of
  f_rule_of := He.DefD.funD F.z_rule_of F.y_rule_of
  g_rule_of := He.glo_ok X G F.g_rule_of
  f_read := He.DefD.funD F.z_read F.y_read
  g_read := He.glo_ok X G F.g_read
  f_check_names := He.DefD.funD F.z_check_names F.y_check_names
  g_check_names := He.glo_ok X G F.g_check_names
  f_word_names := He.DefD.funD F.z_word_names F.y_word_names
  g_word_names := He.glo_ok X G F.g_word_names
  f_facts_of := He.DefD.funD F.z_facts_of F.y_facts_of
  g_facts_of := He.glo_ok X G F.g_facts_of
  f_add_facts := He.DefD.funD F.z_add_facts F.y_add_facts
  g_add_facts := He.glo_ok X G F.g_add_facts
  f_sort := He.DefD.funD F.z_sort F.y_sort
  g_sort := He.glo_ok X G F.g_sort
  f_acting := He.DefD.funD F.z_acting F.y_acting
  g_acting := He.glo_ok X G F.g_acting
  f_check_letter := He.DefD.funD F.z_check_letter F.y_check_letter
  g_check_letter := He.glo_ok X G F.g_check_letter
  f_way_through := He.DefD.funD F.z_way_through F.y_way_through
  g_way_through := He.glo_ok X G F.g_way_through
  f_Way_init := He.DefD.funD F.z_Way_init F.y_Way_init
  f_Way_outcome := He.DefD.funD F.z_Way_outcome F.y_Way_outcome
  m_Way_outcome := He.meth_ok F.m_Way_outcome
  f_Way_act := He.DefD.funD F.z_Way_act F.y_Way_act
  m_Way_act := He.meth_ok F.m_Way_act
  f_Way_holds := He.DefD.funD F.z_Way_holds F.y_Way_holds
  m_Way_holds := He.meth_ok F.m_Way_holds
  f_Way_fact_holds := He.DefD.funD F.z_Way_fact_holds F.y_Way_fact_holds
  m_Way_fact_holds := He.meth_ok F.m_Way_fact_holds
  f_Way_has_pair := He.DefD.funD F.z_Way_has_pair F.y_Way_has_pair
  m_Way_has_pair := He.meth_ok F.m_Way_has_pair
  f_law_draw := He.DefD.funD F.z_law_draw F.y_law_draw
  g_law_draw := He.glo_ok X G F.g_law_draw
  f_law_cell_at := He.DefD.funD F.z_law_cell_at F.y_law_cell_at
  g_law_cell_at := He.glo_ok X G F.g_law_cell_at
  f_law_digits := He.DefD.funD F.z_law_digits F.y_law_digits
  g_law_digits := He.glo_ok X G F.g_law_digits
  f_law_words := He.DefD.funD F.z_law_words F.y_law_words
  g_law_words := He.glo_ok X G F.g_law_words
  f_law_fact := He.DefD.funD F.z_law_fact F.y_law_fact
  g_law_fact := He.glo_ok X G F.g_law_fact
  f_law_unit := He.DefD.funD F.z_law_unit F.y_law_unit
  g_law_unit := He.glo_ok X G F.g_law_unit
  f_law_condition := He.DefD.funD F.z_law_condition F.y_law_condition
  g_law_condition := He.glo_ok X G F.g_law_condition
  f_law_deeds := He.DefD.funD F.z_law_deeds F.y_law_deeds
  g_law_deeds := He.glo_ok X G F.g_law_deeds
  f_law_rules := He.DefD.funD F.z_law_rules F.y_law_rules
  g_law_rules := He.glo_ok X G F.g_law_rules
  f_law_told := He.DefD.funD F.z_law_told F.y_law_told
  g_law_told := He.glo_ok X G F.g_law_told
  f_law_rule_words := He.DefD.funD F.z_law_rule_words F.y_law_rule_words
  g_law_rule_words := He.glo_ok X G F.g_law_rule_words
  f_law_text := He.DefD.funD F.z_law_text F.y_law_text
  g_law_text := He.glo_ok X G F.g_law_text
  f_law_holds := He.DefD.funD F.z_law_holds F.y_law_holds
  g_law_holds := He.glo_ok X G F.g_law_holds
  f_law_rank := He.DefD.funD F.z_law_rank F.y_law_rank
  g_law_rank := He.glo_ok X G F.g_law_rank
  f_law_sort := He.DefD.funD F.z_law_sort F.y_law_sort
  g_law_sort := He.glo_ok X G F.g_law_sort
  f_law_letter := He.DefD.funD F.z_law_letter F.y_law_letter
  g_law_letter := He.glo_ok X G F.g_law_letter
  f_law_sort_right := He.DefD.funD F.z_law_sort_right F.y_law_sort_right
  g_law_sort_right := He.glo_ok X G F.g_law_sort_right
  f_law := He.DefD.funD F.z_law F.y_law
  g_law := He.glo_ok X G F.g_law
  c_Rule := He.cls_ok F.c_Rule
  mk_Rule := He.mkr_ok F.mk_Rule
  g_Rule := He.glo_ok X G F.g_Rule
  n_Rule_words := He.noat_ok F.n_Rule_words
  n_Rule_condition := He.noat_ok F.n_Rule_condition
  n_Rule_deeds := He.noat_ok F.n_Rule_deeds
  c_Reader := He.cls_ok F.c_Reader
  mk_Reader := He.mkr_ok F.mk_Reader
  g_Reader := He.glo_ok X G F.g_Reader
  n_Reader_words := He.noat_ok F.n_Reader_words
  n_Reader_row := He.noat_ok F.n_Reader_row
  n_Reader_at := He.noat_ok F.n_Reader_at
  c_Way := He.cls_ok F.c_Way
  mk_Way := He.mkr_ok F.mk_Way
  g_Way := He.glo_ok X G F.g_Way
  n_Way_sender := He.noat_ok F.n_Way_sender
  n_Way_words := He.noat_ok F.n_Way_words
  n_Way_size := He.noat_ok F.n_Way_size
  n_Way_marks := He.noat_ok F.n_Way_marks
  n_Way_folders := He.noat_ok F.n_Way_folders
  n_Way_receivers := He.noat_ok F.n_Way_receivers
  n_Way_acts := He.noat_ok F.n_Way_acts
  n_Way_stopped := He.noat_ok F.n_Way_stopped
  z_isinstance := He.free_ok X G F.fr_isinstance
  z_len := He.free_ok X G F.fr_len
  z_all := He.free_ok X G F.fr_all
  z_any := He.free_ok X G F.fr_any
  z_sorted := He.free_ok X G F.fr_sorted
  z_str := He.free_ok X G F.fr_str
  z_int := He.free_ok X G F.fr_int
  z_bool := He.free_ok X G F.fr_bool
  z_tuple := He.free_ok X G F.fr_tuple
  z_list := He.free_ok X G F.fr_list
  z_min := He.free_ok X G F.fr_min
  z_range := He.free_ok X G F.fr_range
  z_abs := He.free_ok X G F.fr_abs
  z_sum := He.free_ok X G F.fr_sum
  z_enumerate := He.free_ok X G F.fr_enumerate
  z_zip := He.free_ok X G F.fr_zip
  i_LONGEST_NAME := He.int_ok X G F.i_LONGEST_NAME
  i_BIGGEST_SIZE := He.int_ok X G F.i_BIGGEST_SIZE
  i_MOST_WORDS := He.int_ok X G F.i_MOST_WORDS
  i_MOST_NAMES := He.int_ok X G F.i_MOST_NAMES
  i_LONGEST_NUMBER := He.int_ok X G F.i_LONGEST_NUMBER
  i_SIGNS := He.str_ok X G F.i_SIGNS
  i_DIGITS := He.str_ok X G F.i_DIGITS
  g_FACTS := He.glo_ok X G F.g_FACTS
  g_DEEDS := He.glo_ok X G F.g_DEEDS
  g_WORD_FACTS := He.glo_ok X G F.g_WORD_FACTS
  t_FACTS := He.dicW_ok F.t_FACTS
  v_FACTS := fun q hq => by
    simp only [List.mem_cons, List.not_mem_nil, or_false] at hq
    rcases hq with rfl | rfl | rfl | rfl | rfl | rfl
    · exact He.valsB_ok F.v_FACTS (q := ("from", .int 1)) (by simp)
    · exact He.valsB_ok F.v_FACTS (q := ("has", .int 1)) (by simp)
    · exact He.valsB_ok F.v_FACTS (q := ("first", .int 1)) (by simp)
    · exact He.valsB_ok F.v_FACTS (q := ("last", .int 1)) (by simp)
    · exact He.valsB_ok F.v_FACTS (q := ("pair", .int 2)) (by simp)
    · exact He.valsB_ok F.v_FACTS (q := ("marked", .int 1)) (by simp)
  t_DEEDS := fun H => He.tupB_ok F.t_DEEDS H
  t_WORD_FACTS := fun H => He.tupB_ok F.t_WORD_FACTS H
  t_is_name := Tb_is_name
  t_is_letter := Tb_is_letter
  t_is_number := Tb_is_number
  t_Way_holds := Tb_Way_holds
end So
end

section
set_option Elab.async false
set_option linter.all false
set_option maxRecDepth 100000
set_option maxHeartbeats 4000000
namespace So
open PySem PySem.Spec PyProof.Rows L2 GxA
open GxR (TabG Tabbed)
def tfT : List He.Defn := [("is_name", none), ("is_letter", none), ("is_number", none), ("Way", some "holds")]
def p0 : Params := { strHash := fun _ => 0, shareClass := fun _ => 0, mergeTok := fun a => a, idOf := fun _ => 0, idOfShared := fun _ _ => 0, followText := fun _ => false, idOfImm := fun _ => 0 }
/-- all that is said of the top -/
structure Says (w : World) (K : PySem.W.Frag) (ts : List Addr) : Prop where
  f : Facts w K
  code : (tfT.all fun p => PySem.W.codeHdIn K (He.cT K p).1 (He.cT K p).2 && (K.lookup (He.cT K p).2).isNone) = true
  tabs : (tfT.map fun p => (He.cT K p).2) = ts
theorem lawB {K : PySem.W.Frag} {f : Addr} {fd : FuncData} (F : FunD K "law" "law" (defArgs s_law) (defBody s_law) (defScope s_law) [] [] f fd) (s : Shared) (u : Value) : BindsTo s fd ⟨[u], []⟩ [("_law_script", u)] := by
  obtain ⟨oc, od, dV, kV, doc, pm, an, cdv, ct, osl, rfl, lk, hcd, hD, hK⟩ := F.ex
  rcases hD with ⟨_, rfl⟩ | ⟨e, _⟩
  · exact .of_eq (bd_law kV doc pm an cdv ct [u] rfl)
  · exact absurd rfl e
theorem one_fd {K : PySem.W.Frag} {f : Addr} {fd fd' : FuncData} {x q : Str} {pa : Arguments} {bo : List Stmt} {sc : Scope} (F : FunD K x q pa bo sc [] [] f fd) (F' : FunD K x q pa bo sc [] [] f fd') : fd' = fd := by
  obtain ⟨oc, od, dV, kV, doc, pm, an, cdv, ct, osl, e1, lk, _⟩ := F.ex
  obtain ⟨oc', od', dV', kV', doc', pm', an', cdv', ct', osl', e1', lk', _⟩ := F'.ex
  rw [lk] at lk'
  injection lk' with z
  injection z with z1 z2 z3 z4
  injection z3 with z5
  exact z5.symm
theorem endS {l : PySem.W.OpenLaw} {q : Program} {loose : List Str} {XP : (Str → Option Value) → Heap → Prop} {YP : World → Heap → Prop} {d : DefRec} {K : Params → PySem.W.Frag} {ts : List Addr} (hn : l.most = some 63) (hdf : d.params.defaults = []) (hd : d.name = "law")
    (hY : ∀ (w : World) (h : Heap), YP w h → (K w.params).In h ∧ ∀ P ∈ ts, h.get? P = some (PySem.W.tabObj #[])) (S : ∀ w, Says w (K w.params) ts) : PySem.W.WalkO q loose XP YP l.row.toRowW d [] (fun f vs => PySem.call f vs) := by
  refine LamX.walk_ofTsE (n := 63) (k := 92) (CX := fun _ => CX0) (x := "_law_script") hn (by decide) hdf ⟨rfl, by decide, by decide⟩ (fun w mg fa h Y G hmg => ?_) (fun _ _ _ _ _ z => z)
  have s := S w
  obtain ⟨X, XT⟩ := hY w h Y
  refine ⟨K w.params, X, ?_⟩
  have hc : ∀ p ∈ tfT, PySem.W.codeHdIn (K w.params) (He.cT (K w.params) p).1 (He.cT (K w.params) p).2 = true ∧ (K w.params).lookup (He.cT (K w.params) p).2 = none := fun p m => by
    obtain ⟨a, b⟩ := Bool.and_eq_true_iff.mp (List.all_eq_true.mp s.code p m)
    exact ⟨a, Option.isNone_iff_eq_none.mp b⟩
  have hE : ∀ p ∈ tfT, h.get? (He.cT (K w.params) p).2 = some (PySem.W.tabObj #[]) := fun p m => XT _ (s.tabs ▸ List.mem_map.mpr ⟨p, m, rfl⟩)
  have fax : fa = a_law (K w.params) := by
    have := He.glo_ok X G s.f.g_law
    rw [hd, this] at hmg
    injection hmg with z
    injection z with z
    exact z.symm
  subst fax
  obtain ⟨fd, FD0⟩ := (He.DefD.funD s.f.z_law s.f.y_law : FD (K w.params) "law" "law" s_law (a_law (K w.params)))
  refine ⟨fd, tfT.map (He.cT (K w.params)), spLaw (K w.params), ?_, ?_, ?_, lawB FD0, ?_, ?_⟩
  · intro p m
    obtain ⟨t, ht, rfl⟩ := List.mem_map.mp m
    exact hE t ht
  · intro p m
    obtain ⟨t, ht, rfl⟩ := List.mem_map.mp m
    exact (hc t ht).2
  · intro p m
    obtain ⟨t, ht, rfl⟩ := List.mem_map.mp m
    exact PySem.W.codeHd_of_K X (hc t ht).1
  · intro H a ns hl _ hT hS
    refine ⟨a, ns, rfl, hS, Nat.le_trans hl (by decide), fun p m => ?_, fun H' => rfl⟩
    have hp : ∃ t ∈ tfT, p = (He.cT (K w.params) t).2 := by
      simp only [tabs, List.mem_cons, List.not_mem_nil, or_false] at m
      rcases m with rfl | rfl | rfl | rfl
      · exact ⟨("is_name", none), by simp [tfT], rfl⟩
      · exact ⟨("is_letter", none), by simp [tfT], rfl⟩
      · exact ⟨("is_number", none), by simp [tfT], rfl⟩
      · exact ⟨("Way", some "holds"), by simp [tfT], rfl⟩
    obtain ⟨t, ht, rfl⟩ := hp
    exact ⟨#[], hT _ (List.mem_map.mpr ⟨t, ht, rfl⟩), by first | trivial | exact .nil | (unfold TriplesOk; trivial) | (intro _ m; cases m)⟩
  · intro base X2 G2 hB
    have tb : ∀ t ∈ tfT, GxR.TabB base mg (He.cT (K w.params) t).1 (He.cT (K w.params) t).2 := fun t ht => by
      have z := hB _ (List.mem_map.mpr ⟨t, ht, rfl⟩)
      exact ⟨z.code, z.bm, z.gP⟩
    have T : Txt w (K w.params) mg base := mkTxt s.f X2 G2 (tb _ (by simp [tfT])) (tb _ (by simp [tfT])) (tb _ (by simp [tfT])) (tb _ (by simp [tfT]))
    obtain ⟨fd', F', ok, _⟩ := R_law (P := l.prog) T (He.free_ok X2 G2 s.f.fr_max)
    obtain rfl := one_fd FD0 F'
    exact ok
end So
end

section
open PySem PySem.W PyProof.Rows
set_option Elab.async false
set_option linter.all false
local macro_rules
  | `(tactic| o_head ($_ $K:term $as:term $e:term)) => `(tactic| o_head (PySem.W.kmHook $K $as $e (So.tfT.map fun p => (He.cT ($K So.p0) p).2)))
set_option maxRecDepth 100000 in
set_option maxHeartbeats 0 in
theorem PySem.Challenge.cw_sortpost_k01_sort_holds : PySem.Challenge.rw_sortpost_k01_sort.Holds := by
  w_on; o_law; k_head; (case hw => w_witness2)
  k_fill
  refine So.endS (l := PySem.Challenge.rw_sortpost_k01_sort) rfl rfl rfl (fun w h Y => Y) ?S
  case S =>
    intro w
    refine So.Says.mk (So.Facts.mk ?_ ?_ ?_ ?_ ?_ ?_ ?_ ?_ ?_ ?_ ?_ ?_ ?_ ?_ ?_ ?_ ?_ ?_ ?_ ?_ ?_ ?_ ?_ ?_ ?_ ?_ ?_ ?_ ?_ ?_ ?_ ?_ ?_ ?_ ?_ ?_ ?_ ?_ ?_ ?_ ?_ ?_ ?_ ?_ ?_ ?_ ?_ ?_ ?_ ?_ ?_ ?_ ?_ ?_ ?_ ?_ ?_ ?_ ?_ ?_ ?_ ?_ ?_ ?_ ?_ ?_ ?_ ?_ ?_ ?_ ?_ ?_ ?_ ?_ ?_ ?_ ?_ ?_ ?_ ?_ ?_ ?_ ?_ ?_ ?_ ?_ ?_ ?_ ?_ ?_ ?_ ?_ ?_ ?_ ?_ ?_ ?_ ?_ ?_ ?_ ?_ ?_ ?_ ?_ ?_ ?_ ?_ ?_ ?_ ?_ ?_ ?_ ?_ ?_ ?_ ?_ ?_ ?_ ?_ ?_ ?_ ?_ ?_ ?_ ?_ ?_ ?_ ?_ ?_ ?_ ?_ ?_ ?_ ?_ ?_ ?_ ?_ ?_ ?_ ?_ ?_ ?_ ?_ ?_ ?_ ?_ ?_ ?_ ?_ ?_ ?_ ?_ ?_ ?_ ?_ ?_ ?_ ?_ ?_ ?_ ?_ ?_ ?_ ?_ ?_ ?_ ?_ ?_ ?_ ?_ ?_ ?_ ?_ ?_ ?_ ?_ ?_ ?_ ?_ ?_ ?_ ?_ ?_ ?_ ?_ ?_ ?_ ?_ ?_ ?_ ?_ ?_ ?_ ?_ ?_ ?_ ?_ ?_ ?_ ?_ ?_ ?_ ?_ ?_ ?_ ?_ ?_ ?_ ?_ ?_ ?_ ?_ ?_ ?_ ?_ ?_) ?_ ?_ <;> kernel_rfl
end
