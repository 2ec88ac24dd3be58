import PyProof.Rows.All
import Wide.All
import OpenK.AllK
import Wide.FinOn
import HandS.ForMost
import HandS.Exc
import HandS.ExcInit
import HandS.ExcField
import HandS.ExcIs
import HandS.IsInst
import HandS.TryOnly
import KE.KExcIs
import PyProof.ReprRoads
import KE.KUnpackStar
import HandS.OwnEq
import PyProof.InstEq
import HandS.ClsMeth
import HandS.StrMore
import HandS.RaiseMore
import HandS.Lambda
import HandS.EndTab
import HandS.FStr
import HandS.WordsExc
import PySem.Challenge.RW_loopstow_k94_plans_written
import HandS.StrSplit
import HandS.Flow
import HandS.Defaults
import PyProof.StrLawsAffix
import HandS.Walk
set_option Elab.async false
set_option linter.all false
set_option maxRecDepth 100000
set_option maxHeartbeats 4000000
/-! Rules of my own: an error that is caught under a name and kept in a local name behind the suite; what is asked of it there. -/
namespace NX
open PySem PySem.Spec PyProof.Rows L2
/-- the kept error at a: its class, its dict -/
def Kept (a : Addr) (cls : Value) (d : Option Addr) : HO := .ext fun h => ∃ o vs, h.get? a = some o ∧ o.cls = cls ∧ o.dict = d ∧ o.data = .fields vs
theorem kept_ne {a b : Addr} {cls : Value} {d : Option Addr} : Kept a cls d ≠ .own b := fun z => by
  unfold Kept at z
  cases z
theorem kept_ok {P : Program} {w : World} {H : Hp} {h : Heap} {a : Addr} {cls : Value} {d : Option Addr} {o : Obj} {vs : Array Value} (e : h.get? a = some o) (z : Zc cls d o) (f : o.data = .fields vs) : ObjOk P w H h a (Kept a cls d) :=
  ⟨⟨o, vs, e, z.1, z.2, f⟩, ⟨o, e⟩, fun h1 h2 ⟨o1, w1, e1, r1⟩ k => ⟨o1, w1, k _ e1, r1⟩⟩
section
variable {X : Cx} {pins : List (Addr × Obj)} {σ : L2.St} {H : Hp} {s : Shared}
/-- an object that nobody tracks, and that is none of the entry's, is tracked from now on -/
theorem adopt {a : Addr} {cls : Value} {d : Option Addr} {o : Obj} {vs : Array Value} (I : Inv X ((a, o) :: pins) σ H s) (z : Zc cls d o) (f : o.data = .fields vs) (new : X.s_0.heap.get? a = none) (np : ∀ p ∈ X.pn ++ pins, p.1 ≠ a) :
    Inv X pins σ (upd H a (Kept a cls d)) s := by
  obtain ⟨ga, na, nL, nF, nC⟩ := I.pin (a, o) (List.mem_append_right _ List.mem_cons_self)
  have ga : s.heap.get? a = some o := ga
  have na : H a = none := na
  have B := I.base
  have nb : ∀ {b u}, X.s_0.heap.get? b = some u → b ≠ a := fun {b u} e q => by rw [q, new] at e; cases e
  refine ⟨I.ok, I.os, I.bare, ⟨B.keep, B.slot, fun b u e n hx => ?_, B.there, fun b xs e => ?_, fun b u v e => ?_, fun b ps e => ?_⟩, I.loc, I.cell, ?_, fun x c e => ?_, fun p hp => ?_, ?_, I.len⟩
  · rw [upd_ne (nb e)]
    exact B.free b u e n hx
  · have q := B.tups b xs e
    rw [upd_ne (ne_of_none q na)]
    exact q
  · have q := B.frzs b u v e
    rw [upd_ne (ne_of_none q na)]
    exact q
  · obtain ⟨more, q⟩ := B.tbls b ps e
    exact ⟨more, by rw [upd_ne (ne_of_none q na)]; exact q⟩
  · rw [upd_ne (Ne.symm nL)]
    exact I.free
  · obtain ⟨v, oc, e1, e2⟩ := I.cell x c e
    have hne : c ≠ a := fun q => by
      rw [q, ga] at e1
      cases e1
      exact nC _ e2
    rw [upd_ne hne]
    exact I.freeC x c e
  · have hp' : p ∈ X.pn ++ (a, o) :: pins := by
      rcases List.mem_append.mp hp with q | q
      · exact List.mem_append_left _ q
      · exact List.mem_append_right _ (List.mem_cons_of_mem _ q)
    obtain ⟨e1, e2, e3⟩ := I.pin p hp'
    exact ⟨e1, by rw [upd_ne (np p hp)]; exact e2, e3⟩
  · intro b u e
    by_cases hb : b = a
    · rw [hb, upd_same] at e
      cases e
      rw [hb]
      exact kept_ok ga z f
    · rw [upd_ne hb] at e
      exact (I.hok b u e).stay (fun _ _ _ q => q) (fun c q => by rw [upd_ne (ne_of_none q na)]; exact q) fun c xs q => by rw [upd_ne (ne_of_none q na)]; exact q
/-- what «except x as n: suite» wishes of an error of the body, if the error is kept: slot i is n's, the suite's ends see the kept error -/
def wKeep (K : PySem.W.Frag) (c : Value) (i : Nat) (ts : Addr → Value → Option Addr → TS) (Wout : WX) (D : Ends) : WX := fun cls d σ H =>
  ∃ b, PySem.W.exmOne K cls c = some b ∧ (b = false → Wout cls d σ H) ∧
    (b = true → ∀ a, H a = none → ts a cls d ⟨fun σ' H' => D.nx (σ'.set i none) (upd H' a (Kept a cls d)), fun v H' => D.rt v (upd H' a (Kept a cls d)), fun σ' H' => D.bk (σ'.set i none) (upd H' a (Kept a cls d)), fun σ' H' => D.ct (σ'.set i none) (upd H' a (Kept a cls d))⟩ (σ.set i (some (.ref a))) H)
end
section
variable {X : Cx} {x n : Str} {c : Value} {i : Nat} {body suite : List Stmt} {b₀ : Stmt} {np p1 p2 : Pos} {tb : WX → TS} {ts : Addr → Value → Option Addr → TS} {Wout : WX}
theorem ps_try_keep (hs : X.stack = X.env :: X.outer) (hf : X.env.frame = some X.env.locals) (hN : X.N.Nodup) (hi : X.N[i]? = some n) (hln : X.env.kindOf n = some .local) (hex : X.ex = []) (hc : Names X x c) (tk : Takes X Wout)
    (hb : ∀ (W : WX) (pn : List (Addr × Obj)) (xe : Value → Shared → Prop), Takes (X.tr pn xe) W → PassesOwn (model X.prog X.w) X.A X.env xe → PSs (X.tr pn xe) body (tb W))
    (hsu : ∀ (a : Addr) (oe : Obj) (cls : Value) (d : Option Addr) (pn : List (Addr × Obj)), Zc cls d oe → (∃ vs, oe.data = .fields vs) → PSs (X.suite a ((a, oe) :: pn)) (b₀ :: suite) (ts a cls d)) :
    PS X (.Try body [.ExceptHandler (some (.Name x np)) (some n) (b₀ :: suite) p1] [] [] p2) (fun D σ H => tb (wKeep X.K c i ts Wout D) D σ H) := by
  refine ⟨fun pins s σ H D I h => ?_⟩
  have ok := I.ok
  have frames : X.A.frames = some (X.env :: X.outer) := by rw [ok.frames, hs]
  -- the wish of the body: what the clause does with an error
  have caught : ∀ (u : Value) (s' : Shared), XE (X.tr (X.pn ++ pins) (fun e s₁ => wpAny (model X.prog X.w) X.A (noteFrame e X.env) (fun _ s₂ => wpAny (model X.prog X.w) X.A (setFlight e none) (fun _ s₃ =>
      wpAny (model X.prog X.w) X.A (handleBy e X.env [.ExceptHandler (some (.Name x np)) (some n) (b₀ :: suite) p1]) (SP X pins D) X.xe s₃) X.xe s₂) X.xe s₁)) (wKeep X.K c i ts Wout D) u s' →
      wpAny (model X.prog X.w) X.A (noteFrame u X.env) (fun _ s₂ => wpAny (model X.prog X.w) X.A (setFlight u none) (fun _ s₃ =>
        wpAny (model X.prog X.w) X.A (handleBy u X.env [.ExceptHandler (some (.Name x np)) (some n) (b₀ :: suite) p1]) (SP X pins D) X.xe s₃) X.xe s₂) X.xe s' := by
    intro u s' xx
    obtain ⟨a, B, sI, pins', σ', H', cls, d, rfl, J', nb, up, sky, na, os, ag, b, hb1, hno, hyes⟩ := xx
    have J : Inv X pins σ' H' sI := J'.ofTry ok
    have sky' : Sky B (X.env :: X.outer) a (Zc cls d) X.env.locals s'.heap := by rw [← hs]; exact sky
    refine Sky.land Zc.steady frames hf sky' fun h3 fl3 up3 => ?_
    obtain ⟨oe3, vs3, he3, hz3, hd3⟩ := fl3.there
    have Ba : B.get? a = none := fl3.2.1
    have aFr : a ∉ frs (X.env :: X.outer) := fun hm => by
      obtain ⟨_, o', e', hnf⟩ := fl3.2.2.1.mem hm
      rw [he3] at e'
      cases e'
      exact hnf _ hd3
    have aS : a ∉ frs X.stack := by rw [hs]; exact aFr
    have aI : sI.heap.get? a = none := by
      cases e : sI.heap.get? a with
      | none => rfl
      | some o =>
        have q := nb a o e aS
        rw [Ba] at q
        cases q
    have a0 : X.s_0.heap.get? a = none := by
      cases e : X.s_0.heap.get? a with
      | none => rfl
      | some o =>
        obtain ⟨o', q⟩ := J.base.there a o e (by rw [hex]; simp)
        rw [aI] at q
        cases q
    have aL : a ≠ X.env.locals := fun z => aFr (List.mem_filterMap.mpr ⟨X.env, List.mem_cons_self, by rw [hf, z]⟩)
    have aF : a ∉ X.fs := fun hm => by
      obtain ⟨e, he, q⟩ := List.mem_filterMap.mp hm
      exact aFr (List.mem_filterMap.mpr ⟨e, List.mem_cons_of_mem _ he, q⟩)
    have aP : ∀ p ∈ X.pn ++ pins, p.1 ≠ a := fun p hp z => by
      have q := (J.pin p hp).1
      rw [z, aI] at q
      cases q
    have J3 : Inv X pins σ' H' { s' with heap := h3 } := J.landed nb fl3.1 (up.trans up3) os ag
    have S3 := J3.suite he3 hd3 na aL aF
    refine wpAny_handleBy_cons (codeAny_handlers_test ?_) (by intro q; cases q)
    have cl3 : PySem.W.Looks (model X.prog X.w) h3 (typeOf (.ref a)) cls := fun A Q E s k q => wpAny_typeOf_ref (k _ _ he3) (by rw [hz3.1]; exact q)
    have match_ := PySem.W.exm_one (M := model X.prog X.w) J3.kIn cl3 hb1
    have names : ∀ {Q : Value → Shared → Prop} {E : Value → Shared → Prop}, Q c { s' with heap := h3 } → wpAny (model X.prog X.w) (X.A.mark (some (.ref a))) (eval (.Name x np) X.env) Q E { s' with heap := h3 } := fun {Q E} q => by
      obtain ⟨hg, hdb, hm | ⟨hm, hv, hnn⟩⟩ := hc
      · exact ld_glob (X := X.suite a ((a, oe3) :: (X.pn ++ pins))) S3 hg hm q hdb
      · exact ld_blt (X := X.suite a ((a, oe3) :: (X.pn ++ pins))) S3 hg hm hv q hnn hdb
    refine names (match_.here ?_)
    cases b with
    | false =>
      show wpAny _ X.A (handleBy (.ref a) X.env []) _ _ _
      refine wpAny_handleBy_nil ?_
      obtain ⟨_, _, _, oe, vs, T, _, _, he, _, hd, h1, _⟩ := id fl3
      unfold PySem.passOn
      refine wpAny_bind (wpAny_field he hd h1 ?_)
      rw [if_neg (show ¬ ((Value.ref T == Value.none) = true) from by simp)]
      have out : wpAny (model X.prog X.w) X.A (setFlight (.ref a) X.env.frame) (fun _ s4 => wpAny (model X.prog X.w) X.A (throw (.ref a) : Sem Flow) (SP X pins D) X.xe s4) X.xe { s' with heap := h3 } := by
        rw [hf]
        refine HandSPX.setFlight_upZ fl3 fun h4 hh4 up4 => wpAny_throw (tk _ _ ?_)
        exact ⟨a, B, sI, pins, σ', H', cls, d, rfl, J, nb, (up.trans up3).trans up4, .inr (.inr (by rw [hs]; exact hh4)), na, os, ag, hno rfl⟩
      first
        | exact wpAny_bind (wpAny_pure (wpAny_bind out))
        | exact wpAny_bind out
    | true =>
      refine codeAny_handlers_suite_as ?_
      refine HandSPX.lands_againZ fl3 fun h4 fl4 up4 => ?_
      obtain ⟨oe4, vs4, he4, hz4, hd4⟩ := fl4.there
      have J4 : Inv X pins σ' H' { s' with heap := h4 } := J.landed nb fl4.1 ((up.trans up3).trans up4) os ag
      have S4 := J4.suite he4 hd4 na aL aF
      refine store_ok (X := X.suite a ((a, oe4) :: (X.pn ++ pins))) (v := .ref a) S4 hN hi (.inl hln) rfl (fun s5 S5 => ?_) (.inr hln)
      refine wpAny_mono ((hsu a oe4 cls d (X.pn ++ pins) hz4 ⟨_, hd4⟩).run [] s5 _ H' _ S5 (hyes rfl a na)) (fun f s6 hsp => ?_) (fun _ _ z => False.elim z)
      -- behind the suite: the name goes, the error is kept
      have last : ∀ {σ6 : L2.St} {H6 : Hp} {Q : Shared → Prop}, Inv (X.suite a ((a, oe4) :: (X.pn ++ pins))) [] σ6 H6 s6 → (∀ s7, Inv X pins (σ6.set i none) (upd H6 a (Kept a cls d)) s7 → Q s7) →
          wpAny (model X.prog X.w) X.A (do bindName X.env n .none; unbindBehindTheSuite X.env n p1) (fun _ s7 => Q s7) X.xe s6 := fun {σ6 H6 Q} S6 hq => by
        have W6 : Inv X ((a, oe4) :: pins) σ6 H6 s6 := ⟨ok, S6.os, S6.bare, S6.base, S6.loc, S6.cell, S6.free, S6.freeC, fun p hp => S6.pin p (by
          rw [List.append_nil]
          rcases List.mem_append.mp hp with q | q
          · exact List.mem_cons_of_mem _ (List.mem_append_left _ q)
          · rcases List.mem_cons.mp q with q | q
            · rw [q]
              exact List.mem_cons_self
            · exact List.mem_cons_of_mem _ (List.mem_append_right _ q)), S6.hok, S6.len⟩
        exact gone_ok W6 hN hi hln fun s7 J7 => hq s7 (adopt J7 hz4 hd4 a0 aP)
      cases f with
      | next =>
        obtain ⟨σ6, H6, S6, q6⟩ := hsp
        exact last S6 fun s7 J7 => ⟨_, _, J7, q6⟩
      | brk =>
        obtain ⟨σ6, H6, S6, q6⟩ := hsp
        exact last S6 fun s7 J7 => ⟨_, _, J7, q6⟩
      | cont =>
        obtain ⟨σ6, H6, S6, q6⟩ := hsp
        exact last S6 fun s7 J7 => ⟨_, _, J7, q6⟩
      | ret u =>
        obtain ⟨v6, σ6, H6, S6, r6, q6⟩ := hsp
        exact last S6 fun s7 J7 => ⟨_, _, _, J7, r6, q6⟩
  refine wpAny_Try_except (wpAny_mono ((hb _ _ _ (fun u s' xx => caught u s' xx) PassesOwn.looking).run [] s σ H D (I.toTry _) h) (fun f s1 hsp => ?_) (fun e s1 he => he))
  cases f with
  | next =>
    obtain ⟨σ', H', J', q⟩ := hsp
    exact wpAny_execs_nil ⟨σ', H', J'.ofTry ok, q⟩
  | brk =>
    obtain ⟨σ', H', J', q⟩ := hsp
    exact ⟨σ', H', J'.ofTry ok, q⟩
  | cont =>
    obtain ⟨σ', H', J', q⟩ := hsp
    exact ⟨σ', H', J'.ofTry ok, q⟩
  | ret u =>
    obtain ⟨v, σ', H', J', r, q⟩ := hsp
    exact ⟨v, σ', H', J'.ofTry ok, r, q⟩
end
/-- isinstance(e, c) of a kept error -/
def rIsKept (K : PySem.W.Frag) : List V → Hp → VK → Prop := fun xs H Q => ∃ (a D : Addr) (d : Addr) (fs : List (Str × V)) (c : V) (u : Value) (b : Bool), xs = [.ref a, c] ∧ ClsV c u ∧ H a = some (Kept a (.ref D) (some d)) ∧ H d = some (.xd fs) ∧ ExcC K D ∧ PySem.W.kitOne K (.ref D) u = some b ∧ Q (.bl b) H
section
variable {X : Cx} {e : Expr} {te : TE} {pos : Pos} {n : Str} {C : Addr}
theorem inst_kept {pins : List (Addr × Obj)} {σ : L2.St} {H : Hp} {s : Shared} {a D d : Addr} {fs : List (Str × V)} (I : Inv X pins σ H s) (ha : H a = some (Kept a (.ref D) (some d))) (hd : H d = some (.xd fs)) :
    ∃ o od, PySem.W.InstAt s.heap a o D (some od) ∧ s.heap.get? d = some od ∧ ∃ mA, s.heap.Ns1 d mA ∧ (∀ f, RelO (fs.lookup f) (mA f)) := by
  have x : ObjOk X.prog X.w H s.heap a (.ext fun h => ∃ o vs, h.get? a = some o ∧ o.cls = .ref D ∧ o.dict = some d ∧ o.data = .fields vs) := I.hok a _ ha
  obtain ⟨⟨o, vs, e1, e2, e3, e4⟩, _, _⟩ := x
  obtain ⟨mA, hns, hr⟩ := (show ObjOk X.prog X.w H s.heap d (.xd fs) from I.hok d _ hd)
  obtain ⟨od, ho, _⟩ := lookIn_ns hns
  exact ⟨o, od, ⟨e1, e2, by unfold PySem.W.notCls; rw [e4] <;> rfl, by rw [e3]; exact ho⟩, ho, mA, hns, hr⟩
theorem call_isKept : CallR X (.builtin "isinstance") (rIsKept X.K) := by
  intro pins s σ H xs us Q I r h
  obtain ⟨a, D, d, fs, c, u, b, rfl, hc, ha, hd, E, k, q⟩ := h
  obtain ⟨u1, u2, rfl, r1, r2⟩ := vals2 r
  have e2 := hc.eq r2
  subst e2
  obtain rfl : u1 = Value.ref a := r1
  obtain ⟨o, od, J, _⟩ := inst_kept I ha hd
  have hcl : (PySem.W.clsIn X.K D).isSome = true := by
    have z := E.hd
    unfold PySem.W.hasDictIn at z
    cases q : PySem.W.clsIn X.K D with
    | some cd => rfl
    | none => rw [q] at z; cases z
  exact PySem.W.kia_one (PySem.W.kitx_exc hcl E.hg E.hk E.hs E.ha E.hn E.ht E.hm) I.kIn J k (fun z => nomatch z) fun tk => ⟨.bl b, H, I.tok tk, rfl, q⟩
/-- e.n of a kept error -/
def tKept (K : PySem.W.Frag) (n : Str) (te : TE) : TE := fun σ H Q => te σ H fun x H1 => ∃ (a D d : Addr) (fs : List (Str × V)) (v : V), x = .ref a ∧ H1 a = some (Kept a (.ref D) (some d)) ∧ H1 d = some (.xd fs) ∧ XfC K D ∧ PySem.W.findIn K (.ref D) n = some none ∧ fs.lookup n = some v ∧ Q v H1
theorem pe_kept (he : PE X e te) (hb : attributeBase e n X.env (eval e X.env) = eval e X.env := by rfl) : PE X (.Attribute e n pos) (tKept X.K n te) := by
  refine ⟨fun pins s σ H Q I h => attr_of hb (thn (he.run pins s σ H _ I h) fun u s1 ⟨x, H1, I1, rx, a, D, d, fs, v, ex, ha, hd, T, hno, l, q⟩ => ?_)⟩
  subst ex
  obtain rfl : u = Value.ref a := rx
  obtain ⟨o, od, J, ho, mA, hns, hr⟩ := inst_kept I1 ha hd
  obtain ⟨od', ho', hl⟩ := lookIn_ns hns
  rw [ho] at ho'
  cases ho'
  obtain ⟨y, hy, ry⟩ := RelO.some_of (v := v) (o := mA n) (by rw [← l]; exact hr n)
  exact HandSPX.exc_get I1.kIn J T.ga T.gg T.exC (PySem.W.findObj_own T.hdC hno rfl (by rw [hl, hy])) (handed_of ry) ⟨v, H1, I1.tok _, ry, q⟩
end
end NX

set_option Elab.async false
set_option linter.all false
set_option maxRecDepth 100000
set_option maxHeartbeats 4000000
/-! Rules of my own: the text that repr tells of made data, dicts in it too. -/
namespace NX
open PySem PySem.Spec PyProof.Rows L2
def keyD : Key → PyData
  | .inl i => .int i
  | .inr x => .str x
mutual
inductive Dr (K : PySem.W.Frag) (H : Hp) : V → PyData → Prop
  | non : Dr K H .non .none
  | bl (b : Bool) : Dr K H (.bl b) (.bool b)
  | int (i : Int) : Dr K H (.int i) (.int i)
  | str (x : Str) : Dr K H (.str x) (.str x)
  | lst {a : Addr} {xs : List V} {ds : List PyData} : SqL K H a xs → DrAll K H xs ds → Dr K H (.ref a) (.list ds)
  | tup {a : Addr} {xs : List V} {ds : List PyData} : SqT K H a xs → DrAll K H xs ds → Dr K H (.ref a) (.tuple ds)
  | dct {a : Addr} {kvs : List (Key × V)} {ds : List PyData} : H a = some (.dK kvs) → DrAll K H (kvs.map (·.2)) ds → Dr K H (.ref a) (.dict ((kvs.map fun p => keyD p.1).zip ds))
inductive DrAll (K : PySem.W.Frag) (H : Hp) : List V → List PyData → Prop
  | nil : DrAll K H [] []
  | cons {v : V} {vs : List V} {d : PyData} {ds : List PyData} : Dr K H v d → DrAll K H vs ds → DrAll K H (v :: vs) (d :: ds)
end
theorem DrAll.length {K : PySem.W.Frag} {H : Hp} : ∀ {vs : List V} {ds : List PyData}, DrAll K H vs ds → vs.length = ds.length
  | _, _, .nil => rfl
  | _, _, .cons _ t => congrArg (· + 1) t.length
/-- a dict stands at the place of the loaded modules -/
def SysB (h : Heap) : Prop := ∃ (o : Obj) (es : Array DictEntry) (ep : Nat), h.get? sysModules = some o ∧ o.data = .dict es ep
section
variable {X : Cx} {pins : List (Addr × Obj)} {σ : L2.St} {H : Hp} {s : Shared}
theorem key_reads {h : Heap} : ∀ {k : Key} {v : Value}, keyIs k v = true → Reads h v (keyD k) [] := fun {k v} e => by
  rcases keyIs_shape e with ⟨i, t, rfl, rfl⟩ | ⟨x, t, rfl, rfl⟩
  · exact Reads.int i t
  · exact Reads.str x t
theorem keys_read {h : Heap} {P : Program} {w : World} : ∀ {es : List DictEntry} {vs : List (Key × Value)}, Pairs (mixKind P w) es vs → ∃ as, ReadsAll h (es.map (·.key)) (vs.map fun p => keyD p.1) as ∧ as = [] ∧ es.map (·.val) = vs.map (·.2)
  | _, _, .nil => ⟨_, ReadsAll.nil, rfl, rfl⟩
  | _, _, .cons h1 h2 t => by
    obtain ⟨as, q, rfl, e⟩ := keys_read t
    exact ⟨_, ReadsAll.cons (key_reads h1) q, rfl, by rw [List.map_cons, List.map_cons, e, h2]⟩
theorem kv_vals : ∀ {ks : List (Key × V)} {vs : List (Key × Value)}, KV ks vs → Vals (ks.map (·.2)) (vs.map (·.2)) ∧ vs.map (fun p => keyD p.1) = ks.map (fun p => keyD p.1)
  | _, _, .nil => ⟨.nil, rfl⟩
  | _, _, .cons h t => by
    obtain ⟨q, e⟩ := kv_vals t
    exact ⟨.cons h.2 q, by rw [List.map_cons, List.map_cons, e, h.1]⟩
theorem zip_fst {α β : Type} : ∀ {l : List α} {m : List β}, l.length = m.length → (l.zip m).map (·.1) = l
  | [], [], _ => rfl
  | a :: l, b :: m, h => by rw [List.zip_cons_cons, List.map_cons, zip_fst (Nat.succ.inj h)]
theorem zip_snd {α β : Type} : ∀ {l : List α} {m : List β}, l.length = m.length → (l.zip m).map (·.2) = m
  | [], [], _ => rfl
  | a :: l, b :: m, h => by rw [List.zip_cons_cons, List.map_cons, zip_snd (Nat.succ.inj h)]
mutual
theorem Dr.reads (I : Inv X pins σ H s) (S : SysB X.base) : ∀ {v : V} {d : PyData}, Dr X.K H v d → ∀ (u : Value), RelV v u → ∃ as, Reads s.heap u d as ∧ sysModules ∉ as
  | _, _, .non, _, r => by
    cases r
    exact ⟨_, Reads.none, by simp⟩
  | _, _, .bl b, _, r => by
    cases r
    exact ⟨_, Reads.bool b, by simp⟩
  | _, _, .int i, _, r => by
    obtain ⟨t, rfl⟩ := r
    exact ⟨_, Reads.int i t, by simp⟩
  | _, _, .str x, _, r => by
    obtain ⟨t, rfl⟩ := r
    exact ⟨_, Reads.str x t, by simp⟩
  | _, _, .lst hs ha, _, r => by
    cases r
    obtain ⟨its, rv, ⟨o, n, ho, hc, _, hd⟩, _⟩ := I.list hs
    obtain ⟨as, hr, hn⟩ := DrAll.reads I S ha its rv
    refine ⟨_, Reads.list ho hc hd hr, fun hm => ?_⟩
    rcases List.mem_cons.mp hm with e | e
    · obtain ⟨o2, es2, ep2, k2, c2⟩ := S
      have q := (I.bs _ _ k2).1
      rw [e, ho] at q
      have q2 := Option.some.inj q
      rw [← q2, hd] at c2
      cases c2
    · exact hn e
  | _, _, .tup hs ha, _, r => by
    cases r
    obtain ⟨its, rv, ⟨o, ho, hc, n, hd⟩, _⟩ := I.tuple hs
    obtain ⟨as, hr, hn⟩ := DrAll.reads I S ha its rv
    exact ⟨_, Reads.tuple ho hc hd hr, hn⟩
  | _, _, @Dr.dct _ _ a kvs ds hs ha, _, r => by
    cases r
    obtain ⟨_, lo, vs, kv, o, es, ep, ho, hex, hd, _, hp, _⟩ := (show ObjOk X.prog X.w H s.heap a (.dK kvs) from I.hok a _ hs)
    obtain ⟨rv, ek⟩ := kv_vals kv
    obtain ⟨as, hr, hn⟩ := DrAll.reads I S ha _ rv
    obtain ⟨bs, hk, rfl, ev⟩ := keys_read (h := s.heap) hp
    have el : (kvs.map fun p => keyD p.1).length = ds.length := by
      rw [List.length_map, ← ha.length, List.length_map]
    refine ⟨_, Reads.dict ho hex.1 hd (as := []) (bs := as) (by rw [zip_fst el, ← ek]; exact hk) (by rw [zip_snd el, ev]; exact hr), fun hm => ?_⟩
    rcases List.mem_append.mp hm with e | e
    · rcases List.mem_cons.mp e with e | e
      · rw [← e] at lo
        simp at lo
      · simp at e
    · exact hn e
theorem DrAll.reads (I : Inv X pins σ H s) (S : SysB X.base) : ∀ {vs : List V} {ds : List PyData}, DrAll X.K H vs ds → ∀ (us : List Value), Vals vs us → ∃ as, ReadsAll s.heap us ds as ∧ sysModules ∉ as
  | _, _, .nil, _, r => by
    cases r
    exact ⟨_, ReadsAll.nil, by simp⟩
  | _, _, .cons h1 h2, _, r => by
    cases r with
    | cons r1 r2 =>
      obtain ⟨as, q1, n1⟩ := Dr.reads I S h1 _ r1
      obtain ⟨bs, q2, n2⟩ := DrAll.reads I S h2 _ r2
      exact ⟨_, ReadsAll.cons q1 q2, fun hm => (List.mem_append.mp hm).elim n1 n2⟩
end
/-- repr(x), x a list, a tuple or a dict -/
def rRepr (K : PySem.W.Frag) : List V → Hp → VK → Prop := fun xs H Q => ∃ (a : Addr) (d : PyData), xs = [.ref a] ∧ Dr K H (.ref a) d ∧ d.showable = true ∧ d.depth ≤ 50 ∧ d.shown.length ≤ sizeLine ∧ Q (.str d.shown) H
theorem call_repr (hg : X.A.guards = some []) (hu : X.A.units + 64 < cLine) (S : SysB X.base) : CallR X (.builtin "repr") (rRepr X.K) := by
  intro pins s σ H xs us Q I r h
  obtain ⟨a, d, rfl, hd, hs, hdp, hl, q⟩ := h
  cases r with
  | cons r1 r2 =>
    cases r2
    cases r1
    obtain ⟨as, hr, hn⟩ := Dr.reads I S hd _ rfl
    refine PySem.repr_of_reads' hr hs (fun _ => hn) hg (by omega) (fun _ _ e => e) (fun h' u tk k => ?_) hl
    exact ⟨.str d.shown, H, I.kept k, ⟨u, rfl⟩, q⟩
end
end NX

set_option Elab.async false
set_option linter.all false
set_option maxRecDepth 100000
set_option maxHeartbeats 4000000
/-! A rule of my own: «a, *b = xs», xs a list. -/
namespace NX
open PySem PySem.Spec PyProof.Rows L2
def gStar (K : PySem.W.Frag) (t : TGs) : TG := fun v σ H Q => ∃ (a : Addr) (x : V) (rest : List V), v = .ref a ∧ SqL K H a (x :: rest) ∧ rest.length < 16384 ∧ ∀ D, H D = none → t [x, .ref D] σ (upd H D (.lst rest)) Q
section
variable {X : Cx} {e1 e2 : Expr} {k : Nat} {pos sp : Pos} {t : TGs}
theorem pg_star (hc : X.calm = true) (h : PGs X [e1, e2] t) (hm : (assignEach [e1, .Starred e2 sp] X.env).map (·.2) = (assignEach [e1, e2] X.env).map (·.2) := by rfl) (hl : (assignEach [e1, .Starred e2 sp] X.env).length = 2 := by rfl)
    (hi : (assignEach [e1, .Starred e2 sp] X.env).findIdx? (·.1) = some 1 := by rfl) : PG X (.Tuple [e1, .Starred e2 sp] k pos) (gStar X.K t) := by
  refine ⟨fun pins s σ H v u Q I r hw => ?_⟩
  obtain ⟨a, x, rest, rfl, hq, hz, hw⟩ := hw
  cases r
  obtain ⟨its, rv, pl, _⟩ := I.list hq
  cases rv with
  | @cons _ u1 _ us ra rr =>
    have hlen : rest.length = us.length := Paired.length rr
    have ll := pl.isList
    have hlt : a ≠ s.heap.objs.size := by
      obtain ⟨o, ho, _⟩ := id ll
      exact Nat.ne_of_lt (Heap.lt_size ho)
    rw [PyProof.Rows.assign_Tuple]
    refine wpAny_bind (wpAny_standAt ?_)
    unfold unpack
    rw [hl, hi, hm]
    -- one is drawn, the others are collected, a new list is made of them
    have items : ∀ {R : List Value → Shared → Prop}, (∀ (h2 : Heap) tk, (∀ b o, s.heap.get? b = some o → h2.get? b = some o) → R [u1, .ref h2.objs.size] { s with heap := h2.push { cls := .type "list", data := .seq us.toArray }, toks := tk }) →
        wpAny (model X.prog X.w) X.A (unpackItems (.ref a) 2 (some 1)) R X.xe s := fun {R} hR => by
      unfold unpackItems
      refine wpAny_bind ?_
      unfold notIterableAtAll
      refine wpAny_bind (wpAny_specialOf ll.typeIs slot_list_iter.lookup (wpAny_pure ?_))
      simp only [Bool.false_eq_true, if_false]
      refine wpAny_bind (wpAny_holding (wpAny_pyIter_list ll ?_))
      refine wpAny_bind (wpAny_holding (PySem.W.kun_draw hlt 1 0 _ _ ⟨_, Heap.get?_push_size _ rfl, rfl, rfl⟩ (ll.push _) (by simp) fun h1 it1 sb1 => ?_))
      have l1 : h1.IsList a (u1 :: us).toArray := (ll.push _).extBut sb1.extBut hlt
      obtain ⟨oi, hoi, _⟩ := id it1
      obtain ⟨ol, hol, _⟩ := id l1
      have k1 : ∀ b o, s.heap.get? b = some o → h1.get? b = some o := fun b o e => sb1.extBut b o (Nat.ne_of_lt (Heap.lt_size e)) (Heap.get?_push_of_some _ e)
      show wpAny _ _ (if [u1].length < 1 then _ else _) _ _ _
      rw [if_neg (by simp)]
      refine wpAny_bind (wpAny_holding (PySem.W.kun_collect (s := { s with heap := h1 }) (T := "list_iterator") (.inr (.inr (.inl rfl))) (Walks.list (A := X.A.in1) (I.ok.hd hc) s.heap.objs.size a hlt (u1 :: us).toArray) (fun j u st => st.1.typeIs) (k := 1) (by simp) ⟨it1, l1⟩ (Heap.lt_size hoi) (Heap.lt_size hol) (fun h2 tk k2 => ?_) (by rw [sizeLine_eq]; simp; omega)))
      have e0 : (u1 :: us).toArray.toList.drop 1 = us := by simp
      rw [e0]
      show wpAny _ _ (if us.length < 2 - 1 - 1 then _ else _) _ _ _
      rw [if_neg (by omega)]
      have e1 : us.take (us.length - (2 - 1 - 1)) = us := by simp
      have e2 : us.drop (us.length - (2 - 1 - 1)) = [] := by simp
      have K2 : ∀ b o, s.heap.get? b = some o → h2.get? b = some o := fun b o e => k2 b o (Nat.ne_of_lt (Heap.lt_size e)) (k1 b o e)
      refine wpAny_bind (wpAny_newList (s := { s with heap := h2, toks := tk }) (wpAny_pure ?_) (by rw [e1, sizeLine_eq]; omega))
      have q := hR h2 tk K2
      rw [e1, e2]
      exact q
    refine wpAny_bind (wpAny_holding (items fun h2 tk kp => ?_))
    have I2 : Inv X pins σ H { s with heap := h2, toks := tk } := I.kept kp
    have hn : H h2.objs.size = none := I2.hok.fresh (Nat.le_refl _)
    have J : Inv X pins σ (upd H h2.objs.size (.lst rest)) { s with heap := h2.push { cls := .type "list", data := .seq us.toArray }, toks := tk } :=
      I2.laid (t' := tk) (h' := h2.push { cls := .type "list", data := .seq us.toArray }) (fun b o e => Heap.get?_push_of_some _ e) (Nat.le_refl _) ⟨by rw [sizeLine_eq]; omega, us, 0, rr, Heap.get?_push_size _ rfl⟩
    exact h.run pins _ σ _ [x, .ref h2.objs.size] [u1, .ref h2.objs.size] Q J (.cons ra (.cons rfl .nil)) (hw _ hn)
end
end NX

set_option Elab.async false
set_option linter.all false
set_option maxRecDepth 100000
set_option maxHeartbeats 4000000
/-! Rules of my own: == and != of an object whose class has an own equality; any answer, any other side. -/
namespace NX
open PySem PySem.Spec PyProof.Rows L2
/-- what the class at C says of == and != -/
structure EqC (K : PySem.W.Frag) (C f : Addr) : Prop where
  cl : Cls K C
  eq : PySem.W.findIn K (.ref C) "__eq__" = some (some (.ref f))
  ne : PySem.W.findIn K (.ref C) "__ne__" = some (some (.builtin "object.__ne__"))
  fn : PySem.W.isFn K (.ref f) = true
  ob : PySem.W.mroIn K C (.type "object") = some true
section
variable {X : Cx} {n : Nat} {f : Addr} {fd : FuncData} {ps : List Str} {sp : Sp} {CX : CXT} {E : XK}
/-- the own equality is called by the machine -/
theorem run_own (F : FnOk X.prog X.w X.K X.mg X.base CX n f fd ps sp) (hb : Binds X.K fd ps []) (hx : Passes CX X E) {A : Around} {pins : List (Addr × Obj)} {σ : L2.St} {H : Hp} {s : Shared} {x y : V} {u v : Value} {Q : VK}
    (sb : Sub X n A) (I : Inv X pins σ H s) (rx : RelV x u) (ry : RelV y v) (q : sp [x, y] H Q E) : wpAny (model X.prog X.w) A (call (.ref f) [u, v]) (EP X pins σ Q) X.xe s := by
  have e := I.env0
  have e0 : Env0 X.prog X.w X.K X.mg X.base A X.stack s H := ⟨by rw [sb.fr]; exact e.frames, e.mod, e.bs, e.bsz, e.funs, e.frf, e.hok, e.bare⟩
  have hl : [u, v].length = ps.length := (F.len _ _ _ _ q)
  have r2 : Vals [x, y] [u, v] := .cons rx (.cons ry .nil)
  refine wpAny_call (codeAny_mono (F.run A X.stack s H ⟨[u, v], []⟩ [u, v] [x, y] Q E sb.room e0 (by
    have z := hb s [u, v] I.kIn (by simpa using hl)
    simpa using z) r2 q) fun r s' hq => ?_)
  cases r with
  | error er => exact hx pins σ H s er s' I hq
  | ok fl =>
    cases fl with
    | ret w => exact I.after hq
    | next => exact False.elim hq
    | brk => exact False.elim hq
    | cont => exact False.elim hq
def rOwn (K : PySem.W.Frag) (f : Addr) (sp : Sp) (E : XK) (neg : Bool) : R2 := fun x y H Q => ∃ (a C dx : Addr) (fs : List (Str × V)) (tb : Value), x = .ref a ∧ H a = some (.ins C dx fs) ∧ EqC K C f ∧ PySem.W.notFirst K C tb = true ∧ TyX K H y tb ∧
  sp [x, y] H (fun v H' => ∃ b, v = .bl b ∧ Q (.bl (if neg then !b else b)) H') E
theorem op_eqOwn (F : FnOk X.prog X.w X.K X.mg X.base CX n f fd ps sp) (hb : Binds X.K fd ps []) (hx : Passes CX X E) (hr : Room n X.A) : OpR X (compareOp .Eq) (rOwn X.K f sp E false) := by
  intro pins s σ H x y u v Q I rx ry h
  obtain ⟨a, C, dx, fs, tb, rfl, ha, T, nf, ty, q⟩ := h
  obtain rfl : u = Value.ref a := rx
  obtain ⟨mA, O, _⟩ := ins_get I.hok ha
  obtain ⟨od, J, _⟩ := O.look
  obtain ⟨m, fr⟩ := I.fr
  obtain ⟨P, Z, p, _⟩ := kit_of I ry ty
  show wpAny (model X.prog X.w) X.A (richCompare .Eq (.ref a) v) (EP X pins σ Q) X.xe s
  refine PySem.W.cmp_K (op := .Eq) (tb := tb) hr.units0 fr I.ok.mod.kin J (Z.ty _ _ I.kIn p) nf T.eq T.fn ?_
  refine wpAny_mono (run_own (x := .ref a) F hb hx ⟨hr, rfl⟩ I rfl ry q) (fun r s' hq => ?_) fun _ _ z => z
  obtain ⟨w, H', I', rw', b, rfl, q'⟩ := hq
  obtain rfl : r = Value.bool b := rw'
  exact ⟨.bl b, H', I', rfl, q'⟩
end
end NX
namespace NX
open PySem PySem.W PyProof.Rows Builtin
section
variable {prog : Program} {w : World} {A : Around} {E : Value → Shared → Prop} {s : Shared} {K : Frag} {x C f : Addr} {ox : Obj} {od : Option Obj} {b tb : Value}
/-- object.__ne__ found by the class is bound and called -/
theorem bound_ne {M : Model} {args : List Value} {Q : Option Value → Shared → Prop} (X : K.In s.heap) (I : InstAt s.heap x ox C od) (hs : findIn K (.ref C) "__ne__" = some (some (.builtin "object.__ne__")))
    (h : wpAny M A (call (.builtin "object.__ne__") (.ref x :: args)) (fun v => Q (some v)) E s) : wpAny M A (callSpecialIfBound? (.ref x) "__ne__" args) Q E s := by
  simp only [callSpecialIfBound?, bindSpecialIfBound?]
  refine wpAny_holding (wpAny_bind (wpAny_bind (wpAny_bind (I.type.here ((looks_findIn X hs).here ?_)))))
  simp only [F.cmp_object.ne.bind]
  have last : wpAny M A (call (.builtin "object.__ne__") ([.ref x] ++ args) >>= fun v => pure (some v)) Q E s := wpAny_bind (wpAny_mono h (fun v s' q => wpAny_pure q) fun _ _ q => q)
  refine wpAny_bind (wpAny_askSetting (wpAny_ite ?_))
  split
  · exact wpAny_bind (wpAny_pure (wpAny_pure last))
  · exact wpAny_tryCatch (wpAny_bind (wpAny_pure (wpAny_pure last)))
/-- .. and asks the own equality, whose answer it turns -/
theorem call_ne {Q : Value → Shared → Prop} (hu : A.units + 1 < cLine) (X : K.In s.heap) (I : InstAt s.heap x ox C od) (he : findIn K (.ref C) "__eq__" = some (some (.ref f))) (hf : isFn K (.ref f) = true) (ho : mroIn K C (.type "object") = some true)
    (h : wpAny (model prog w) A.in1 (call (.ref f) [.ref x, b]) (fun v s' => ∃ k, v = .bool k ∧ Q (.bool (!k)) s') E s) : wpAny (model prog w) A (call (.builtin "object.__ne__") [.ref x, b]) Q E s := by
  obtain ⟨hp, g, d, t, os⟩ := s
  have sub : Looks (model prog w) hp (isInstance (.ref x) (.type "object")) true := I.type.andThen (looks_mroIn X ho)
  refine wpAny_call (codeAny_call_builtin F.cmp_object.ne.plain F.cmpEntry_ne (@check_slot (model prog w) _ _ ⟨hp, g, d, t, os⟩ "object.__ne__" "object" "__ne__" (.ref x) [b] [] _ F.cmpKind_ne F.cmpSplit_ne sub (F.cmpArgs_ne _ _) ?_))
  unfold Builtin.«object.__ne__»
  repeat (first
    | with_reducible refine wpAny_cRoomFor (show A.in1.units < cLine from hu) ?_
    | (refine wpAny_bind (m := callSpecialIfBound? (.ref x) (Str.ofString "__eq__") [b]) (ifBound_K X I he hf (wpAny_mono h (fun r s' hr => ?_) fun _ _ e => e)))
    | wp_step)
  obtain ⟨k, rfl, q⟩ := hr
  exact wpAny_bind (wpAny_truthy_bool (wpAny_pure q))
/-- x != b -/
theorem rich_ne {Q : Value → Shared → Prop} (hu : A.units + 1 < cLine) (X : K.In s.heap) (I : InstAt s.heap x ox C od) (hb : Looks (model prog w) s.heap (typeOf b) tb) (hn : notFirst K C tb = true) (hs : findIn K (.ref C) "__ne__" = some (some (.builtin "object.__ne__")))
    (he : findIn K (.ref C) "__eq__" = some (some (.ref f))) (hf : isFn K (.ref f) = true) (ho : mroIn K C (.type "object") = some true)
    (h : wpAny (model prog w) A.in1 (call (.ref f) [.ref x, b]) (fun v s' => ∃ k, v = .bool k ∧ Q (.bool (!k)) s') E s) : wpAny (model prog w) A (richCompare .NotEq (.ref x) b) Q E s := by
  have one : wpAny (model prog w) A (tryCompare (.ref x) "__ne__" b) (fun r s' => ∃ k, r = some (.bool k) ∧ Q (.bool k) s') E s := by
    unfold tryCompare
    refine wpAny_bind (bound_ne X I hs (call_ne (Q := fun v s' => ∃ k, v = .bool k ∧ Q (.bool k) s') hu X I he hf ho (wpAny_mono h (fun v s' ⟨k, e, q⟩ => ⟨k, e, _, rfl, q⟩) fun _ _ e => e) |> fun z => wpAny_mono z (fun v s' ⟨k, e, q⟩ => ?_) fun _ _ e => e))
    subst e
    exact wpAny_pure ⟨k, rfl, q⟩
  unfold richCompare
  simp only [oneThing_ref]
  refine wpAny_holding (wpAny_bind (wpAny_cRoomFor (Nat.lt_of_succ_lt hu) ?_))
  rw [cmpInfo_NotEq]
  dsimp only
  refine wpAny_bind (I.type.here (wpAny_bind (hb.here ?_)))
  split
  · rename_i q
    have e : subIn K tb (.ref C) = some false := by
      rcases Bool.or_eq_true_iff.mp hn with e | e
      · rw [beq_iff_eq.mp e] at q
        simp at q
      · exact beq_iff_eq.mp e
    refine wpAny_bind ((looks_subIn X e).here ?_)
    simp only [Bool.false_eq_true, if_false]
    refine wpAny_bind (wpAny_mono one (fun r s' ⟨k, z, hq⟩ => ?_) fun _ _ e => e)
    subst z
    exact wpAny_pure hq
  · refine wpAny_bind (wpAny_pure ?_)
    simp only [Bool.false_eq_true, if_false]
    refine wpAny_bind (wpAny_mono one (fun r s' ⟨k, z, hq⟩ => ?_) fun _ _ e => e)
    subst z
    exact wpAny_pure hq
end
end NX
namespace NX
open PySem PySem.Spec PyProof.Rows L2
section
variable {X : Cx} {n : Nat} {f : Addr} {fd : FuncData} {ps : List Str} {sp : Sp} {CX : CXT} {E : XK}
theorem op_neOwn (F : FnOk X.prog X.w X.K X.mg X.base CX n f fd ps sp) (hb : Binds X.K fd ps []) (hx : Passes CX X E) (hr : Room (n + 1) X.A) : OpR X (compareOp .NotEq) (rOwn X.K f sp E true) := by
  intro pins s σ H x y u v Q I rx ry h
  obtain ⟨a, C, dx, fs, tb, rfl, ha, T, nf, ty, q⟩ := h
  obtain rfl : u = Value.ref a := rx
  obtain ⟨mA, O, _⟩ := ins_get I.hok ha
  obtain ⟨od, J, _⟩ := O.look
  obtain ⟨P, Z, p, _⟩ := kit_of I ry ty
  show wpAny (model X.prog X.w) X.A (richCompare .NotEq (.ref a) v) (EP X pins σ Q) X.xe s
  refine rich_ne (hu_of hr) I.kIn J (Z.ty _ _ I.kIn p) nf T.ne T.eq T.fn T.ob (wpAny_mono (run_own (x := .ref a) F hb hx ⟨hr.in1, rfl⟩ I rfl ry q) (fun r s' hq => ?_) fun _ _ z => z)
  obtain ⟨w, H', I', rw', b, rfl, q'⟩ := hq
  obtain rfl : r = Value.bool b := rw'
  exact ⟨b, rfl, .bl (!b), H', I', rfl, q'⟩
end
end NX

set_option Elab.async false
set_option linter.all false
set_option maxRecDepth 100000
set_option maxHeartbeats 4000000
/-! A rule of my own: C.m(k=e, ..), m a classmethod, by keywords alone. -/
namespace NX
open PySem PySem.Spec PyProof.Rows L2
section
variable {X : Cx} {CX : CXT} {k : Nat} {C p g : Addr} {mc : Value} {sp : Sp} {E : XK} {o : Expr} {kws : List Keyword} {m : Str} {pos apos : Pos} {ta : TE} {t : TA} {pl : Sem Bool} {fd : FuncData} {ps ks : List Str}
theorem pe_cmethK (he : PE X o ta) (r : ClX.CRead X.K C mc) (c : ClX.CMet X.K C mc m p g) (F : FnOk X.prog X.w X.K X.mg X.base CX k g fd ps sp) (hb : ∀ (s : Shared) (us : List Value), us.length + 1 = ps.length → BindsTo s fd ⟨[.ref C], ks.zip us⟩ (ps.zip (.ref C :: us)))
    (hr : Room k X.A) (hx : Passes CX X E) (ha : PK X kws t) (hall : (backToKw pos (keywordEach kws X.env)).all (·.1.isSome) = true := by rfl) (hks : (backToKw pos (keywordEach kws X.env)).filterMap (·.1) = ks := by rfl)
    (hpl : ((backTo pos (starEach [] X.env)).any (·.1) || (backToKw pos (keywordEach kws X.env)).any (·.1.isNone)) = false := by rfl)
    (ht : eval (.Call (.Attribute o m apos) [] kws pos) X.env = (do
      let ov ← eval o X.env
      standAt apos.atName
      let (f, first) ← holding [ov] (getMethod ov m pl)
      callWith pos f first (backTo pos (starEach [] X.env)) (backToKw pos (keywordEach kws X.env))) := by rfl) :
    PE X (.Call (.Attribute o m apos) [] kws pos) (ClX.tCMeth C sp E ta t) := by
  refine ⟨fun pins s σ H Q I h => PySem.W.methodCall_KW (pl := pl) (thn (he.run pins s σ H _ I h) fun u s1 ⟨x, H1, I1, rx, ex, q⟩ => ?_) ht⟩
  subst ex
  obtain rfl : u = Value.ref C := rx
  refine ClX.getmethcm_ok I1 r c fun s2 I2 => ?_
  refine PySem.W.callWith_of hpl (PySem.W.keeps_M (K := X.K) (self := .ref C) c.fi) (PyProof.Rows.evalArgs_kw2_nil hall (thn (ha.run pos _ s2 σ H1 _ I2 q) fun us s3 ⟨vs, H2, I3, rv, q2⟩ => ⟨⟨ClX.pin_at I3, I3.kIn⟩, ?_⟩))
  rw [hks]
  have r2 : Vals (V.ref C :: vs) (Value.ref C :: us) := .cons rfl rv
  have hl : us.length + 1 = ps.length := by
    have z := F.len _ _ _ _ q2
    rw [← z, r2.length]
    rfl
  have z : wpAny (model X.prog X.w) X.A (call (.ref s1.heap.objs.size) ([] ++ []) (ks.zip us)) (EP X ((s1.heap.objs.size, PySem.W.methodObj (.ref g) (.ref C)) :: pins) σ Q) X.xe s3 := by
    refine wpAny_call (PySem.W.method_call (ClX.pin_at I3) (codeAny_mono (F.run X.A X.stack s3 H2 ⟨[.ref C], ks.zip us⟩ (.ref C :: us) (.ref C :: vs) Q E hr I3.env0 (hb s3 us hl) r2 q2) fun r s' hq => ?_))
    cases r with
    | error er => exact hx _ σ H2 s3 er s' I3 hq
    | ok fl =>
      cases fl with
      | ret w => exact I3.after hq
      | next => exact False.elim hq
      | brk => exact False.elim hq
      | cont => exact False.elim hq
  exact thn z fun _ _ y => ClX.unpinE y
end
end NX

set_option linter.all false
namespace NX
open PySem PySem.Builtin PySem.Builtin.Str
theorem tw_all {p : Nat → Bool} : ∀ {l : List Nat}, l.all p = true → l.takeWhile p = l
  | [], _ => rfl
  | c :: r, h => by
    rw [List.all_cons, Bool.and_eq_true] at h
    rw [List.takeWhile_cons, if_pos h.1, tw_all h.2]
theorem tw_lt {p : Nat → Bool} {l : List Nat} (h : l.all p = false) : (l.takeWhile p).length < l.length := by
  induction l with
  | nil => simp at h
  | cons c r ih =>
    rw [List.all_cons] at h
    rw [List.takeWhile_cons]
    by_cases hc : p c = true
    · rw [if_pos hc, List.length_cons, List.length_cons]
      rw [hc, Bool.true_and] at h
      have := ih h
      omega
    · rw [if_neg hc]
      simp
theorem drop_all {p : Nat → Bool} {l : List Nat} (h : l.all p = false) : (l.drop (l.takeWhile p).length).all p = false := by
  induction l with
  | nil => simp at h
  | cons c r ih =>
    rw [List.all_cons] at h
    rw [List.takeWhile_cons]
    by_cases hc : p c = true
    · rw [if_pos hc, List.length_cons, List.drop_succ_cons]
      rw [hc, Bool.true_and] at h
      exact ih h
    · rw [if_neg hc]
      simp [hc]
theorem strip_empty (x y : Str) : (Txt.stripChars x y = ("" : Str)) ↔ x.cps.toList.all y.cps.contains = true := by
  have len : x.length = x.cps.toList.length := by show x.cps.size = _; simp
  have empty : ∀ {z : Str}, z = ("" : Str) ↔ z.cps.toList = [] := fun {z} => by
    constructor
    · intro e
      rw [e]
      decide +kernel
    · intro e
      obtain ⟨⟨l⟩⟩ := z
      have e' : l = [] := e
      subst e'
      decide +kernel
  unfold Txt.stripChars Txt.stripBy stripSame stripped stripLo stripHi
  simp only [if_true]
  cases ha : x.cps.toList.all y.cps.contains with
  | true =>
    rw [tw_all ha]
    refine ⟨fun _ => rfl, fun _ => ?_⟩
    split
    · rename_i q
      rw [Bool.and_eq_true, beq_iff_eq] at q
      exact empty.mpr (List.length_eq_zero_iff.mp q.1)
    · refine empty.mpr ?_
      simp [strSub, len]
  | false =>
    refine ⟨fun e => ?_, fun e => by cases e⟩
    exfalso
    have h1 := tw_lt ha
    have h2 : (((x.cps.toList.drop (x.cps.toList.takeWhile y.cps.contains).length).reverse).takeWhile y.cps.contains).length < (x.cps.toList.drop (x.cps.toList.takeWhile y.cps.contains).length).length := by
      have := tw_lt (p := y.cps.contains) (l := (x.cps.toList.drop (x.cps.toList.takeWhile y.cps.contains).length).reverse) (by rw [List.all_reverse]; exact drop_all ha)
      rwa [List.length_reverse] at this
    rw [List.length_drop] at h2
    split at e
    · rw [empty] at e
      rw [e] at ha
      cases ha
    · rw [empty] at e
      have q := congrArg List.length e
      simp [strSub] at q
      rw [len] at q
      simp at q h1 h2
      omega
/-- a small letter -/
def lett (c : Nat) : Bool := decide (97 ≤ c) && decide (c ≤ 122)
theorem letters_list : ("abcdefghijklmnopqrstuvwxyz" : Str).cps.toList = List.range' 97 26 := by decide +kernel
theorem letters_mem (c : Nat) : c ∈ ("abcdefghijklmnopqrstuvwxyz" : Str).cps.toList ↔ lett c = true := by
  rw [letters_list, List.mem_range'_1]
  unfold lett
  rw [Bool.and_eq_true, decide_eq_true_eq, decide_eq_true_eq]
  omega
theorem letters_has (c : Nat) : ("abcdefghijklmnopqrstuvwxyz" : Str).cps.contains c = lett c := by
  rw [Bool.eq_iff_iff, Array.contains_iff_mem, ← Array.mem_toList_iff]
  exact letters_mem c
/-- is it a name -/
def nm (z : Str) : Bool := decide (1 ≤ z.length) && (decide (z.length ≤ 6) && z.cps.toList.all lett)
theorem strip_nm (z : Str) : decide (Txt.stripChars z ("abcdefghijklmnopqrstuvwxyz" : Str) = ("" : Str)) = z.cps.toList.all lett := by
  rw [Bool.eq_iff_iff, decide_eq_true_eq, strip_empty]
  have e : ("abcdefghijklmnopqrstuvwxyz" : Str).cps.contains = lett := funext letters_has
  rw [e]
end NX

set_option Elab.async false
set_option linter.all false
set_option maxRecDepth 100000
set_option maxHeartbeats 4000000
/-! A rule of my own: str(x) of an object whose class has an own text. -/
namespace NX
open PySem PySem.Spec PyProof.Rows L2
section
variable {X : Cx} {n : Nat} {f : Addr} {fd : FuncData} {ps : List Str} {sp : Sp} {CX : CXT} {E : XK}
theorem run_own1 (F : FnOk X.prog X.w X.K X.mg X.base CX n f fd ps sp) (hb : Binds X.K fd ps []) (hx : Passes CX X E) {A : Around} {pins : List (Addr × Obj)} {σ : L2.St} {H : Hp} {s : Shared} {x : V} {u : Value} {Q : VK}
    (sb : Sub X n A) (I : Inv X pins σ H s) (rx : RelV x u) (q : sp [x] H Q E) : wpAny (model X.prog X.w) A (call (.ref f) [u]) (EP X pins σ Q) X.xe s := by
  have e := I.env0
  have e0 : Env0 X.prog X.w X.K X.mg X.base A X.stack s H := ⟨by rw [sb.fr]; exact e.frames, e.mod, e.bs, e.bsz, e.funs, e.frf, e.hok, e.bare⟩
  have hl : [u].length = ps.length := (F.len _ _ _ _ q)
  have r2 : Vals [x] [u] := .cons rx .nil
  refine wpAny_call (codeAny_mono (F.run A X.stack s H ⟨[u], []⟩ [u] [x] Q E sb.room e0 (by
    have z := hb s [u] I.kIn (by simpa using hl)
    simpa using z) r2 q) fun r s' hq => ?_)
  cases r with
  | error er => exact hx pins σ H s er s' I hq
  | ok fl =>
    cases fl with
    | ret w => exact I.after hq
    | next => exact False.elim hq
    | brk => exact False.elim hq
    | cont => exact False.elim hq
structure StrC (K : PySem.W.Frag) (C f : Addr) : Prop where
  st : PySem.W.findIn K (.ref C) "__str__" = some (some (.ref f))
  fn : PySem.W.isFn K (.ref f) = true
def rStrOwn (K : PySem.W.Frag) (f : Addr) (sp : Sp) (E : XK) : List V → Hp → VK → Prop := fun xs H Q => ∃ (a C dx : Addr) (fs : List (Str × V)), xs = [.ref a] ∧ H a = some (.ins C dx fs) ∧ StrC K C f ∧
  sp [.ref a] H (fun v H' => ∃ z, v = .str z ∧ Q (.str z) H') E
theorem call_strOwn (F : FnOk X.prog X.w X.K X.mg X.base CX n f fd ps sp) (hb : Binds X.K fd ps []) (hx : Passes CX X E) (hr : Room (n + 2) X.A) : CallR X (.type "str") (rStrOwn X.K f sp E) := by
  intro pins s σ H xs us Q I r h
  obtain ⟨a, C, dx, fs, rfl, ha, T, q⟩ := h
  obtain ⟨u, rfl, r1⟩ : ∃ u, us = [u] ∧ RelV (.ref a) u := by
    cases r with
    | cons r1 rn => cases rn; exact ⟨_, rfl, r1⟩
  obtain rfl : u = Value.ref a := r1
  obtain ⟨mA, O, _⟩ := ins_get I.hok ha
  obtain ⟨od, J, _⟩ := O.look
  refine PySem.W.kso_call hr.in1.in1.units0 I.kIn J T.st T.fn (wpAny_mono (run_own1 (x := .ref a) F hb hx ⟨hr.in1.in1, rfl⟩ I rfl q) (fun v s' hq => ?_) fun _ _ z => z)
  obtain ⟨w, H', I', rw', z, rfl, q'⟩ := hq
  obtain ⟨t, rfl⟩ := rw'
  exact ⟨.str z, H', I', ⟨t, rfl⟩, q'⟩
end
end NX

set_option Elab.async false
set_option linter.all false
set_option maxRecDepth 100000
set_option maxHeartbeats 4000000
namespace K94
open PySem L2
def top (i : Nat) : Stmt := PySem.Challenge.pw_loopstow_k94_plans_written.main.body.getD i (.Pass ⟨0, 0, 0, 0⟩)
abbrev sPen : Stmt := top 24
abbrev sDraw : Stmt := top 25
abbrev sPick : Stmt := top 26
/-- the pen's dict -/
def pd (c : Addr) (r s n : Int) : List (Key × V) := [(.inr "cells", .ref c), (.inr "rest", .int r), (.inr "seed", .int s), (.inr "count", .int n)]
theorem put_r (c : Addr) (r s n x : Int) : putK (pd c r s n) (.inr (Str.ofString "rest")) (.int x) = pd c x s n := by rfl
theorem put_s (c : Addr) (r s n x : Int) : putK (pd c r s n) (.inr (Str.ofString "seed")) (.int x) = pd c r x n := by rfl
theorem put_n (c : Addr) (r s n x : Int) : putK (pd c r s n) (.inr (Str.ofString "count")) (.int x) = pd c r s x := by rfl
theorem val_c (c : Addr) (r s n : Int) : valV (pd c r s n) (.inr (Str.ofString "cells")) = some (.ref c) := by rfl
theorem val_r (c : Addr) (r s n : Int) : valV (pd c r s n) (.inr (Str.ofString "rest")) = some (.int r) := by rfl
theorem val_s (c : Addr) (r s n : Int) : valV (pd c r s n) (.inr (Str.ofString "seed")) = some (.int s) := by rfl
theorem val_n (c : Addr) (r s n : Int) : valV (pd c r s n) (.inr (Str.ofString "count")) = some (.int n) := by rfl
theorem pd_len {c : Addr} {r s n : Int} : (pd c r s n).length < sizeLine := by show 4 < sizeLine; decide
/-- the pen at p: its cells at c, what is left of a cell, the seed, how many draws were made without a cell -/
structure Pen (H : Hp) (p c : Addr) (ns : List Int) (r s n : Int) : Prop where
  hp : H p = some (.dK (pd c r s n))
  hc : H c = some (.lst (ns.map V.int))
  lr : 0 ≤ r
  ls : 0 ≤ s
  lt : s < 2147483587
  ln : 0 ≤ n
theorem Pen.ne {H : Hp} {p c : Addr} {ns : List Int} {r s n : Int} (P : Pen H p c ns r s n) : c ≠ p := fun e => by
  have h1 := P.hp
  rw [← e, P.hc] at h1
  injection h1 with h
  cases h
/-- all but what stands at p and c is as it was -/
def But (p c : Addr) (H H' : Hp) : Prop := ∀ b o, H b = some o → b ≠ p → b ≠ c → H' b = some o
/-- what a draw leaves -/
def Drawn (H : Hp) (p c : Addr) (m : Int) (H' : Hp) : Prop := ∃ ns r s n, Pen H' p c ns r s n ∧ n ≤ m ∧ But p c H H'
def spDraw : Sp := fun vs H Q _ => ∃ (p c : Addr) (ns : List Int) (r s n many : Int), vs = [.ref p, .int many] ∧ Pen H p c ns r s n ∧ n ≤ 1000000 ∧ 1 ≤ many ∧ many < 1000000000 ∧
  ∀ d H', 0 ≤ d → d < many → Drawn H p c (n + 1) H' → Q (.int d) H'
theorem scDraw : FnScope ["_law_pen_here", "_law_many", "_law_cell", "_law_digit"] ["_law_pen_here", "_law_many"] (defScope sDraw) := ⟨rfl, rfl, rfl, by decide +kernel, rfl, by decide +kernel, by decide +kernel⟩
theorem dpInts {K : PySem.W.Frag} {H : Hp} : ∀ ns : List Int, DpAll K H (ns.map V.int) (ns.map PyData.int)
  | [] => .nil
  | n :: r => .cons (.int n) (dpInts r)
structure TxtB (mg : Str → Option Value) : Prop where
  bint : mg "int" = none
  blen : mg "len" = none
  babs : mg "abs" = none
  blist : mg "list" = none
  bstr : mg "str" = none
  btuple : mg "tuple" = none
  bisinstance : mg "isinstance" = none
  brepr : mg "repr" = none
  brange : mg "range" = none
  benumerate : mg "enumerate" = none
  bVE : mg "ValueError" = none
section
variable {P : Program} {w : World} {K : PySem.W.Frag} {mg : Str → Option Value} {base : Heap}
theorem get_r {H : Hp} {p c : Addr} {ns : List Int} {r s n : Int} (P : Pen H p c ns r s n) : DGet H p (.str (Str.ofString "rest")) (some (.int r)) := DGet.k (k := .inr (Str.ofString "rest")) P.hp
theorem get_s {H : Hp} {p c : Addr} {ns : List Int} {r s n : Int} (P : Pen H p c ns r s n) : DGet H p (.str (Str.ofString "seed")) (some (.int s)) := DGet.k (k := .inr (Str.ofString "seed")) P.hp
theorem get_n {H : Hp} {p c : Addr} {ns : List Int} {r s n : Int} (P : Pen H p c ns r s n) : DGet H p (.str (Str.ofString "count")) (some (.int n)) := DGet.k (k := .inr (Str.ofString "count")) P.hp
theorem get_c {H : Hp} {p c : Addr} {ns : List Int} {r s n : Int} (P : Pen H p c ns r s n) : DGet H p (.str (Str.ofString "cells")) (some (.ref c)) := DGet.k (k := .inr (Str.ofString "cells")) P.hp
theorem ok_draw {f : Addr} {fd : FuncData} (F : Fun K "_law_draw" "_law_draw" sDraw f fd) (T : TxtB mg) : FnOk P w K mg base CX0 1 f fd ["_law_pen_here", "_law_many"] spDraw := by
  refine F.ok scDraw (fun vs H Q E h => ?_) (fun cdv A outer s H vs Q E hr h => ?_)
  · obtain ⟨p, c, ns, r, s, n, m, rfl, _⟩ := h
    rfl
  · obtain ⟨p, c, ns, r, sd, n, many, rfl, Pn, hn, hm1, hm2, k⟩ := h
    have hu := hu_of hr
    refine ⟨_, (C8.pss_cut (ps_if (PW.pt (pw_and (pt_cmpR op_eq (pe_dget hu (pv 0) pe_str (fun _ _ => rfl)) pe_int (nomark _)) (pw_and1 (pt_cmpR (op_neD hr.units) (pe_dget hu (pv 0) pe_str (fun _ _ => rfl)) (pe_lst pa_nil) (nomark _))))) (pss_cons (ps_set (i := 2) scDraw.nd rfl (Or.inl rfl) (pe_callB call_abs (by rfl) T.babs (by decide +kernel) (pa_cons (pe_callTy call_int1 (by rfl) T.bint (by decide +kernel) (pa_cons (pe_bm PySem.F.plainAttrs_list PySem.F.slot_list_pop PySem.F.type_list_pop mt_popAt (pe_dget hu (pv 0) pe_str (fun _ _ => rfl)) (pa_cons pe_int pa_nil)) pa_nil)) pa_nil)))
      (pss_cons (ps_dput hu (pv 0) pe_str (pv 2) rfl)
      (pss_one (ps_dput hu (pv 0) pe_str (pe_op op_mod (pe_callTy call_int1 (by rfl) T.bint (by decide +kernel) (pa_cons (pe_op op_add (pe_op op_mul (pe_callTy call_int1 (by rfl) T.bint (by decide +kernel) (pa_cons (pe_dget hu (pv 0) pe_str (fun _ _ => rfl)) pa_nil)) pe_int) (pv 2)) pa_nil)) pe_int) rfl)))) pss_nil)
      (pss_cons (ps_if (pt_cmpR op_gt (pe_dget hu (pv 0) pe_str (fun _ _ => rfl)) pe_int (nomark _)) (pss_cons (ps_set (i := 3) scDraw.nd rfl (Or.inl rfl) (pe_op op_mod (pe_callTy call_int1 (by rfl) T.bint (by decide +kernel) (pa_cons (pe_dget hu (pv 0) pe_str (fun _ _ => rfl)) pa_nil)) (pv 1)))
      (pss_cons (ps_dput hu (pv 0) pe_str (pe_op op_fdiv (pe_callTy call_int1 (by rfl) T.bint (by decide +kernel) (pa_cons (pe_dget hu (pv 0) pe_str (fun _ _ => rfl)) pa_nil)) (pv 1)) rfl)
      (pss_one (ps_ret (pv 3))))) pss_nil)
      (pss_cons (ps_dput hu (pv 0) pe_str (pe_op op_add (pe_callTy call_int1 (by rfl) T.bint (by decide +kernel) (pa_cons (pe_dget hu (pv 0) pe_str (fun _ _ => rfl)) pa_nil)) pe_int) rfl)
      (pss_cons (ps_dput hu (pv 0) pe_str (pe_op op_mod (pe_callTy call_int1 (by rfl) T.bint (by decide +kernel) (pa_cons (pe_op op_add (pe_op op_mul (pe_callTy call_int1 (by rfl) T.bint (by decide +kernel) (pa_cons (pe_dget hu (pv 0) pe_str (fun _ _ => rfl)) pa_nil)) pe_int) (pe_op op_mul pe_int (pe_callTy call_int1 (by rfl) T.bint (by decide +kernel) (pa_cons (pe_dget hu (pv 0) pe_str (fun _ _ => rfl)) pa_nil)))) pa_nil)) pe_int) rfl)
      (pss_one (ps_ret (pe_op op_mod (pe_callTy call_int1 (by rfl) T.bint (by decide +kernel) (pa_cons (pe_op op_fdiv (pe_callTy call_int1 (by rfl) T.bint (by decide +kernel) (pa_cons (pe_dget hu (pv 0) pe_str (fun _ _ => rfl)) pa_nil)) pe_int) pa_nil)) (pv 1)))))))), ?_⟩
    refine ⟨fun σ H' => ∃ (v2 v3 : Option V) (ns' : List Int) (r' s' : Int), σ = [some (.ref p), some (.int many), v2, v3] ∧ Pen H' p c ns' r' s' n ∧ But p c H H', ?_, ?_⟩
    · refine ⟨_, rfl, p, _, rfl, get_r Pn, rfl, _, rfl, ite2 (fun h0 => ?_) (fun h0 => iteF ⟨none, none, ns, r, sd, rfl, Pn, fun b o h _ _ => h⟩)⟩
      refine ⟨_, rfl, p, _, rfl, get_c Pn, by decide, fun l hl => ?_⟩
      have npl : p ≠ l := ne_of_none Pn.hp hl
      have ncl : c ≠ l := ne_of_none Pn.hc hl
      have P2 : Pen (upd H l (.lst [])) p c ns r sd n := ⟨by rw [upd_ne npl]; exact Pn.hp, by rw [upd_ne ncl]; exact Pn.hc, Pn.lr, Pn.ls, Pn.lt, Pn.ln⟩
      have B2 : But p c H (upd H l (.lst [])) := fun b o hb _ _ => by rw [upd_ne (ne_of_none hb hl)]; exact hb
      refine ⟨_, _, .lst (SqL.of P2.hc) (dpInts ns), .lst (SqL.of upd_same) .nil, PySem.W.ke_shaped_ints ns, by decide +kernel, _, rfl, ?_⟩
      cases ns with
      | nil => exact iteF ⟨none, none, [], r, sd, rfl, P2, B2⟩
      | cons n0 nr =>
        refine iteT ?_
        have tyL : ∀ {H2 : Hp}, H2 c = some (.lst ((n0 :: nr).map V.int)) → tyV K "list" (.ref c) H2 := fun h => .inl ⟨rfl, _, SqL.of h⟩
        refine ⟨_, rfl, p, _, rfl, get_c P2, tyL P2.hc, c, _, 0, 0, .int n0, rfl, rfl, P2.hc, by decide, by decide, ?_, rfl, .inl ⟨n0, rfl, n0, rfl, ?_⟩⟩
        · show seqIndex? 0 ((n0 :: nr).map V.int).length = some 0
          rw [List.length_map, List.length_cons]
          unfold seqIndex?
          simp
          try omega
        have P3 : Pen (upd (upd H l (.lst [])) c (.lst (((n0 :: nr).map V.int).eraseIdx 0))) p c nr r sd n := ⟨by rw [upd_ne Pn.ne.symm]; exact P2.hp, upd_same, Pn.lr, Pn.ls, Pn.lt, Pn.ln⟩
        have B3 : But p c H (upd (upd H l (.lst [])) c (.lst (((n0 :: nr).map V.int).eraseIdx 0))) := fun b o hb n1 n2 => by rw [upd_ne n2]; exact B2 b o hb n1 n2
        have hab : (0 : Int) ≤ if n0 < 0 then -n0 else n0 := by split <;> omega
        clear B2 P2
        generalize (upd (upd H l (.lst [])) c (.lst (((n0 :: nr).map V.int).eraseIdx 0))) = G3 at *
        refine ⟨_, rfl, _, rfl, p, _, rfl, DPut.k (k := .inr (Str.ofString "rest")) P3.hp pd_len, ?_⟩
        rw [put_r]
        have P4 : Pen (upd G3 p (.dK (pd c (if n0 < 0 then -n0 else n0) sd n))) p c nr (if n0 < 0 then -n0 else n0) sd n := ⟨upd_same, by rw [upd_ne Pn.ne]; exact P3.hc, hab, Pn.ls, Pn.lt, Pn.ln⟩
        have B4 : But p c H (upd G3 p (.dK (pd c (if n0 < 0 then -n0 else n0) sd n))) := fun b o hb n1 n2 => by rw [upd_ne n1]; exact B3 b o hb n1 n2
        generalize (upd G3 p (.dK (pd c (if n0 < 0 then -n0 else n0) sd n))) = G4 at *
        refine ⟨_, rfl, p, _, rfl, get_s P4, .inl ⟨sd, rfl, sd, 41, rfl, rfl, .inr ⟨by decide, by decide⟩, _, rfl, _, _, rfl, rfl, .inl ⟨_, rfl, _, _, rfl, rfl, (by show (0 : Int) < 2147483587; decide), _, rfl, p, _, rfl, DPut.k (k := .inr (Str.ofString "seed")) P4.hp pd_len, ?_⟩⟩⟩
        rw [put_s]
        exact ⟨_, none, nr, _, _, rfl, ⟨upd_same, by rw [upd_ne Pn.ne]; exact P4.hc, hab, Int.emod_nonneg _ (by decide), Int.emod_lt_of_pos _ (by decide), Pn.ln⟩, fun b o hb n1 n2 => by rw [upd_ne n1]; exact B4 b o hb n1 n2⟩
    · rintro σ' H' ⟨v2, v3, ns', r', s', rfl, P2, B2⟩
      refine ⟨_, rfl, p, _, rfl, get_r P2, _, _, rfl, rfl, _, rfl, ite2 (fun h0 => ?_) (fun h0 => ?_)⟩
      · have h0 := of_decide_eq_true h0
        refine ⟨_, rfl, p, _, rfl, get_r P2, .inl ⟨r', rfl, _, rfl, r', many, rfl, rfl, (by show 0 < many; omega), ?_⟩⟩
        refine ⟨_, rfl, p, _, rfl, get_r P2, .inl ⟨r', rfl, _, rfl, r', many, rfl, rfl, ⟨by omega, by omega⟩, ?_⟩⟩
        refine ⟨_, rfl, p, _, rfl, DPut.k (k := .inr (Str.ofString "rest")) P2.hp pd_len, _, rfl, ?_⟩
        rw [put_r]
        exact k _ _ (Int.emod_nonneg _ (by omega)) (Int.emod_lt_of_pos _ (by omega)) ⟨ns', r' / many, s', n, ⟨upd_same, by rw [upd_ne Pn.ne]; exact P2.hc, Int.ediv_nonneg P2.lr (by omega), P2.ls, P2.lt, P2.ln⟩, by omega, fun b o hb n1 n2 => by rw [upd_ne n1]; exact B2 b o hb n1 n2⟩
      · have ls := P2.ls
        have lt := P2.lt
        have ln := P2.ln
        refine ⟨_, rfl, p, _, rfl, get_n P2, .inl ⟨n, rfl, _, _, rfl, rfl, _, rfl, p, _, rfl, DPut.k (k := .inr (Str.ofString "count")) P2.hp pd_len, ?_⟩⟩
        rw [put_n]
        have P3 : Pen (upd H' p (.dK (pd c r' s' (n + 1)))) p c ns' r' s' (n + 1) := ⟨upd_same, by rw [upd_ne Pn.ne]; exact P2.hc, P2.lr, P2.ls, P2.lt, by omega⟩
        have B3 : But p c H (upd H' p (.dK (pd c r' s' (n + 1)))) := fun b o hb n1 n2 => by rw [upd_ne n1]; exact B2 b o hb n1 n2
        generalize (upd H' p (.dK (pd c r' s' (n + 1)))) = G3 at *
        refine ⟨_, rfl, p, _, rfl, get_s P3, .inl ⟨s', rfl, s', 69621, rfl, rfl, .inr ⟨by decide, by decide⟩, ?_⟩⟩
        refine ⟨_, rfl, p, _, rfl, get_n P3, .inl ⟨_, rfl, 30011, _, rfl, rfl, .inl ⟨by decide, by decide⟩, ?_⟩⟩
        refine ⟨_, _, rfl, rfl, .inl ⟨_, rfl, _, _, rfl, rfl, (by show (0 : Int) < 2147483587; decide), _, rfl, p, _, rfl, DPut.k (k := .inr (Str.ofString "seed")) P3.hp pd_len, ?_⟩⟩
        rw [put_s]
        obtain ⟨M, hM⟩ : ∃ M : Int, M = (s' * 69621 + 30011 * (n + 1)) % 2147483587 := ⟨_, rfl⟩
        have m3 : 0 ≤ M := by rw [hM]; exact Int.emod_nonneg _ (by decide)
        have m4 : M < 2147483587 := by rw [hM]; exact Int.emod_lt_of_pos _ (by decide)
        rw [← hM]
        have P4 : Pen (upd G3 p (.dK (pd c r' M (n + 1)))) p c ns' r' M (n + 1) := ⟨upd_same, by rw [upd_ne Pn.ne]; exact P3.hc, P2.lr, m3, m4, by omega⟩
        have B4 : But p c H (upd G3 p (.dK (pd c r' M (n + 1)))) := fun b o hb n1 n2 => by rw [upd_ne n1]; exact B3 b o hb n1 n2
        generalize (upd G3 p (.dK (pd c r' M (n + 1)))) = G4 at *
        refine ⟨_, rfl, p, _, rfl, get_s P4, .inl ⟨M, rfl, M, 64, rfl, rfl, ⟨by decide, by decide⟩, .inl ⟨_, rfl, _, rfl, _, many, rfl, rfl, (by show 0 < many; omega), ?_⟩⟩⟩
        exact k _ _ (Int.emod_nonneg _ (by omega)) (Int.emod_lt_of_pos _ (by omega)) ⟨ns', r', M, n + 1, P4, by omega, B4⟩
end
end K94

set_option Elab.async false
set_option linter.all false
set_option maxRecDepth 100000
set_option maxHeartbeats 4000000
namespace K94
open PySem L2
theorem But.seq {K : PySem.W.Frag} {H H' : Hp} {p c a : Addr} {xs : List V} (B : But p c H H') (n : a ≠ p) (m : a ≠ c) (h : SqL K H a xs) : SqL K H' a xs := by
  rcases h with (h | ⟨o, h⟩) | h
  · exact .inl (.inl (B _ _ h n m))
  · exact .inl (.inr ⟨o, B _ _ h n m⟩)
  · exact .inr h
theorem But.trans {p c : Addr} {H H1 H2 : Hp} (a : But p c H H1) (b : But p c H1 H2) : But p c H H2 := fun d o h n m => b d o (a d o h n m) n m
theorem But.refl {p c : Addr} {H : Hp} : But p c H H := fun _ _ h _ _ => h
theorem But.same {p c : Addr} {H H1 : Hp} (s : Same H H1) : But p c H H1 := fun b o h _ _ => s b o h
theorem Same.new {a : Addr} {H : Hp} {o : HO} (h : H a = none) : Same H (upd H a o) := fun b u e => by rw [upd_ne (ne_of_none e h)]; exact e
theorem Pen.same {H H' : Hp} {p c : Addr} {ns : List Int} {r s n : Int} (P : Pen H p c ns r s n) (e : Same H H') : Pen H' p c ns r s n := ⟨e _ _ P.hp, e _ _ P.hc, P.lr, P.ls, P.lt, P.ln⟩
def spPen (K : PySem.W.Frag) : Sp := fun vs H Q _ => ∃ (a : Addr) (ns : List Int), vs = [.ref a] ∧ SqL K H a (ns.map V.int) ∧ ∀ (p c : Addr) (ms : List Int) (H' : Hp), H p = none → H c = none → Pen H' p c ms 0 29 0 → Same H H' → Q (.ref p) H'
theorem scPen : FnScope ["_law_script"] ["_law_script"] (defScope sPen) := ⟨rfl, rfl, rfl, by decide +kernel, rfl, by decide +kernel, by decide +kernel⟩
def spPick (K : PySem.W.Frag) : Sp := fun vs H Q _ => ∃ (p c : Addr) (ns : List Int) (r s n : Int) (a : Addr) (xs : List V), vs = [.ref p, .ref a] ∧ Pen H p c ns r s n ∧ n ≤ 1000000 ∧ SqL K H a xs ∧ a ≠ p ∧ a ≠ c ∧ 0 < xs.length ∧ xs.length < 1000 ∧
  ∀ v H', v ∈ xs → Drawn H p c (n + 1) H' → Q v H'
theorem scPick : FnScope ["_law_pen_here", "_law_some"] ["_law_pen_here", "_law_some"] (defScope sPick) := ⟨rfl, rfl, rfl, by decide +kernel, rfl, by decide +kernel, by decide +kernel⟩
def cutM (ns : List Int) : List Int := (ns.drop (HT.sIx ns.length 0 none)).take (HT.sIx ns.length ns.length (some 60) - HT.sIx ns.length 0 none)
section
variable {P : Program} {w : World} {K : PySem.W.Frag} {mg : Str → Option Value} {base : Heap}
theorem ok_pen {f : Addr} {fd : FuncData} (F : Fun K "_law_pen" "_law_pen" sPen f fd) (T : TxtB mg) : FnOk P w K mg base CX0 1 f fd ["_law_script"] (spPen K) := by
  refine F.ok scPen (fun vs H Q E h => ?_) (fun cdv A outer s H vs Q E hr h => ?_)
  · obtain ⟨a, ns, rfl, _⟩ := h
    rfl
  · obtain ⟨a, ns, rfl, hS, k⟩ := h
    refine ⟨_, (pss_one (ps_ret (pe_disp (pps_cons pe_str (pe_callTy call_list_of (by rfl) T.blist (by decide +kernel) (pa_cons (pe_slice sl_list (pv 0) po_none (po_some pe_int)) pa_nil)) (pps_cons pe_str pe_int (pps_cons pe_str pe_int (pps_cons pe_str pe_int pps_nil)))) rfl rfl (by intro h; cases h) (by decide)))), ?_⟩
    intro p hp
    have s0 : Same H (upd H p (.dK [])) := Same.new hp
    have sq : SqL K (upd H p (.dK [])) a (ns.map V.int) := by
      rcases hS with (h | ⟨o, h⟩) | h
      · exact .inl (.inl (s0 _ _ h))
      · exact .inl (.inr ⟨o, s0 _ _ h⟩)
      · exact .inr h
    refine ⟨_, rfl, _, rfl, a, ns.map V.int, rfl, sq, fun d hd => ⟨d, _, rfl, .inl (SqL.of upd_same), fun c hc => ?_⟩⟩
    have s1 := s0.trans (Same.new (o := .lst (cutV (ns.map V.int) none (some 60))) hd)
    have s2 := s1.trans (Same.new (o := .lst (cutV (ns.map V.int) none (some 60))) hc)
    have n1 : p ≠ d := ne_of_none upd_same hd
    have n2 : p ≠ c := ne_of_none (by rw [upd_ne n1]; exact upd_same) hc
    have e : cutV (ns.map V.int) none (some 60) = (cutM ns).map V.int := by
      unfold cutV cutM
      rw [← List.map_drop, ← List.map_take, List.length_map]
    refine ⟨by rw [upd_ne n2, upd_ne n1]; exact upd_same, pd c 0 29 0, rfl, by show 4 ≤ 15; decide, ?_⟩
    have hm : mergeK [] (pd c 0 29 0) = pd c 0 29 0 := rfl
    rw [hm]
    refine k p c (cutM ns) _ hp (s1.free hc) ⟨upd_same, ?_, Int.le_refl _, by decide, by decide, Int.le_refl _⟩ (fun b o hb => ?_)
    · rw [upd_ne n2.symm, upd_same, e]
    · rw [upd_ne (ne_of_none hb hp)]
      exact s2 b o hb
theorem ok_pick {f : Addr} {fd : FuncData} (F : Fun K "_law_pick" "_law_pick" sPick f fd) (T : TxtB mg) (cDraw : C8.Cal P w K mg base 1 "_law_draw" spDraw []) : FnOk P w K mg base CX0 2 f fd ["_law_pen_here", "_law_some"] (spPick K) := by
  refine F.ok scPick (fun vs H Q E h => ?_) (fun cdv A outer s H vs Q E hr h => ?_)
  · obtain ⟨p, c, ns, r, s, n, a, xs, rfl, _⟩ := h
    rfl
  · obtain ⟨p, c, ns, r, sd, n, a, xs, rfl, Pn, hn, hS, h1, h2, h3, h4, k⟩ := h
    refine ⟨_, (pss_one (ps_ret (pe_ix ix_list (pv 1) (C8.pe_c cDraw hr (by decide) rfl (pa_cons (pv 0) (pa_cons (pe_callB call_len_seq (by rfl) T.blen (by decide +kernel) (pa_cons (pv 1) pa_nil)) pa_nil))) (fun _ _ => rfl)))), ?_⟩
    refine ⟨_, rfl, _, rfl, _, rfl, a, xs, rfl, .inl hS, ?_⟩
    refine ⟨p, c, ns, r, sd, n, _, rfl, Pn, hn, by omega, by omega, fun d H' d0 d1 hD => ?_⟩
    obtain ⟨_, _, _, _, _, _, hB⟩ := id hD
    obtain ⟨j, rfl⟩ := Int.eq_ofNat_of_zero_le d0
    have hj : j < xs.length := by omega
    exact ⟨a, xs, _, xs[j], rfl, rfl, hB.seq h1 h2 hS, atI_nat (List.getElem?_eq_getElem hj), k _ _ (List.getElem_mem hj) hD⟩
end
end K94

set_option Elab.async false
set_option linter.all false
set_option maxRecDepth 100000
set_option maxHeartbeats 4000000
namespace K94
open PySem L2 NX
abbrev sIs : Stmt := top 12
theorem scIs : FnScope ["value"] ["value"] (defScope sIs) := ⟨rfl, rfl, rfl, by decide +kernel, rfl, by decide +kernel, by decide +kernel⟩
/-- no text -/
def NoStr (K : PySem.W.Frag) (H : Hp) (x : V) : Prop := ∃ t, TyX K H x t ∧ PySem.W.kitOne K t (.type "str") = some false
def spIs (K : PySem.W.Frag) : Sp := fun vs H Q _ => ∃ x, vs = [x] ∧ ((∃ z, x = .str z ∧ z.length ≤ 1000 ∧ Q (.bl (nm z)) H) ∨ (NoStr K H x ∧ Q (.bl false) H))
structure TxtN (mg : Str → Option Value) : Prop where
  gLet : ∃ t, mg "LETTERS" = some (.str "abcdefghijklmnopqrstuvwxyz" t)
  gMost : ∃ t, mg "MOST_LETTERS" = some (.int 6 t)
section
variable {P : Program} {w : World} {K : PySem.W.Frag} {mg : Str → Option Value} {base : Heap}
theorem ok_is {f : Addr} {fd : FuncData} (F : Fun K "is_name" "is_name" sIs f fd) (T : TxtB mg) (N : TxtN mg) : FnOk P w K mg base CX0 1 f fd ["value"] (spIs K) := by
  refine F.ok scIs (fun vs H Q E h => ?_) (fun cdv A outer s H vs Q E hr h => ?_)
  · obtain ⟨x, rfl, _⟩ := h
    rfl
  · obtain ⟨x, rfl, h⟩ := h
    obtain ⟨t1, gL⟩ := N.gLet
    obtain ⟨t2, gM⟩ := N.gMost
    refine ⟨_, (pss_one (ps_ret (pe_and (pe_callB call_isi (by rfl) T.bisinstance (by decide +kernel) (pa_cons (pv 0) (pa_cons (pe_bltn (v := .ty "str") (by rfl) T.bstr (by decide +kernel) rfl) pa_nil))) (pe_and (pe_chain op_le op_le pe_int (pe_callB call_len_str (by rfl) T.blen (by decide +kernel) (pa_cons (pv 0) pa_nil)) (pe_glob (v := .int 6) rfl gM ⟨_, rfl⟩)) (pe_one (pe_cmpR op_eq (pe_bm PySem.F.plainAttrs_str PySem.F.slot_str_strip PySem.F.type_str_strip mt_stripChars (pv 0) (pa_cons (pe_glob (v := .str "abcdefghijklmnopqrstuvwxyz") rfl gL ⟨_, rfl⟩) pa_nil)) pe_str (nomark _))))))), ?_⟩
    rcases h with ⟨z, rfl, hz, q⟩ | ⟨⟨t, ty, k⟩, q⟩
    · refine ⟨_, rfl, _, _, _, _, true, rfl, .ty "str", .base (.str z), kit_ty (by decide +kernel), true, rfl, iteT ?_⟩
      refine ⟨_, rfl, z, rfl, Nat.le_of_lt (small1000 hz), 1, _, rfl, rfl, _, rfl, ite2 (fun h1 => ?_) (fun h1 => ?_)⟩
      · refine ⟨_, 6, rfl, rfl, _, rfl, ite2 (fun h2 => ?_) (fun h2 => ?_)⟩
        · have e : ∀ b : Bool, b = nm z → Q (.bl b) H := fun b e => by rw [e]; exact q
          refine ⟨_, rfl, rfl, z, _, rfl, rfl, Nat.le_trans hz (by decide), by rfl, e _ ?_⟩
          have e1 := of_decide_eq_true h1
          have e2 := of_decide_eq_true h2
          have g : decide (V.str (Txt.stripChars z (Str.ofString "abcdefghijklmnopqrstuvwxyz")) = V.str (Str.ofString "")) = decide (Txt.stripChars z ("abcdefghijklmnopqrstuvwxyz" : Str) = ("" : Str)) := by
            rw [Bool.eq_iff_iff, decide_eq_true_eq, decide_eq_true_eq]
            exact ⟨fun h => by injection h, fun h => by rw [← h]⟩
          rw [g, strip_nm]
          unfold nm
          rw [decide_eq_true (by omega : 1 ≤ z.length), decide_eq_true (by omega : z.length ≤ 6)]
          rfl
        · have e1 : ¬ (z.length ≤ 6) := fun h => h2 (decide_eq_true (by omega))
          have e : nm z = false := by unfold nm; rw [decide_eq_false e1]; simp
          rw [e] at q
          exact q
      · have e1 : ¬ (1 ≤ z.length) := fun h => h1 (decide_eq_true (by omega))
        have e : nm z = false := by unfold nm; rw [decide_eq_false e1]; simp
        rw [e] at q
        exact ⟨false, rfl, iteF q⟩
    · exact ⟨_, rfl, _, _, _, _, false, rfl, .ty "str", ty, k, false, rfl, iteF q⟩
end
end K94

set_option Elab.async false
set_option linter.all false
set_option maxRecDepth 100000
set_option maxHeartbeats 4000000
namespace K94
open PySem L2 NX
abbrev sErrN : Stmt := inClass (top 6) 0
abbrev sErrM : Stmt := inClass (top 7) 0
abbrev sInit : Stmt := inClass (top 14) 1
/-- what stood stands, and an error's dict at d is new -/
def Told (H : Hp) (d : Addr) (v : V) (H' : Hp) : Prop := Same H H' ∧ H d = none ∧ H' d = some (.xd [("value", v)])
def spErr (K : PySem.W.Frag) : Sp := fun vs H Q _ => ∃ (a C : Addr) (v : V), vs = [.ref a, v] ∧ OexC K C ∧ PySem.W.findIn K (.ref C) "value" = some none ∧ H a = some (exo a C none) ∧
  ∀ dx, H dx = none → dx ≠ a → Q .non (upd (upd H dx (exd dx [("value", v)])) a (exo a C (some dx)))
theorem scErrN : FnScope ["self", "value"] ["self", "value"] (defScope sErrN) := ⟨rfl, rfl, rfl, by decide +kernel, rfl, by decide +kernel, by decide +kernel⟩
theorem scErrM : FnScope ["self", "value"] ["self", "value"] (defScope sErrM) := ⟨rfl, rfl, rfl, by decide +kernel, rfl, by decide +kernel, by decide +kernel⟩
theorem scInit : FnScope ["self", "name"] ["self", "name"] (defScope sInit) := ⟨rfl, rfl, rfl, by decide +kernel, rfl, by decide +kernel, by decide +kernel⟩
/-- a name, or something that is none -/
def IsNm (K : PySem.W.Frag) (H : Hp) (v : V) (z : Str) : Prop := v = .str z ∧ z.length ≤ 1000 ∧ nm z = true
def NoNm (K : PySem.W.Frag) (H : Hp) (v : V) : Prop := (∃ z, v = .str z ∧ z.length ≤ 1000 ∧ nm z = false) ∨ NoStr K H v
/-- an object of a class of moves at x, with its word and its name -/
def spInit (K : PySem.W.Frag) (CN : Addr) : Sp := fun vs H Q E => ∃ (x C dx : Addr) (wd : Str) (u : Value) (v : V), vs = [.ref x, v] ∧ Cls K C ∧ Con K C "WORD" (.str wd) u ∧ NoAttr K C "word" ∧ NoAttr K C "name" ∧ H x = some (.ins C dx []) ∧
  ((∃ z, IsNm K H v z ∧ Q .non (upd (upd H x (.ins C dx [("word", .str wd)])) x (.ins C dx [("word", .str wd), ("name", .str z)]))) ∨ (NoNm K H v ∧ ∀ d H', Told H d v H' → E (.ref CN) (some d) H'))
section
variable {P : Program} {w : World} {K : PySem.W.Frag} {mg : Str → Option Value} {base : Heap}
theorem ok_errN {f : Addr} {fd : FuncData} (F : Fun K "__init__" "BadName.__init__" sErrN f fd) : FnOk P w K mg base CX0 1 f fd ["self", "value"] (spErr K) := by
  refine F.ok scErrN (fun vs H Q E h => ?_) (fun cdv A outer s H vs Q E hr h => ?_)
  · obtain ⟨a, C, v, rfl, _⟩ := h
    rfl
  · obtain ⟨a, C, v, rfl, T, hf, ha, k⟩ := h
    refine ⟨_, (pss_one (ps_ost (pv 0) (pv 1))), ?_⟩
    exact ⟨_, rfl, _, rfl, a, C, rfl, T, hf, .inl ⟨ha, fun dx h1 h2 => k dx h1 h2⟩⟩
theorem ok_errM {f : Addr} {fd : FuncData} (F : Fun K "__init__" "BadMove.__init__" sErrM f fd) : FnOk P w K mg base CX0 1 f fd ["self", "value"] (spErr K) := by
  refine F.ok scErrM (fun vs H Q E h => ?_) (fun cdv A outer s H vs Q E hr h => ?_)
  · obtain ⟨a, C, v, rfl, _⟩ := h
    rfl
  · obtain ⟨a, C, v, rfl, T, hf, ha, k⟩ := h
    refine ⟨_, (pss_one (ps_ost (pv 0) (pv 1))), ?_⟩
    exact ⟨_, rfl, _, rfl, a, C, rfl, T, hf, .inl ⟨ha, fun dx h1 h2 => k dx h1 h2⟩⟩
/-- an error class of ours, with its __init__ -/
structure ErrC (P : Program) (w : World) (K : PySem.W.Frag) (mg : Str → Option Value) (base : Heap) (x : Str) (C fI : Addr) : Prop where
  O : OexC K C
  i : PySem.W.findIn K (.ref C) "__init__" = some (some (.ref fI))
  t : PySem.W.typeIn K (.ref fI) = some (.type "function")
  ok : ∃ fd, FnOk P w K mg base CX0 1 fI fd ["self", "value"] (spErr K) ∧ Binds K fd ["self", "value"] []
  g : mg x = some (.ref C)
  v : PySem.W.findIn K (.ref C) "value" = some none
/-- what making an error of ours asks -/
theorem mkO_of {H : Hp} {C : Addr} {v : V} {Q : XK} (O : OexC K C) (hv : PySem.W.findIn K (.ref C) "value" = some none) (k : ∀ d H', Told H d v H' → Q (.ref C) (some d) H') :
    [v].length ≤ 1000 ∧ ∀ a : Addr, H a = none → spErr K (.ref a :: ([v] ++ [])) (upd H a (exo a C none)) (fun x H2 => x = .non ∧ ∃ (d : Addr) (fs : List (Str × V)), H2 a = some (exo a C (some d)) ∧ H2 d = some (exd d fs) ∧ H d = none ∧ Q (.ref C) (some d) (upd (L2.del H2 a) d (.xd fs))) (fun _ _ _ => False) := by
  refine ⟨by show 1 ≤ 1000; decide, fun a ha => ⟨a, C, v, rfl, O, hv, upd_same, fun d hd hne => ?_⟩⟩
  have hd' : H d = none := by rw [upd_ne hne] at hd; exact hd
  refine ⟨rfl, d, [("value", v)], upd_same, by rw [upd_ne hne]; exact upd_same, hd', k d _ ⟨fun b o hb => ?_, hd', upd_same⟩⟩
  have n1 : b ≠ d := fun e => by rw [e, hd'] at hb; cases hb
  have n2 : b ≠ a := fun e => by rw [e, ha] at hb; cases hb
  rw [upd_ne n1]
  unfold L2.del
  rw [if_neg n2, upd_ne n2, upd_ne n1, upd_ne n2]
  exact hb
theorem ok_init {CN fI : Addr} {f : Addr} {fd : FuncData} (F : Fun K "__init__" "Move.__init__" sInit f fd) (cIs : C8.Cal P w K mg base 1 "is_name" (spIs K) []) (B : ErrC P w K mg base "BadName" CN fI) : FnOk P w K mg base (CX P w) 3 f fd ["self", "name"] (spInit K CN) := by
  obtain ⟨fde, Fe, hbe⟩ := B.ok
  refine F.okX scInit (fun vs H Q E h => ?_) (fun cdv A outer s H vs Q E hr h => ?_)
  · obtain ⟨x, C, dx, wd, u, v, rfl, _⟩ := h
    rfl
  · obtain ⟨x, C, dx, wd, u, v, rfl, hC, hW, h1, h2, hx, h⟩ := h
    refine ⟨_, (pss_cons (ps_if (pt_not (pt_val (C8.pe_c cIs hr (by decide) rfl (pa_cons (pv 1) pa_nil)))) (pss_one (ps_raise rfl (takes_of rfl rfl rfl rfl) (pmk_oex (ds := []) (dvs := []) B.O B.i B.t Fe hr hbe .nil pass0 rfl B.g (pa_cons (pv 1) pa_nil)))) pss_nil)
      (pss_cons (ps_fld (pv 0) (pe_con (pv 0) rfl) rfl) (pss_one (ps_fld (pv 0) (pv 1) rfl)))), ?_⟩
    rcases h with ⟨z, ⟨rfl, hz, hn⟩, q⟩ | ⟨h, q⟩
    · refine ⟨_, rfl, _, rfl, .inl ⟨z, rfl, hz, ?_⟩⟩
      rw [hn]
      refine ⟨_, rfl, iteF ?_⟩
      refine ⟨_, rfl, x, C, dx, [], _, u, rfl, hx, hC, hW, rfl, _, rfl, x, C, dx, [], rfl, hx, hC, h1, by decide, ?_⟩
      refine ⟨_, rfl, _, rfl, x, C, dx, _, rfl, upd_same, hC, h2, by show 1 < 1000; decide, q⟩
    · refine ⟨_, rfl, _, rfl, ?_⟩
      rcases h with ⟨z, rfl, hz, hn⟩ | h
      · refine .inl ⟨z, rfl, hz, ?_⟩
        rw [hn]
        exact ⟨_, rfl, iteT ⟨_, rfl, mkO_of B.O B.v q⟩⟩
      · exact .inr ⟨h, _, rfl, iteT ⟨_, rfl, mkO_of B.O B.v q⟩⟩
end
end K94

set_option Elab.async false
set_option linter.all false
set_option maxRecDepth 100000
set_option maxHeartbeats 4000000
namespace K94
open PySem L2 NX
abbrev sRead : Stmt := inClass (top 14) 2
theorem scRead : FnScope ["cls", "text", "word", "names"] ["cls", "text"] (defScope sRead) := ⟨rfl, rfl, rfl, by decide +kernel, rfl, by decide +kernel, by decide +kernel⟩
/-- the four classes of moves -/
structure M4 where
  l : Addr
  a : Addr
  s : Addr
  f : Addr
def M4.of (m : M4) (wd : Str) : Addr := if wd = "load" then m.l else if wd = "again" then m.a else if wd = "store" then m.s else m.f
def isW (wd : Str) : Bool := decide (wd = "load") || (decide (wd = "again") || (decide (wd = "store") || decide (wd = "forget")))
structure MoveC (K : PySem.W.Frag) (mg : Str → Option Value) (fI : Addr) (x : Str) (C : Addr) (wd : Str) : Prop where
  cl : Cls K C
  con : ∃ u, Con K C "WORD" (.str wd) u
  nw : NoAttr K C "word"
  nn : NoAttr K C "name"
  mak : Mk K C fI
  g : mg x = some (.ref C)
  rd : ∃ mc u, ClX.CRead K C mc ∧ ClX.CVal K C mc "WORD" (.str wd) u
structure Mvs (K : PySem.W.Frag) (mg : Str → Option Value) (fI : Addr) (m : M4) : Prop where
  L : MoveC K mg fI "Load" m.l "load"
  A : MoveC K mg fI "Again" m.a "again"
  S : MoveC K mg fI "Store" m.s "store"
  F : MoveC K mg fI "Forget" m.f "forget"
/-- a move at x, new -/
def Made (m : M4) (H : Hp) (x dx : Addr) (wd n : Str) (H' : Hp) : Prop := Same H H' ∧ H x = none ∧ H' x = some (.ins (m.of wd) dx [("word", .str wd), ("name", .str n)])
theorem sameNone {H H' : Hp} {d : Addr} (s : Same H H') (h : H' d = none) : H d = none := by
  cases e : H d with
  | none => rfl
  | some o => rw [s d o e] at h; cases h
theorem Told.old {H H1 H' : Hp} {d : Addr} {v : V} (s : Same H H1) (t : Told H1 d v H') : Told H d v H' := ⟨s.trans t.1, sameNone s t.2.1, t.2.2⟩
theorem Made.old {m : M4} {H H1 H' : Hp} {x dx : Addr} {wd n : Str} (s : Same H H1) (t : Made m H1 x dx wd n H') : Made m H x dx wd n H' := ⟨s.trans t.1, sameNone s t.2.1, t.2.2⟩
/-- making a move of a name: what pe_make asks -/
theorem made_of {K : PySem.W.Frag} {mg : Str → Option Value} {fI CN : Addr} {m : M4} {x : Str} {C : Addr} {wd n : Str} {H : Hp} {Q : VK} {E : XK} (M : MoveC K mg fI x C wd) (hC : m.of wd = C) (hl : n.length ≤ 1000) (hn : nm n = true)
    (q : ∀ y dy H', Made m H y dy wd n H' → Q (.ref y) H') :
    ∀ y dy : Addr, H y = none → H dy = none → dy ≠ y → spInit K CN (.ref y :: ([.str n] ++ [])) (upd (upd H dy (.own y)) y (.ins C dy [])) (fun v H2 => v = .non ∧ Q (.ref y) H2) E := by
  intro y dy h1 h2 h3
  obtain ⟨u, hu⟩ := M.con
  refine ⟨y, C, dy, wd, u, .str n, rfl, M.cl, hu, M.nw, M.nn, upd_same, .inl ⟨n, ⟨rfl, hl, hn⟩, rfl, q y dy _ ⟨fun b o hb => ?_, h1, ?_⟩⟩⟩
  · have n1 : b ≠ y := fun e => by rw [e, h1] at hb; cases hb
    have n2 : b ≠ dy := fun e => by rw [e, h2] at hb; cases hb
    rw [upd_ne n1, upd_ne n1, upd_ne n1, upd_ne n2]
    exact hb
  · rw [hC]
    exact upd_same
def Parse (z wd n : Str) : Prop := Txt.split z " " = [wd, n] ∧ isW wd = true ∧ nm n = true
def NoMove (K : PySem.W.Frag) (H : Hp) (v : V) : Prop := (∃ z, v = .str z ∧ z.length ≤ 1000 ∧ ∀ wd n, ¬ Parse z wd n) ∨ NoStr K H v
def spRead (K : PySem.W.Frag) (m : M4) (CM : Addr) : Sp := fun vs H Q E => ∃ (c : Addr) (v : V), vs = [.ref c, v] ∧
  ((∃ z wd n, v = .str z ∧ z.length ≤ 1000 ∧ Parse z wd n ∧ ∀ x dx H', Made m H x dx wd n H' → Q (.ref x) H') ∨ (NoMove K H v ∧ ∀ d H', Told H d v H' → E (.ref CM) (some d) H'))
section
variable {P : Program} {w : World} {K : PySem.W.Frag} {mg : Str → Option Value} {base : Heap}
theorem ok_read {CN CM fI fN fM : Addr} {fdi : FuncData} {m : M4} {f : Addr} {fd : FuncData} (F : Fun K "read" "Move.read" sRead f fd) (T : TxtB mg) (cIs : C8.Cal P w K mg base 1 "is_name" (spIs K) []) (B : ErrC P w K mg base "BadMove" CM fM)
    (I : FnOk P w K mg base (CX P w) 3 fI fdi ["self", "name"] (spInit K CN)) (hbi : Binds K fdi ["self", "name"] []) (M : Mvs K mg fI m) : FnOk P w K mg base (CX P w) 5 f fd ["cls", "text"] (spRead K m CM) := by
  obtain ⟨fde, Fe, hbe⟩ := B.ok
  obtain ⟨ML, MA, MS, MF⟩ := M
  obtain ⟨CL, CA, CS, CF⟩ := m
  refine F.okX scRead (fun vs H Q E h => ?_) (fun cdv A outer s H vs Q E hr h => ?_)
  · obtain ⟨c, v, rfl, _⟩ := h
    rfl
  · obtain ⟨c, v, rfl, h⟩ := h
    refine ⟨_, (pss_cons (ps_if (pt_not (pt_val (pe_callB call_isi (by rfl) T.bisinstance (by decide +kernel) (pa_cons (pv 1) (pa_cons (pe_bltn (v := .ty "str") (by rfl) T.bstr (by decide +kernel) rfl) pa_nil))))) (pss_one (ps_raise rfl (takes_of rfl rfl rfl rfl) (pmk_oex (ds := []) (dvs := []) B.O B.i B.t Fe (hr.mono (by decide)) hbe .nil pass0 rfl B.g (pa_cons (pv 1) pa_nil)))) pss_nil)
      (pss_cons (ps_asg (pe_split (pv 1) pe_str) (pg_star rfl (pgs_cons (pg_name (i := 2) scRead.nd rfl (Or.inl rfl)) (pgs_cons (pg_name (i := 3) scRead.nd rfl (Or.inl rfl)) pgs_nil))))
      (pss_cons (ps_if (PW.pt (pw_or (pt_cmpR op_ne (pe_callB call_len_seq (by rfl) T.blen (by decide +kernel) (pa_cons (pv 3) pa_nil)) pe_int (nomark _)) (pw_or1 (pt_not (pt_val (C8.pe_c cIs hr (by decide) rfl (pa_cons (pe_ix ix_list (pv 3) pe_int (fun _ _ => rfl)) pa_nil))))))) (pss_one (ps_raise rfl (takes_of rfl rfl rfl rfl) (pmk_oex (ds := []) (dvs := []) B.O B.i B.t Fe (hr.mono (by decide)) hbe .nil pass0 rfl B.g (pa_cons (pv 1) pa_nil)))) pss_nil)
      (pss_cons (ps_if (pt_cmpR op_eq (pv 2) (ClX.pe_cval (C8.pe_gc (v := .ref CL) rfl ⟨_, ML.g, rfl⟩)) (nomark _)) (pss_one (ps_ret (pe_make (ds := []) (dvs := []) ML.mak I hr rfl ML.g hbi .nil passL (pa_cons (pe_ix ix_list (pv 3) pe_int (fun _ _ => rfl)) pa_nil)))) pss_nil)
      (pss_cons (ps_if (pt_cmpR op_eq (pv 2) (ClX.pe_cval (C8.pe_gc (v := .ref CA) rfl ⟨_, MA.g, rfl⟩)) (nomark _)) (pss_one (ps_ret (pe_make (ds := []) (dvs := []) MA.mak I hr rfl MA.g hbi .nil passL (pa_cons (pe_ix ix_list (pv 3) pe_int (fun _ _ => rfl)) pa_nil)))) pss_nil)
      (pss_cons (ps_if (pt_cmpR op_eq (pv 2) (ClX.pe_cval (C8.pe_gc (v := .ref CS) rfl ⟨_, MS.g, rfl⟩)) (nomark _)) (pss_one (ps_ret (pe_make (ds := []) (dvs := []) MS.mak I hr rfl MS.g hbi .nil passL (pa_cons (pe_ix ix_list (pv 3) pe_int (fun _ _ => rfl)) pa_nil)))) pss_nil)
      (pss_cons (ps_if (pt_cmpR op_eq (pv 2) (ClX.pe_cval (C8.pe_gc (v := .ref CF) rfl ⟨_, MF.g, rfl⟩)) (nomark _)) (pss_one (ps_ret (pe_make (ds := []) (dvs := []) MF.mak I hr rfl MF.g hbi .nil passL (pa_cons (pe_ix ix_list (pv 3) pe_int (fun _ _ => rfl)) pa_nil)))) pss_nil)
      (pss_one (ps_raise rfl (takes_of rfl rfl rfl rfl) (pmk_oex (ds := []) (dvs := []) B.O B.i B.t Fe (hr.mono (by decide)) hbe .nil pass0 rfl B.g (pa_cons (pv 1) pa_nil))))))))))), ?_⟩
    have hz : (∃ z, v = .str z ∧ z.length ≤ 1000 ∧ ((∃ wd n, Parse z wd n ∧ ∀ x dx H', Made ⟨CL, CA, CS, CF⟩ H x dx wd n H' → Q (.ref x) H') ∨ ((∀ wd n, ¬ Parse z wd n) ∧ ∀ d H', Told H d v H' → E (.ref CM) (some d) H'))) ∨ (NoStr K H v ∧ ∀ d H', Told H d v H' → E (.ref CM) (some d) H') := by
      rcases h with ⟨z, wd, n, e, hz, hp, q⟩ | ⟨⟨z, e, hz, hp⟩ | hs, q⟩
      · exact .inl ⟨z, e, hz, .inl ⟨wd, n, hp, q⟩⟩
      · exact .inl ⟨z, e, hz, .inr ⟨hp, q⟩⟩
      · exact .inr ⟨hs, q⟩
    rcases hz with ⟨z, rfl, hz, h⟩ | ⟨⟨t, ty, k⟩, q⟩
    · refine ⟨_, rfl, _, _, _, _, true, rfl, .ty "str", .base (.str z), kit_ty (by decide +kernel), true, rfl, iteF ?_⟩
      refine ⟨_, rfl, ⟨z, rfl⟩, z, _, rfl, rfl, by decide +kernel, Nat.le_trans (Nat.add_le_add_right hz 2) (by decide), fun p hp => ?_⟩
      have hpos := PyProof.Rows.split_pos z (Str.ofString " ")
      have hle := PyProof.Rows.split_le z (Str.ofString " ")
      have hsh : ∀ a, a ∈ Txt.split z (Str.ofString " ") → a.length ≤ 1000 := fun a ha => Nat.le_trans (PyProof.Rows.part_short ha) hz
      have s1 : Same H (upd H p (.lst ((Txt.split z (Str.ofString " ")).map V.str))) := Same.new hp
      obtain ⟨w0, rest, el⟩ : ∃ w0 rest, Txt.split z (Str.ofString " ") = w0 :: rest := by
        cases e : Txt.split z (Str.ofString " ") with
        | nil => rw [e] at hpos; cases hpos
        | cons a l => exact ⟨a, l, rfl⟩
      rw [el] at hle hsh s1
      rw [el]
      refine ⟨p, .str w0, rest.map V.str, rfl, SqL.of upd_same, ?_, fun D hD => ?_⟩
      · rw [List.length_map]
        simp only [List.length_cons] at hle
        omega
      have s2 : Same H (upd (upd H p (.lst ((w0 :: rest).map V.str))) D (.lst (rest.map V.str))) := s1.trans (Same.new hD)
      have bad : (∀ wd n, ¬ Parse z wd n) → ∀ d H', Told (upd (upd H p (.lst ((w0 :: rest).map V.str))) D (.lst (rest.map V.str))) d (.str z) H' → E (.ref CM) (some d) H' := fun hp d H' t => by
        rcases h with ⟨wd, n, h, _⟩ | ⟨_, q⟩
        · exact absurd h (hp wd n)
        · exact q d H' (t.old s2)
      refine ⟨_, _, rfl, _, _, rfl, rfl, _, rfl, D, _, rfl, .inl (SqL.of upd_same), rfl, _, rfl, ite2 (fun h1 => ?_) (fun h1 => ?_)⟩
      · have nl : rest.length ≠ 1 := fun e => by
          rw [List.length_map, e] at h1
          exact absurd h1 (by decide)
        refine ⟨_, rfl, mkO_of B.O B.v (bad fun wd n q => ?_)⟩
        have e := el.symm.trans q.1
        injection e with _ e
        rw [e] at nl
        exact nl rfl
      · obtain ⟨n, rfl⟩ : ∃ n, rest = [n] := by
          match rest, h1 with
          | [], h1 => exact absurd (by decide) h1
          | [n], h1 => exact ⟨n, rfl⟩
          | a :: b :: l, h1 =>
            refine absurd ?_ h1
            have n2 : ¬ (V.int ((List.map V.str (a :: b :: l)).length : Nat) = V.int 1) := fun e => by
              injection e with e
              rw [List.length_map] at e
              simp only [List.length_cons] at e
              omega
            rw [decide_eq_false n2]
            rfl
        have hln : n.length ≤ 1000 := hsh n (by simp)
        have good : isW w0 = true → nm n = true → ∀ x dx H', Made ⟨CL, CA, CS, CF⟩ (upd (upd H p (.lst ([w0, n].map V.str))) D (.lst ([n].map V.str))) x dx w0 n H' → Q (.ref x) H' := fun a b x dx H' t => by
          rcases h with ⟨wd, n', h, q⟩ | ⟨q, _⟩
          · have e := el.symm.trans h.1
            injection e with e1 e2
            injection e2 with e2
            rw [← e1, ← e2] at q
            exact q x dx H' (t.old s2)
          · exact absurd ⟨el, a, b⟩ (q w0 n)
        have badn : ¬ (isW w0 = true ∧ nm n = true) → ∀ wd n, ¬ Parse z wd n := fun h wd n' q => by
          have e := el.symm.trans q.1
          injection e with e1 e2
          injection e2 with e2
          rw [e1, e2] at h
          exact h q.2
        refine ⟨_, rfl, D, _, _, _, rfl, rfl, SqL.of upd_same, rfl, _, rfl, .inl ⟨n, rfl, hln, ?_⟩⟩
        cases hn : nm n with
        | false => exact ⟨_, rfl, iteT ⟨_, rfl, mkO_of B.O B.v (bad (badn fun q => by rw [hn] at q; cases q.2))⟩⟩
        | true =>
        refine ⟨_, rfl, iteF ?_⟩
        obtain ⟨mcL, uL, rL, vL⟩ := ML.rd
        refine ⟨_, rfl, _, mcL, _, uL, rfl, rL, vL, rfl, _, rfl, ite2 (fun h2 => ?_) (fun h2L => ?_)⟩
        · have e : w0 = Str.ofString "load" := by
            have e := of_decide_eq_true h2
            injection e
          refine ⟨_, rfl, D, _, _, _, rfl, rfl, SqL.of upd_same, rfl, made_of ML rfl hln hn fun y dy H' hm => ?_⟩
          rw [← e] at hm
          exact good (by rw [e]; decide +kernel) hn y dy H' hm
        obtain ⟨mcA, uA, rA, vA⟩ := MA.rd
        refine ⟨_, rfl, _, mcA, _, uA, rfl, rA, vA, rfl, _, rfl, ite2 (fun h2 => ?_) (fun h2A => ?_)⟩
        · have e : w0 = Str.ofString "again" := by
            have e := of_decide_eq_true h2
            injection e
          refine ⟨_, rfl, D, _, _, _, rfl, rfl, SqL.of upd_same, rfl, made_of MA rfl hln hn fun y dy H' hm => ?_⟩
          rw [← e] at hm
          exact good (by rw [e]; decide +kernel) hn y dy H' hm
        obtain ⟨mcS, uS, rS, vS⟩ := MS.rd
        refine ⟨_, rfl, _, mcS, _, uS, rfl, rS, vS, rfl, _, rfl, ite2 (fun h2 => ?_) (fun h2S => ?_)⟩
        · have e : w0 = Str.ofString "store" := by
            have e := of_decide_eq_true h2
            injection e
          refine ⟨_, rfl, D, _, _, _, rfl, rfl, SqL.of upd_same, rfl, made_of MS rfl hln hn fun y dy H' hm => ?_⟩
          rw [← e] at hm
          exact good (by rw [e]; decide +kernel) hn y dy H' hm
        obtain ⟨mcF, uF, rF, vF⟩ := MF.rd
        refine ⟨_, rfl, _, mcF, _, uF, rfl, rF, vF, rfl, _, rfl, ite2 (fun h2 => ?_) (fun h2F => ?_)⟩
        · have e : w0 = Str.ofString "forget" := by
            have e := of_decide_eq_true h2
            injection e
          refine ⟨_, rfl, D, _, _, _, rfl, rfl, SqL.of upd_same, rfl, made_of MF rfl hln hn fun y dy H' hm => ?_⟩
          rw [← e] at hm
          exact good (by rw [e]; decide +kernel) hn y dy H' hm
        have f : ∀ t : Str, ¬ decide (V.str w0 = V.str t) = true → decide (w0 = t) = false := fun t h => decide_eq_false fun e => h (decide_eq_true (by rw [e]))
        have hw : isW w0 = false := by
          unfold isW
          rw [f _ h2L, f _ h2A, f _ h2S, f _ h2F]
          rfl
        exact ⟨_, rfl, mkO_of B.O B.v (bad (badn fun q => by rw [hw] at q; cases q.1))⟩
    · refine ⟨_, rfl, _, _, _, _, false, rfl, .ty "str", ty, k, false, rfl, iteT ⟨_, rfl, mkO_of B.O B.v q⟩⟩
end
end K94

set_option Elab.async false
set_option linter.all false
set_option maxRecDepth 100000
set_option maxHeartbeats 4000000
namespace K94
open PySem L2 NX
abbrev sEqM : Stmt := inClass (top 14) 3
abbrev sStr : Stmt := inClass (top 14) 4
theorem scEqM : FnScope ["self", "other"] ["self", "other"] (defScope sEqM) := ⟨rfl, rfl, rfl, by decide +kernel, rfl, by decide +kernel, by decide +kernel⟩
theorem scStr : FnScope ["self"] ["self"] (defScope sStr) := ⟨rfl, rfl, rfl, by decide +kernel, rfl, by decide +kernel, by decide +kernel⟩
theorem tyOf_same {K : PySem.W.Frag} {H H' : Hp} {v : V} {t : Value} (s : Same H H') (h : TyOf K H v t) : TyOf K H' v t := by
  cases h with
  | non => exact .non
  | bl x => exact .bl x
  | int x => exact .int x
  | str x => exact .str x
  | flt x => exact .flt x
  | lst h => exact .lst (s _ _ h)
  | frz h => exact .frz (s _ _ h)
  | tup h => exact .tup (s _ _ h)
  | dK h => exact .dK (s _ _ h)
  | dT h => exact .dT (s _ _ h)
  | ins h a b c d e => exact .ins (s _ _ h) a b c d e
theorem tyX_same {K : PySem.W.Frag} {H H' : Hp} {v : V} {t : Value} (s : Same H H') (h : TyX K H v t) : TyX K H' v t := by
  cases h with
  | base h => exact .base (tyOf_same s h)
  | byt b => exact .byt b
  | set h => exact .set (s _ _ h)
  | kList a b => exact .kList a b
  | kTuple a b => exact .kTuple a b
  | kDict a b => exact .kDict a b
  | fTuple h => exact .fTuple (s _ _ h)
  | fDict h => exact .fDict (s _ _ h)
theorem NoStr.same {K : PySem.W.Frag} {H H' : Hp} {v : V} (s : Same H H') (h : NoStr K H v) : NoStr K H' v := by
  obtain ⟨t, a, b⟩ := h
  exact ⟨t, tyX_same s a, b⟩
theorem NoNm.same {K : PySem.W.Frag} {H H' : Hp} {v : V} (s : Same H H') (h : NoNm K H v) : NoNm K H' v := by
  rcases h with h | h
  · exact .inl h
  · exact .inr (NoStr.same s h)
theorem nm_len {n : Str} (h : nm n = true) : 1 ≤ n.length ∧ n.length ≤ 6 := by
  unfold nm at h
  rw [Bool.and_eq_true, Bool.and_eq_true, decide_eq_true_eq, decide_eq_true_eq] at h
  exact ⟨h.1, h.2.1⟩
theorem isW_cases {wd : Str} (h : isW wd = true) : wd = "load" ∨ wd = "again" ∨ wd = "store" ∨ wd = "forget" := by
  unfold isW at h
  rw [Bool.or_eq_true, Bool.or_eq_true, Bool.or_eq_true, decide_eq_true_eq, decide_eq_true_eq, decide_eq_true_eq, decide_eq_true_eq] at h
  exact h
theorem isW_len {wd : Str} (h : isW wd = true) : wd.length ≤ 6 := by
  rcases isW_cases h with e | e | e | e <;> subst e <;> decide +kernel
/-- what the classes of moves say of isinstance -/
structure KinC (K : PySem.W.Frag) (m : M4) (CMv : Addr) (wd : Str) : Prop where
  mv : PySem.W.kitOne K (.ref (m.of wd)) (.ref CMv) = some true
  cl : PySem.W.findIn K (.ref (m.of wd)) "__class__" = some (some (.builtin "object.__class__"))
  ob : PySem.W.mroIn K (m.of wd) (.type "object") = some true
structure KinK (K : PySem.W.Frag) (m : M4) (CMv : Addr) : Prop where
  sp : PySem.W.specialIn K (.builtin "object.__class__") "__get__" = some (some (.builtin "getset_descriptor.__get__"))
  tk : PySem.W.takesIn K (.builtin "object.__class__") = some true
  all : ∀ wd, isW wd = true → KinC K m CMv wd
/-- a move -/
def IsMove (m : M4) (H : Hp) (x : Addr) (wd n : Str) : Prop := ∃ dx, isW wd = true ∧ nm n = true ∧ H x = some (.ins (m.of wd) dx [("word", .str wd), ("name", .str n)])
theorem Made.is {m : M4} {H H' : Hp} {x dx : Addr} {wd n : Str} (h : Made m H x dx wd n H') (a : isW wd = true) (b : nm n = true) : IsMove m H' x wd n := ⟨dx, a, b, h.2.2⟩
theorem IsMove.same {m : M4} {H H' : Hp} {x : Addr} {wd n : Str} (s : Same H H') (h : IsMove m H x wd n) : IsMove m H' x wd n := by
  obtain ⟨dx, a, b, c⟩ := h
  exact ⟨dx, a, b, s _ _ c⟩
theorem Mvs.at_ {K : PySem.W.Frag} {mg : Str → Option Value} {fI : Addr} {m : M4} (M : Mvs K mg fI m) {wd : Str} (h : isW wd = true) : Cls K (m.of wd) ∧ NoAttr K (m.of wd) "word" ∧ NoAttr K (m.of wd) "name" := by
  rcases isW_cases h with e | e | e | e <;> subst e
  · exact ⟨M.L.cl, M.L.nw, M.L.nn⟩
  · exact ⟨M.A.cl, M.A.nw, M.A.nn⟩
  · exact ⟨M.S.cl, M.S.nw, M.S.nn⟩
  · exact ⟨M.F.cl, M.F.nw, M.F.nn⟩
theorem KinK.ty {K : PySem.W.Frag} {mg : Str → Option Value} {fI CMv : Addr} {m : M4} (k : KinK K m CMv) (M : Mvs K mg fI m) {H : Hp} {x : Addr} {wd n : Str} (h : IsMove m H x wd n) : TyX K H (.ref x) (.ref (m.of wd)) := by
  obtain ⟨dx, a, b, c⟩ := h
  exact .base (.ins c (M.at_ a).1 (k.all wd a).cl k.sp k.tk (k.all wd a).ob)
def tx (wd n : Str) : Str := Str.empty ++ wd ++ Str.ofString " " ++ n
def spStr (m : M4) : Sp := fun vs H Q _ => ∃ x wd n, vs = [.ref x] ∧ IsMove m H x wd n ∧ Q (.str (tx wd n)) H
def spEq (K : PySem.W.Frag) (m : M4) (CMv : Addr) : Sp := fun vs H Q _ => ∃ (x : Addr) (wd n : Str) (y : V), vs = [.ref x, y] ∧ IsMove m H x wd n ∧
  ((∃ x2 wd2 n2, y = .ref x2 ∧ IsMove m H x2 wd2 n2 ∧ Q (.bl (decide (wd = wd2) && decide (n = n2))) H) ∨ (∃ t, TyX K H y t ∧ PySem.W.kitOne K t (.ref CMv) = some false ∧ Q (.bl false) H))
/-- making a move of what is no name -/
theorem bad_of {K : PySem.W.Frag} {mg : Str → Option Value} {fI CN : Addr} {x : Str} {C : Addr} {wd : Str} {v : V} {H : Hp} {Q : VK} {E : XK} (M : MoveC K mg fI x C wd) (hn : NoNm K H v)
    (q : ∀ d H', Told H d v H' → E (.ref CN) (some d) H') :
    ∀ y dy : Addr, H y = none → H dy = none → dy ≠ y → spInit K CN (.ref y :: ([v] ++ [])) (upd (upd H dy (.own y)) y (.ins C dy [])) (fun v H2 => v = .non ∧ Q (.ref y) H2) E := by
  intro y dy h1 h2 h3
  obtain ⟨u, hu⟩ := M.con
  have s : Same H (upd (upd H dy (.own y)) y (.ins C dy [])) := (Same.new h2).trans (Same.new (by rw [upd_ne (Ne.symm h3)]; exact h1))
  exact ⟨y, C, dy, wd, u, v, rfl, M.cl, hu, M.nw, M.nn, upd_same, .inr ⟨hn.same s, fun d H' t => q d H' (t.old s)⟩⟩
theorem passOf {X : Cx} {E : XK} (tk : Takes X (fun cls d _ H => E cls d H)) : Passes (CX X.prog X.w) X E := fun pins σ H s e s' I h => passAt tk σ pins H s e s' I h
section
variable {P : Program} {w : World} {K : PySem.W.Frag} {mg : Str → Option Value} {base : Heap}
theorem ok_str {fI : Addr} {m : M4} {f : Addr} {fd : FuncData} (F : Fun K "__str__" "Move.__str__" sStr f fd) (M : Mvs K mg fI m) : FnOk P w K mg base CX0 1 f fd ["self"] (spStr m) := by
  refine F.ok scStr (fun vs H Q E h => ?_) (fun cdv A outer s H vs Q E hr h => ?_)
  · obtain ⟨x, wd, n, rfl, _⟩ := h
    rfl
  · obtain ⟨x, wd, n, rfl, ⟨dx, hw, hn, hx⟩, q⟩ := h
    obtain ⟨c1, c2, c3⟩ := M.at_ hw
    have l1 := isW_len hw
    have l2 := nm_len hn
    refine ⟨_, (pss_one (ps_ret (pe_joined (.cons (pe_fmt (pe_fld (pv 0) rfl)) (.cons pe_str (.cons (pe_fmt (pe_fld (pv 0) rfl)) .nil)))))), ?_⟩
    have e0 : (Str.empty : Str).length = 0 := by decide +kernel
    have e1 : (Str.ofString " ").length = 1 := by decide +kernel
    have e2 : (100 : Nat) ≤ sizeLine := by decide
    refine ⟨_, rfl, x, _, dx, _, _, rfl, hx, c1, c2, rfl, .inl ⟨wd, rfl, by omega, wd, rfl, ?_, ?_⟩⟩
    · rw [Str.length_append]
      omega
    refine ⟨_, rfl, ?_, _, rfl, x, _, dx, _, _, rfl, hx, c1, c3, rfl, .inl ⟨n, rfl, by omega, n, rfl, ?_, q⟩⟩
    · rw [Str.length_append, Str.length_append]
      omega
    · rw [Str.length_append, Str.length_append, Str.length_append]
      omega
theorem ok_eq {fI CMv : Addr} {m : M4} {f : Addr} {fd : FuncData} (F : Fun K "__eq__" "Move.__eq__" sEqM f fd) (T : TxtB mg) (M : Mvs K mg fI m) (k : KinK K m CMv) (gMv : mg "Move" = some (.ref CMv)) : FnOk P w K mg base CX0 1 f fd ["self", "other"] (spEq K m CMv) := by
  refine F.ok scEqM (fun vs H Q E h => ?_) (fun cdv A outer s H vs Q E hr h => ?_)
  · obtain ⟨x, wd, n, y, rfl, _⟩ := h
    rfl
  · obtain ⟨x, wd, n, y, rfl, ⟨dx, hw, hn, hx⟩, h⟩ := h
    obtain ⟨c1, c2, c3⟩ := M.at_ hw
    refine ⟨_, (pss_one (ps_ret (pe_and (pe_callB call_isi (by rfl) T.bisinstance (by decide +kernel) (pa_cons (pv 1) (pa_cons (C8.pe_gc (v := .ref CMv) rfl ⟨_, gMv, rfl⟩) pa_nil))) (pe_and (pe_cmpR op_eq (pe_fld (pv 0) rfl) (pe_fld (pv 1) rfl) (nomark _)) (pe_one (pe_cmpR op_eq (pe_fld (pv 0) rfl) (pe_fld (pv 1) rfl) (nomark _))))))), ?_⟩
    rcases h with ⟨x2, wd2, n2, rfl, h2, q⟩ | ⟨t, ty, kt, q⟩
    · have ty := k.ty M h2
      obtain ⟨dx2, hw2, hn2, hx2⟩ := h2
      obtain ⟨d1, d2, d3⟩ := M.at_ hw2
      refine ⟨_, rfl, _, _, _, _, true, rfl, .own CMv, ty, (k.all wd2 hw2).mv, true, rfl, iteT ?_⟩
      have e : ∀ a b : Str, decide (V.str a = V.str b) = decide (a = b) := fun a b => by
        rw [Bool.eq_iff_iff, decide_eq_true_eq, decide_eq_true_eq]
        exact ⟨fun h => by injection h, fun h => by rw [h]⟩
      refine ⟨_, rfl, x, _, dx, _, _, rfl, hx, c1, c2, rfl, _, rfl, x2, _, dx2, _, _, rfl, hx2, d1, d2, rfl, rfl, _, rfl, ite2 (fun h1 => ?_) (fun h1 => ?_)⟩
      · refine ⟨_, rfl, x, _, dx, _, _, rfl, hx, c1, c3, rfl, _, rfl, x2, _, dx2, _, _, rfl, hx2, d1, d3, rfl, rfl, ?_⟩
        rw [e] at h1 ⊢
        rw [h1] at q
        exact q
      · rw [e] at h1
        rw [Bool.eq_false_iff.mpr h1] at q
        exact q
    · exact ⟨_, rfl, _, _, _, _, false, rfl, .own CMv, ty, kt, false, rfl, iteF q⟩
end
end K94

set_option Elab.async false
set_option linter.all false
set_option maxRecDepth 100000
set_option maxHeartbeats 4000000
/-! The text of a plan. -/
namespace K94
open PySem L2 NX
abbrev sShow : Stmt := top 2
abbrev sRow : Stmt := top 3
theorem scShow : FnScope ["plan", "row"] ["plan"] (defScope sShow) := ⟨rfl, rfl, rfl, by decide +kernel, rfl, by decide +kernel, by decide +kernel⟩
theorem scRow : FnScope ["row", "move"] ["row"] (defScope sRow) := ⟨rfl, rfl, rfl, by decide +kernel, rfl, by decide +kernel, by decide +kernel⟩
/-- a walk over what is a list or a tuple -/
theorem pi_or {X : Cx} {tg l : Expr} {w1 w2 : TI} (h1 : PI X tg l w1) (h2 : PI X tg l w2) : PI X tg l (fun σ H R => w1 σ H R ∨ w2 σ H R) :=
  ⟨fun pins s σ H R I h => h.elim (h1.run pins s σ H R I) (h2.run pins s σ H R I)⟩
theorem sqL_same {K : PySem.W.Frag} {H H' : Hp} {a : Addr} {xs : List V} (s : Same H H') (h : SqL K H a xs) : SqL K H' a xs := by
  rcases h with (h | ⟨o, h⟩) | h
  · exact .inl (.inl (s _ _ h))
  · exact .inl (.inr ⟨o, s _ _ h⟩)
  · exact .inr h
theorem sqT_same {K : PySem.W.Frag} {H H' : Hp} {a : Addr} {xs : List V} (s : Same H H') (h : SqT K H a xs) : SqT K H' a xs := by
  rcases h with (h | ⟨o, h⟩) | h
  · exact .inl (.inl (s _ _ h))
  · exact .inl (.inr ⟨o, s _ _ h⟩)
  · exact .inr h
/-- a comprehension over what is a list or a tuple, item by item -/
theorem lc_either {K : PySem.W.Frag} {a : Addr} {xs : List V} {g : TG} {tt : TT} {te : TE} {vs : List Nat} {σ : St} {H1 : Hp} {D : Addr} {Qd : Hp → Prop} (Pv : Nat → Hp → Prop) (hS : SqL K H1 a xs ∨ SqT K H1 a xs) (h0 : Pv 0 (upd H1 D (.lst [])))
    (hk : ∀ i H, Pv i H → Same H1 H)
    (hs : ∀ i x H, xs[i]? = some x → Pv i H → g x (wipe σ vs) H fun σ2 H2 => wipe σ2 vs = wipe σ vs ∧ tt σ2 H2 fun b H3 =>
      if b = true then te σ2 H3 fun y H4 => ∃ acc, H4 D = some (.lst acc) ∧ acc.length < sizeLine ∧ Pv (i + 1) (upd H4 D (.lst (acc ++ [y]))) else Pv (i + 1) H3) (hd : ∀ H, Pv xs.length H → Qd H) :
    (∃ W : Nat → Nat → Hp → Prop, (∃ m, W 0 m (upd H1 D (.lst []))) ∧ ∀ i m H, W i m H →
      ((Itl K a).stop i H ∧ Qd H) ∨ ((Itl K a).go i H ∧ ∃ Nx : Hp → Prop, (∀ H', Nx H' → ∃ m', m' < m ∧ W (i + 1) m' H') ∧ ∀ x H', (Itl K a).yld i H x H' → g x (wipe σ vs) H' fun σ2 H2 => wipe σ2 vs = wipe σ vs ∧ tt σ2 H2 fun b H3 =>
        if b = true then te σ2 H3 fun y H4 => ∃ acc, H4 D = some (.lst acc) ∧ acc.length < sizeLine ∧ Nx (upd H4 D (.lst (acc ++ [y]))) else Nx H3)) ∨
    (∃ W : Nat → Nat → Hp → Prop, (∃ m, W 0 m (upd H1 D (.lst []))) ∧ ∀ i m H, W i m H →
      ((Itt K a).stop i H ∧ Qd H) ∨ ((Itt K a).go i H ∧ ∃ Nx : Hp → Prop, (∀ H', Nx H' → ∃ m', m' < m ∧ W (i + 1) m' H') ∧ ∀ x H', (Itt K a).yld i H x H' → g x (wipe σ vs) H' fun σ2 H2 => wipe σ2 vs = wipe σ vs ∧ tt σ2 H2 fun b H3 =>
        if b = true then te σ2 H3 fun y H4 => ∃ acc, H4 D = some (.lst acc) ∧ acc.length < sizeLine ∧ Nx (upd H4 D (.lst (acc ++ [y]))) else Nx H3)) := by
  rcases hS with h | h
  · exact .inl (lc_list (xs := xs) Pv h0 (fun i H _ p => sqL_same (hk i H p) h) hs hd)
  · exact .inr (lc_tup (xs := xs) Pv h0 (fun i H _ p => sqT_same (hk i H p) h) hs hd)
abbrev Ent := Str × Str
def okE (e : Ent) : Prop := isW e.1 = true ∧ nm e.2 = true
def txE (e : Ent) : Str := tx e.1 e.2
/-- a move, or the text of one -/
def Item (m : M4) (H : Hp) (v : V) (e : Ent) : Prop := okE e ∧ ((∃ x, v = .ref x ∧ IsMove m H x e.1 e.2) ∨ v = .str (txE e))
def rowT : List Ent → Str
  | [] => Str.ofString "-"
  | e :: r => Txt.join (Str.ofString ", ") ((e :: r).map txE)
structure RowAt (K : PySem.W.Frag) (m : M4) (H : Hp) (a : Addr) (es : List Ent) : Prop where
  ex : ∃ xs : List V, (SqL K H a xs ∨ SqT K H a xs) ∧ xs.length = es.length ∧ ∀ (i : Nat) (v : V) (e : Ent), xs[i]? = some v → es[i]? = some e → Item m H v e
  len : es.length ≤ 4
def spRow (K : PySem.W.Frag) (m : M4) : Sp := fun vs H Q _ => ∃ a es, vs = [.ref a] ∧ RowAt K m H a es ∧ ∀ H', Same H H' → Q (.str (rowT es)) H'
section
variable {P : Program} {w : World} {K : PySem.W.Frag} {mg : Str → Option Value} {base : Heap}
theorem txE_len {e : Ent} (h : okE e) : (txE e).length ≤ 13 := by
  have l1 := isW_len h.1
  have l2 := nm_len h.2
  have e0 : (Str.empty : Str).length = 0 := by decide +kernel
  have e1 : (Str.ofString " ").length = 1 := by decide +kernel
  unfold txE tx
  rw [Str.length_append, Str.length_append, Str.length_append]
  omega
theorem Item.same {m : M4} {H H' : Hp} {v : V} {e : Ent} (s : Same H H') (h : Item m H v e) : Item m H' v e := ⟨h.1, h.2.imp (fun ⟨x, a, b⟩ => ⟨x, a, b.same s⟩) id⟩
theorem sum_le : ∀ {es : List Ent}, (∀ e ∈ es, okE e) → ((es.map txE).map (·.length)).sum ≤ 13 * es.length
  | [], _ => by simp
  | e :: r, h => by
    have h1 := txE_len (h e List.mem_cons_self)
    have h2 := sum_le (es := r) fun x hx => h x (List.mem_cons_of_mem _ hx)
    simp only [List.map_cons, List.sum_cons, List.length_cons] at *
    omega
theorem join_ge (p x : Str) : ∀ r : List Str, x.length ≤ (Str.join p (x :: r)).length
  | [] => Nat.le_refl _
  | y :: r => by
    show x.length ≤ (x ++ p ++ Str.join p (y :: r)).length
    rw [Str.length_append, Str.length_append]
    omega
theorem join_le (p : Str) : ∀ ts : List Str, (Str.join p ts).length ≤ (ts.map (·.length)).sum + ts.length * p.length
  | [] => by
    show (Str.empty : Str).length ≤ _
    have e0 : (Str.empty : Str).length = 0 := by decide +kernel
    omega
  | [x] => by
    show x.length ≤ _
    simp only [List.map_cons, List.map_nil, List.sum_cons, List.sum_nil, List.length_cons, List.length_nil]
    omega
  | x :: y :: r => by
    have h := join_le p (y :: r)
    show (x ++ p ++ Str.join p (y :: r)).length ≤ _
    rw [Str.length_append, Str.length_append]
    simp only [List.map_cons, List.sum_cons, List.length_cons] at h ⊢
    have e : (r.length + 1 + 1) * p.length = (r.length + 1) * p.length + p.length := Nat.succ_mul _ _
    omega
theorem tx_pos {e : Ent} (h : okE e) : 1 ≤ (txE e).length := by
  have l2 := nm_len h.2
  unfold txE tx
  rw [Str.length_append, Str.length_append, Str.length_append]
  omega
theorem samePut {H H' : Hp} {D : Addr} {o : HO} (s : Same H H') (h : H D = none) : Same H (upd H' D o) := fun b u hb => by
  rw [upd_ne (ne_of_none hb h)]
  exact s b u hb
theorem ok_row {fSt : Addr} {fdSt : FuncData} {m : M4} {f : Addr} {fd : FuncData} (F : Fun K "row_line" "row_line" sRow f fd) (T : TxtB mg) (FSt : FnOk P w K mg base CX0 1 fSt fdSt ["self"] (spStr m)) (hbSt : Binds K fdSt ["self"] [])
    (cSt : ∀ wd, isW wd = true → NX.StrC K (m.of wd) fSt) : FnOk P w K mg base CX0 4 f fd ["row"] (spRow K m) := by
  refine F.ok scRow (fun vs H Q E h => ?_) (fun cdv A outer s H vs Q E hr h => ?_)
  · obtain ⟨a, es, rfl, _⟩ := h
    rfl
  · obtain ⟨a, es, rfl, ⟨⟨xs, hS, hl, hI⟩, h4⟩, k⟩ := h
    have hall : ∀ e ∈ es, okE e := fun e he => by
      obtain ⟨i, hi, rfl⟩ := List.mem_iff_getElem.mp he
      exact (hI i xs[i] es[i] (List.getElem?_eq_getElem (by omega)) (List.getElem?_eq_getElem hi)).1
    refine ⟨_, (pss_one (ps_ret (pe_orT (pe_join pe_str (pe_lc (own := [("move", 1)]) (g := gName 1) rfl scRow.nd (pi_or (pi_list (pv 0)) (pi_tup (pv 0))) (blkOk_by (own := [("move", 1)]) (N := ["row", "move"]) (sc := defScope sRow) (by decide +kernel)) (fun _ _ _ _ _ => (pg_name (i := 1) scRow.nd rfl (Or.inl rfl))) (fun _ _ _ _ _ => pts_nil) (fun _ _ _ _ _ => (pe_callTy (CallR.or SkE.call_str_str (show CallR _ (.type "str") (rStrOwn K fSt (spStr m) L2.E0) from call_strOwn FSt hbSt pass0 hr)) (by rfl) T.bstr (by decide +kernel) (pa_cons (pv 1) pa_nil))))) (pe_one pe_str)))), ?_⟩
    refine ⟨⟨_, rfl⟩, ?_⟩
    rcases hS with hS | hS
    · refine .inl ⟨_, rfl, a, rfl, ⟨xs, hS⟩, fun D hD => ?_⟩
      refine lc_list (xs := xs) (fun i H' => Same H H' ∧ H' D = some (.lst ((es.take i).map fun e => V.str (txE e)))) ⟨Same.new hD, upd_same⟩ (fun i H' _ p => sqL_same p.1 hS) ?_ ?_
      · intro i x H' hx hP
        obtain ⟨sP, dP⟩ := hP
        have hi : i < xs.length := (List.getElem?_eq_some_iff.mp hx).1
        have he : es[i]? = some (es[i]'(by omega)) := List.getElem?_eq_getElem (by omega)
        have it := (hI i x _ hx he).same sP
        have ha : ((es.take i).map fun e => V.str (txE e)).length < sizeLine := by
          rw [List.length_map, List.length_take]
          have : (5 : Nat) ≤ sizeLine := by decide
          omega
        have hn : (es.take i).map (fun e => V.str (txE e)) ++ [V.str (txE (es[i]'(by omega)))] = (es.take (i + 1)).map fun e => V.str (txE e) := by
          rw [List.take_add_one, he, List.map_append]
          rfl
        refine ⟨rfl, ?_⟩
        unfold tYes
        dsimp only
        rw [if_pos rfl]
        obtain ⟨ok, ⟨x', rfl, mv⟩ | rfl⟩ := it
        · obtain ⟨dx, hw, hn', hx'⟩ := id mv
          refine ⟨_, rfl, .inr ⟨x', _, dx, _, rfl, hx', cSt _ hw, x', _, _, rfl, mv, _, rfl, ?_⟩⟩
          exact ⟨_, dP, ha, samePut sP hD, by rw [upd_same]; exact congrArg (fun l => some (HO.lst l)) hn⟩
        · refine ⟨_, rfl, .inl ⟨_, rfl, ?_⟩⟩
          exact ⟨_, dP, ha, samePut sP hD, by rw [upd_same]; exact congrArg (fun l => some (HO.lst l)) hn⟩
      · intro H' hP
        obtain ⟨sP, dP⟩ := hP
        have e0 : es.take xs.length = es := by rw [hl, List.take_length]
        rw [e0] at dP
        have dP : H' D = some (.lst ((es.map txE).map V.str)) := by rw [List.map_map]; exact dP
        have e2 : (Str.ofString ", ").length = 2 := by decide +kernel
        have hsum := sum_le hall
        have hle := join_le (Str.ofString ", ") (es.map txE)
        rw [List.length_map, e2] at hle
        have hz : (100 : Nat) ≤ sizeLine := by decide
        refine ⟨_, D, es.map txE, rfl, rfl, .inl (SqL.of dP), by rw [List.length_map, e2]; omega, ?_⟩
        have hk := k H' sP
        rw [TL.join_eq]
        cases es with
        | nil => exact ⟨false, ⟨by show (Str.empty : Str).length ≤ sizeLine; decide, by rfl⟩, hk⟩
        | cons e r =>
          have h1 := tx_pos (hall e List.mem_cons_self)
          have h2 := join_ge (Str.ofString ", ") (txE e) (r.map txE)
          refine ⟨true, ⟨by omega, ?_⟩, ?_⟩
          · have h3 : ((Str.join (Str.ofString ", ") ((e :: r).map txE)).length : Int) ≠ 0 := by
              have : 1 ≤ (Str.join (Str.ofString ", ") ((e :: r).map txE)).length := Nat.le_trans h1 h2
              omega
            exact (bne_iff_ne.mpr h3).symm
          · have e3 : rowT (e :: r) = Str.join (Str.ofString ", ") ((e :: r).map txE) := TL.join_eq _ _
            rw [e3] at hk
            exact hk
    · refine .inr ⟨_, rfl, a, rfl, ⟨xs, hS⟩, fun D hD => ?_⟩
      refine lc_tup (xs := xs) (fun i H' => Same H H' ∧ H' D = some (.lst ((es.take i).map fun e => V.str (txE e)))) ⟨Same.new hD, upd_same⟩ (fun i H' _ p => sqT_same p.1 hS) ?_ ?_
      · intro i x H' hx hP
        obtain ⟨sP, dP⟩ := hP
        have hi : i < xs.length := (List.getElem?_eq_some_iff.mp hx).1
        have he : es[i]? = some (es[i]'(by omega)) := List.getElem?_eq_getElem (by omega)
        have it := (hI i x _ hx he).same sP
        have ha : ((es.take i).map fun e => V.str (txE e)).length < sizeLine := by
          rw [List.length_map, List.length_take]
          have : (5 : Nat) ≤ sizeLine := by decide
          omega
        have hn : (es.take i).map (fun e => V.str (txE e)) ++ [V.str (txE (es[i]'(by omega)))] = (es.take (i + 1)).map fun e => V.str (txE e) := by
          rw [List.take_add_one, he, List.map_append]
          rfl
        refine ⟨rfl, ?_⟩
        unfold tYes
        dsimp only
        rw [if_pos rfl]
        obtain ⟨ok, ⟨x', rfl, mv⟩ | rfl⟩ := it
        · obtain ⟨dx, hw, hn', hx'⟩ := id mv
          refine ⟨_, rfl, .inr ⟨x', _, dx, _, rfl, hx', cSt _ hw, x', _, _, rfl, mv, _, rfl, ?_⟩⟩
          exact ⟨_, dP, ha, samePut sP hD, by rw [upd_same]; exact congrArg (fun l => some (HO.lst l)) hn⟩
        · refine ⟨_, rfl, .inl ⟨_, rfl, ?_⟩⟩
          exact ⟨_, dP, ha, samePut sP hD, by rw [upd_same]; exact congrArg (fun l => some (HO.lst l)) hn⟩
      · intro H' hP
        obtain ⟨sP, dP⟩ := hP
        have e0 : es.take xs.length = es := by rw [hl, List.take_length]
        rw [e0] at dP
        have dP : H' D = some (.lst ((es.map txE).map V.str)) := by rw [List.map_map]; exact dP
        have e2 : (Str.ofString ", ").length = 2 := by decide +kernel
        have hsum := sum_le hall
        have hle := join_le (Str.ofString ", ") (es.map txE)
        rw [List.length_map, e2] at hle
        have hz : (100 : Nat) ≤ sizeLine := by decide
        refine ⟨_, D, es.map txE, rfl, rfl, .inl (SqL.of dP), by rw [List.length_map, e2]; omega, ?_⟩
        have hk := k H' sP
        rw [TL.join_eq]
        cases es with
        | nil => exact ⟨false, ⟨by show (Str.empty : Str).length ≤ sizeLine; decide, by rfl⟩, hk⟩
        | cons e r =>
          have h1 := tx_pos (hall e List.mem_cons_self)
          have h2 := join_ge (Str.ofString ", ") (txE e) (r.map txE)
          refine ⟨true, ⟨by omega, ?_⟩, ?_⟩
          · have h3 : ((Str.join (Str.ofString ", ") ((e :: r).map txE)).length : Int) ≠ 0 := by
              have : 1 ≤ (Str.join (Str.ofString ", ") ((e :: r).map txE)).length := Nat.le_trans h1 h2
              omega
            exact (bne_iff_ne.mpr h3).symm
          · have e3 : rowT (e :: r) = Str.join (Str.ofString ", ") ((e :: r).map txE) := TL.join_eq _ _
            rw [e3] at hk
            exact hk
/-- a plan: rows of moves or of texts of moves -/
structure PlanAt (K : PySem.W.Frag) (m : M4) (H : Hp) (a : Addr) (ess : List (List Ent)) : Prop where
  ex : ∃ xs : List V, (SqL K H a xs ∨ SqT K H a xs) ∧ xs.length = ess.length ∧ ∀ (i : Nat) (v : V) (es : List Ent), xs[i]? = some v → ess[i]? = some es → ∃ b, v = .ref b ∧ RowAt K m H b es
  len : ess.length ≤ 9
def planT (ess : List (List Ent)) : Str := Str.join (Str.ofString "\n") (ess.map rowT)
def spShow (K : PySem.W.Frag) (m : M4) : Sp := fun vs H Q _ => ∃ a ess, vs = [.ref a] ∧ PlanAt K m H a ess ∧ ∀ H', Same H H' → Q (.str (planT ess)) H'
theorem RowAt.same {K : PySem.W.Frag} {m : M4} {H H' : Hp} {a : Addr} {es : List Ent} (s : Same H H') (h : RowAt K m H a es) : RowAt K m H' a es := by
  obtain ⟨⟨xs, hS, hl, hI⟩, h4⟩ := h
  exact ⟨⟨xs, hS.imp (sqL_same s) (sqT_same s), hl, fun i v e h1 h2 => (hI i v e h1 h2).same s⟩, h4⟩
theorem RowAt.all {K : PySem.W.Frag} {m : M4} {H : Hp} {a : Addr} {es : List Ent} (h : RowAt K m H a es) : ∀ e ∈ es, okE e := by
  obtain ⟨⟨xs, hS, hl, hI⟩, h4⟩ := h
  intro e he
  obtain ⟨i, hi, rfl⟩ := List.mem_iff_getElem.mp he
  exact (hI i xs[i] es[i] (List.getElem?_eq_getElem (by omega)) (List.getElem?_eq_getElem hi)).1
theorem rowT_le {es : List Ent} (h : ∀ e ∈ es, okE e) (h4 : es.length ≤ 4) : (rowT es).length ≤ 60 := by
  cases es with
  | nil =>
    have e1 : (Str.ofString "-").length = 1 := by decide +kernel
    show (Str.ofString "-").length ≤ 60
    omega
  | cons e r =>
    have e3 : rowT (e :: r) = Str.join (Str.ofString ", ") ((e :: r).map txE) := TL.join_eq _ _
    have hsum := sum_le h
    have hle := join_le (Str.ofString ", ") ((e :: r).map txE)
    have e2 : (Str.ofString ", ").length = 2 := by decide +kernel
    rw [List.length_map, e2] at hle
    rw [e3]
    omega
theorem rows_le : ∀ {ess : List (List Ent)}, (∀ es ∈ ess, (∀ e ∈ es, okE e) ∧ es.length ≤ 4) → ((ess.map rowT).map (·.length)).sum ≤ 60 * ess.length
  | [], _ => by simp
  | e :: r, h => by
    have h1 := rowT_le (h e List.mem_cons_self).1 (h e List.mem_cons_self).2
    have h2 := rows_le (ess := r) fun x hx => h x (List.mem_cons_of_mem _ hx)
    simp only [List.map_cons, List.sum_cons, List.length_cons] at *
    omega
theorem ok_show {m : M4} {f : Addr} {fd : FuncData} (F : Fun K "show_plan" "show_plan" sShow f fd) (T : TxtB mg) (cRow : C8.Cal P w K mg base 4 "row_line" (spRow K m) []) : FnOk P w K mg base CX0 5 f fd ["plan"] (spShow K m) := by
  refine F.ok scShow (fun vs H Q E h => ?_) (fun cdv A outer s H vs Q E hr h => ?_)
  · obtain ⟨a, ess, rfl, _⟩ := h
    rfl
  · obtain ⟨a, ess, rfl, ⟨⟨xs, hS, hl, hI⟩, h9⟩, k⟩ := h
    have hall : ∀ es ∈ ess, (∀ e ∈ es, okE e) ∧ es.length ≤ 4 := fun es he => by
      obtain ⟨i, hi, rfl⟩ := List.mem_iff_getElem.mp he
      obtain ⟨b, _, hR⟩ := hI i xs[i] ess[i] (List.getElem?_eq_getElem (by omega)) (List.getElem?_eq_getElem hi)
      exact ⟨hR.all, hR.len⟩
    refine ⟨_, (pss_one (ps_ret (pe_join pe_str (pe_lc (own := [("row", 1)]) (g := gName 1) rfl scShow.nd (pi_or (pi_list (pv 0)) (pi_tup (pv 0))) (blkOk_by (own := [("row", 1)]) (N := ["plan", "row"]) (sc := defScope sShow) (by decide +kernel)) (fun _ _ _ _ _ => (pg_name (i := 1) scShow.nd rfl (Or.inl rfl))) (fun _ _ _ _ _ => pts_nil) (fun _ _ _ _ _ => (C8.pe_c cRow hr (by decide) rfl (pa_cons (pv 1) pa_nil))))))), ?_⟩
    refine ⟨⟨_, rfl⟩, ?_⟩
    rcases hS with hS | hS
    · refine .inl ⟨_, rfl, a, rfl, ⟨xs, hS⟩, fun D hD => ?_⟩
      refine lc_list (xs := xs) (fun i H' => Same H H' ∧ H' D = some (.lst ((ess.take i).map fun e => V.str (rowT e)))) ⟨Same.new hD, upd_same⟩ (fun i H' _ p => sqL_same p.1 hS) ?_ ?_
      · intro i x H' hx hP
        obtain ⟨sP, dP⟩ := hP
        have hi : i < xs.length := (List.getElem?_eq_some_iff.mp hx).1
        have he : ess[i]? = some (ess[i]'(by omega)) := List.getElem?_eq_getElem (by omega)
        obtain ⟨b, rfl, hR⟩ := hI i x _ hx he
        have hR := hR.same sP
        have ha : ((ess.take i).map fun e => V.str (rowT e)).length < sizeLine := by
          rw [List.length_map, List.length_take]
          have : (20 : Nat) ≤ sizeLine := by decide
          omega
        have hn : (ess.take i).map (fun e => V.str (rowT e)) ++ [V.str (rowT (ess[i]'(by omega)))] = (ess.take (i + 1)).map fun e => V.str (rowT e) := by
          rw [List.take_add_one, he, List.map_append]
          rfl
        refine ⟨rfl, ?_⟩
        unfold tYes
        dsimp only
        rw [if_pos rfl]
        refine ⟨_, rfl, b, _, rfl, hR, fun H2 s2 => ?_⟩
        exact ⟨_, s2 _ _ dP, ha, samePut (sP.trans s2) hD, by rw [upd_same]; exact congrArg (fun l => some (HO.lst l)) hn⟩
      · intro H' hP
        obtain ⟨sP, dP⟩ := hP
        have e0 : ess.take xs.length = ess := by rw [hl, List.take_length]
        rw [e0] at dP
        have dP : H' D = some (.lst ((ess.map rowT).map V.str)) := by rw [List.map_map]; exact dP
        have e1 : (Str.ofString "\n").length = 1 := by decide +kernel
        have hsum := rows_le hall
        refine ⟨_, D, ess.map rowT, rfl, rfl, .inl (SqL.of dP), by rw [List.length_map, e1]; omega, ?_⟩
        rw [TL.join_eq]
        exact k H' sP
    · refine .inr ⟨_, rfl, a, rfl, ⟨xs, hS⟩, fun D hD => ?_⟩
      refine lc_tup (xs := xs) (fun i H' => Same H H' ∧ H' D = some (.lst ((ess.take i).map fun e => V.str (rowT e)))) ⟨Same.new hD, upd_same⟩ (fun i H' _ p => sqT_same p.1 hS) ?_ ?_
      · intro i x H' hx hP
        obtain ⟨sP, dP⟩ := hP
        have hi : i < xs.length := (List.getElem?_eq_some_iff.mp hx).1
        have he : ess[i]? = some (ess[i]'(by omega)) := List.getElem?_eq_getElem (by omega)
        obtain ⟨b, rfl, hR⟩ := hI i x _ hx he
        have hR := hR.same sP
        have ha : ((ess.take i).map fun e => V.str (rowT e)).length < sizeLine := by
          rw [List.length_map, List.length_take]
          have : (20 : Nat) ≤ sizeLine := by decide
          omega
        have hn : (ess.take i).map (fun e => V.str (rowT e)) ++ [V.str (rowT (ess[i]'(by omega)))] = (ess.take (i + 1)).map fun e => V.str (rowT e) := by
          rw [List.take_add_one, he, List.map_append]
          rfl
        refine ⟨rfl, ?_⟩
        unfold tYes
        dsimp only
        rw [if_pos rfl]
        refine ⟨_, rfl, b, _, rfl, hR, fun H2 s2 => ?_⟩
        exact ⟨_, s2 _ _ dP, ha, samePut (sP.trans s2) hD, by rw [upd_same]; exact congrArg (fun l => some (HO.lst l)) hn⟩
      · intro H' hP
        obtain ⟨sP, dP⟩ := hP
        have e0 : ess.take xs.length = ess := by rw [hl, List.take_length]
        rw [e0] at dP
        have dP : H' D = some (.lst ((ess.map rowT).map V.str)) := by rw [List.map_map]; exact dP
        have e1 : (Str.ofString "\n").length = 1 := by decide +kernel
        have hsum := rows_le hall
        refine ⟨_, D, ess.map rowT, rfl, rfl, .inl (SqL.of dP), by rw [List.length_map, e1]; omega, ?_⟩
        rw [TL.join_eq]
        exact k H' sP
end
end K94

set_option Elab.async false
set_option linter.all false
set_option maxRecDepth 100000
set_option maxHeartbeats 4000000
/-! Two lists that are equal, asked by != : False. -/
namespace NQ
open PySem PySem.SeqAt GQ
open AutoSeq1 (wpAny_loadPart')
open MeetsSeq MeetsSeq2 MeetsSeq3 SeqRoads2
section
variable {P : Program} {w : World} {A : Around} {R : Result → Shared → Prop}
/-- the walk of != over two equal lists, from place i on -/
theorem ne_walk (p q : Addr) (N : Nat) (J : Nat → Shared → Prop) (two : ListI P w A (fun e t => R (.error e) t) p q N J) (out : ∀ t, J N t → R (.ok (.ret (.bool false))) t) :
    ∀ (left i : Nat), N - i = left → i ≤ N → ∀ t, J i t →
      wpAny (model P w) A.in1 (Builtin.«list.__eq__.loop» ⟨[.ref p, .ref q, rawInt i, rawInt 3], []⟩) (FinOf P w A R) (fun e t => R (.error e) t) t
  | 0, i, hk, hi, t, h => by
    obtain ⟨us, vs, k1, k2, hp, hq, z1, z2, _⟩ := two _ _ h
    obtain rfl : i = N := by omega
    have hR := out t h
    obtain ⟨hh, gg, dd, tt, oo⟩ := t
    wp_walk using wpAny_loadPart' hp, wpAny_loadPart' hq
    rw [show us[((i : Nat) : Int).toNat]? = none by simp; omega, show vs[((i : Nat) : Int).toNat]? = none by simp; omega]
    wp_walk using wpAny_loadPart' hp, wpAny_loadPart' hq
    show R (.ok (.ret (.bool (us.size != vs.size)))) _
    rw [show (us.size != vs.size) = false by rw [z1, z2]; simp]
    exact hR
  | left + 1, i, hk, hi, t, h => by
    obtain ⟨us, vs, k1, k2, hp, hq, z1, z2, one⟩ := two _ _ h
    have l1 : i < us.size := by omega
    have l2 : i < vs.size := by omega
    have turn := one l1 l2
    obtain ⟨hh, gg, dd, tt, oo⟩ := t
    wp_walk using wpAny_loadPart' hp, wpAny_loadPart' hq
    rw [show us[((i : Nat) : Int).toNat]? = some us[i] by simp [l1], show vs[((i : Nat) : Int).toNat]? = some vs[i] by simp [l2]]
    refine wpAny_bind (wpAny_mono turn (fun b t2 ⟨hb, h2⟩ => ?_) fun _ _ z => z)
    subst hb
    have on := ne_walk p q N J two out left (i + 1) (by omega) (by omega) t2 h2
    obtain ⟨hh2, gg2, dd2, tt2, oo2⟩ := t2
    wp_walk
    rw [show ((i : Int) + 1) = ((i + 1 : Nat) : Int) by omega]
    refine ⟨plainId_quiet plain_eq_loop _, codeAny_builtin entry_eq_loop ?_⟩
    rw [Around.under_plainId plain_eq_loop _]
    exact on
theorem list_ne (p q : Addr) (N : Nat) (J : Nat → Shared → Prop) (two : ListI P w A (fun e t => R (.error e) t) p q N J) (out : ∀ t, J N t → R (.ok (.ret (.bool false))) t) {t : Shared} (h : J 0 t) :
    wpAny (model P w) A.in1 (Builtin.«list.__ne__» ⟨[.ref p, .ref q], []⟩) (FinOf P w A R) (fun e t => R (.error e) t) t := by
  obtain ⟨us, vs, k1, k2, hp, hq, z1, z2, _⟩ := two _ _ h
  have on := ne_walk (A := A) (R := R) p q N J two out _ 0 rfl (Nat.zero_le _) t h
  obtain ⟨hh, gg, dd, tt, oo⟩ := t
  have sub := AutoSeq1.sub_list_list
  have same : ¬ (us.size != vs.size) = true := by simp [z1, z2]
  wp_walk using wpAny_loadPart' hp, wpAny_loadPart' hq
  refine ⟨plainId_quiet plain_eq_loop _, codeAny_builtin entry_eq_loop ?_⟩
  rw [Around.under_plainId plain_eq_loop _]
  exact on
end
section
variable {P : Program} {w : World} {A : Around} {E : Value → Shared → Prop} {t : Shared}
theorem rc_ne {p q : Addr} {N : Nat} {Q : Value → Shared → Prop} (hu : A.units < cLine) (J : Nat → Shared → Prop) (two : ListI P w A E p q N J) (out : ∀ t, J N t → Q (.bool false) t) (h : J 0 t) :
    wpAny (model P w) A (richCompare .NotEq (.ref p) (.ref q)) Q E t := by
  obtain ⟨us, vs, k1, k2, hp, hq, _, _, _⟩ := two _ _ h
  refine wpAny_richCompare_same_room (op := .NotEq) ⟨_, hp, rfl⟩ ⟨_, hq, rfl⟩ F.slot_list_ne (call_here F.slot_list_ne ⟨_, hp, rfl⟩ F.entry_list_ne (F.args_list_ne_2 _ _) ?_) hu
  exact list_ne (R := wants (fun v t => v ≠ .notImplemented ∧ Q v t) E) p q N J two (fun t z => ⟨(fun x => nomatch x), out t z⟩) h
end
open L2
/-- xs != ys, two lists whose items are equal in pairs -/
def rNeG (D : Eqv) : R2 := fun x y H Q => DList D x y H ∧ ∀ H', Ext H H' → Q (.bl false) H'
theorem op_neG {X : Cx} {n : Nat} {D : Eqv} (mono : Mon D) (h : EqG X n D) (hr : Room (n + 1) X.A) : OpR X (compareOp .NotEq) (rNeG D) := by
  intro pins s σ H x y v u Q I rx ry hq
  obtain ⟨⟨a, b, xs, ys, rfl, rfl, ha, hb, p⟩, q⟩ := hq
  cases rx
  cases ry
  show wpAny (model X.prog X.w) X.A (richCompare .NotEq (.ref a) (.ref b)) (EP X pins σ Q) X.xe s
  refine rc_ne (N := xs.length) hr.units0 (fun _ t => LoopI X pins σ H t) (fun i t z => ?_) (fun t ⟨H', I', e⟩ => ⟨.bl false, H', I', rfl, q H' e⟩) ⟨H, I, Ext.rfl'⟩
  obtain ⟨H1, I1, e1⟩ := id z
  obtain ⟨_, its, k, r, e⟩ := I1.hok a _ (e1 _ _ ha)
  obtain ⟨_, its2, k2, r2, e2⟩ := I1.hok b _ (e1 _ _ hb)
  exact ⟨its.toArray, its2.toArray, k, k2, e, e2, by rw [List.size_toArray, ← r.length], by rw [List.size_toArray, ← r2.length, ← p.1], fun h1 h2 => turnG mono h ⟨hr, rfl⟩ p r r2 i h1 h2 t z⟩
end NQ

set_option Elab.async false
set_option linter.all false
set_option maxRecDepth 100000
set_option maxHeartbeats 4000000
/-! A rule of my own: x(k=e, ..), x a def of the module, by keywords alone. -/
namespace NX
open PySem PySem.Spec PyProof.Rows L2
section
variable {X : Cx} {CX : CXT} {k : Nat} {f : Addr} {fd : FuncData} {ps ks : List Str} {sp : Sp} {E : XK} {x : Str} {p pos : Pos} {kws : List Keyword} {t : TA}
theorem pe_callKw (F : FnOk X.prog X.w X.K X.mg X.base CX k f fd ps sp) (hr : Room k X.A) (hg : Gl X x) (hm : X.mg x = some (.ref f)) (hk : PySem.W.keepIn X.K (.ref f) = true)
    (hb : ∀ (s : Shared) (us : List Value), us.length = ps.length → BindsTo s fd ⟨[], ks.zip us⟩ (ps.zip us)) (hx : Passes CX X E) (ha : PK X kws t)
    (hall : (backToKw pos (keywordEach kws X.env)).all (·.1.isSome) = true := by rfl) (hks : (backToKw pos (keywordEach kws X.env)).filterMap (·.1) = ks := by rfl) (hdb : (x == ("__debug__" : Str)) = false := by decide)
    (hpl : ((backTo pos (starEach [] X.env)).any (·.1) || (backToKw pos (keywordEach kws X.env)).any (·.1.isNone)) = false := by rfl) :
    PE X (.Call (.Name x p) [] kws pos) (fun σ H Q => t σ H fun vs H1 => sp vs H1 Q E) := by
  refine ⟨fun pins s σ H Q I h => wpAny_Call_Name_kw (ld_glob I hg hm ?_ hdb)⟩
  refine PySem.W.callWith_KW0 (h₀ := X.base) I.ok.mod.kin hk hall (thn (ha.run pos pins s σ H _ I h) fun us s1 ⟨vs, H1, I1, r, q⟩ => ⟨I1.kIn, ?_⟩) hpl
  rw [hks]
  have hl : us.length = ps.length := by rw [← F.len _ _ _ _ q, r.length]
  refine wpAny_call (codeAny_mono (F.run X.A X.stack s1 H1 ⟨[], ks.zip us⟩ us vs Q E hr I1.env0 (hb s1 us hl) r q) fun z s' hq => ?_)
  cases z with
  | error e => exact hx pins σ H1 s1 e s' I1 hq
  | ok fl =>
    cases fl with
    | ret u => exact I1.after hq
    | next => exact False.elim hq
    | brk => exact False.elim hq
    | cont => exact False.elim hq
end
end NX

set_option Elab.async false
set_option linter.all false
set_option maxRecDepth 100000
set_option maxHeartbeats 4000000
/-! What stands in the law's heap: lines, moves, and what stays. -/
namespace K94
open PySem L2 NX
theorem empty_append (a : Str) : Str.empty ++ a = a := by
  obtain ⟨x⟩ := a
  show Str.mk (#[] ++ x) = _
  rw [Array.empty_append]
theorem tx_eq (wd n : Str) : tx wd n = wd ++ Str.ofString " " ++ n := by
  unfold tx
  rw [empty_append]
theorem tx_join (wd n : Str) : Txt.join (Str.ofString " ") [wd, n] = tx wd n := by
  rw [TL.join_eq, tx_eq]
  rfl
theorem split_tx {wd n : Str} (h1 : isW wd = true) (h2 : nm n = true) : Txt.split (tx wd n) (Str.ofString " ") = [wd, n] := by
  rw [← tx_join]
  refine TL.split_join (s := 32) (S := []) (by decide +kernel) (by decide +kernel) (by simp) ?_
  intro p hp
  simp only [List.mem_cons, List.not_mem_nil, or_false] at hp
  rcases hp with e | e <;> subst e
  · rcases isW_cases h1 with e | e | e | e <;> subst e <;> decide +kernel
  · intro h
    unfold nm at h2
    rw [Bool.and_eq_true, Bool.and_eq_true, List.all_eq_true] at h2
    have z := h2.2.2 32 h
    revert z
    decide +kernel
theorem parse_tx {e : Ent} (h : okE e) : Parse (txE e) e.1 e.2 := ⟨split_tx h.1 h.2, h.1, h.2⟩
/-- a block that reads no name of the one around it -/
theorem blkOk_any {N : List Str} {sc scope : Scope} {own : List (Str × Nat)} (h : blkC N ⟨.function, [], false, false, []⟩ scope own = true) (nf : (scope.names.all fun y => !decide (y.2 = .free)) = true) : BlkOk N sc scope own := by
  obtain ⟨a, b, c, d, e⟩ := blkOk_by h
  refine ⟨a, b, c, fun y hy z => ?_, e⟩
  rw [List.all_eq_true] at nf
  have q := nf y hy
  rw [decide_eq_true z] at q
  cases q
/-- tuple(x) and sep.join(x), with the written part told -/
def rTup (K : PySem.W.Frag) : List V → Hp → VK → Prop := fun xs H Q => ∃ p ys, xs = [.ref p] ∧ ((SqL K H p ys ∧ ∀ l, H l = none → Q (.ref l) (upd H l (.tup ys))) ∨ (SqT K H p ys ∧ Q (.ref p) H))
def tJoin (K : PySem.W.Frag) (to te : TE) : TE := tM1 (fun x xs H Q => ∃ a p, ∃ ys : List Str, x = .str a ∧ xs = [.ref p] ∧ (SqL K H p (ys.map V.str) ∨ SqT K H p (ys.map V.str)) ∧ (ys.map (·.length)).sum + ys.length * a.length ≤ 16777216 ∧ Q (.str (Txt.join a ys)) H) to te
/-- two moves of one word and one name -/
def DMv (m : M4) : Eqv := fun x y H => ∃ a b wd n, x = .ref a ∧ y = .ref b ∧ IsMove m H a wd n ∧ IsMove m H b wd n
theorem isMove_ext {m : M4} {H H' : Hp} {x : Addr} {wd n : Str} (e : L2.Ext H H') (h : IsMove m H x wd n) : IsMove m H' x wd n := by
  obtain ⟨dx, a, b, c⟩ := h
  exact ⟨dx, a, b, e _ _ c⟩
theorem mon_mv (m : M4) : Mon (DMv m) := fun x y H H' e ⟨a, b, wd, n, hx, hy, h1, h2⟩ => ⟨a, b, wd, n, hx, hy, isMove_ext e h1, isMove_ext e h2⟩
abbrev DRow (m : M4) : Eqv := DList (DMv m)
theorem mon_row (m : M4) : Mon (DRow m) := mon_list (mon_mv m)
theorem eq_mv {X : Cx} {m : M4} {CMv f : Addr} {fd : FuncData} (F : FnOk X.prog X.w X.K X.mg X.base CX0 1 f fd ["self", "other"] (spEq X.K m CMv)) (hb : Binds X.K fd ["self", "other"] []) (c : ∀ wd, isW wd = true → NX.EqC X.K (m.of wd) f) : EqG X 1 (DMv m) := by
  have F2 : FnOk X.prog X.w X.K X.mg X.base CX0 1 f fd ["self", "other"] (L2.spEq fun a b H => ∃ wd n, IsMove m H a wd n ∧ IsMove m H b wd n) := F.imp fun vs H Q E h => by
    obtain ⟨a, b, rfl, ⟨wd, n, h1, h2⟩, q⟩ := h
    refine ⟨a, wd, n, .ref b, rfl, h1, .inl ⟨b, wd, n, rfl, h2, ?_⟩⟩
    rw [decide_eq_true rfl, decide_eq_true rfl]
    exact q H Ext.rfl'
  intro A pins s σ H x y u v sb I rx ry d
  obtain ⟨a, b, wd, n, rfl, rfl, h1, h2⟩ := d
  obtain ⟨dx, hw, hn, hx⟩ := id h1
  obtain ⟨dy, _, _, hy⟩ := id h2
  have k := c wd hw
  exact eqG_ins (C := m.of wd) F2 k.eq k.fn hb pass0 A pins s σ H _ _ u v sb I rx ry ⟨a, b, dx, dy, _, _, rfl, rfl, hx, hy, wd, n, h1, h2⟩
theorem eq_row {X : Cx} {m : M4} (h : EqG X 1 (DMv m)) : EqG X 2 (DRow m) := eqG_list (mon_mv m) h
/-- a line: the texts of its moves, in a list -/
structure Line (H : Hp) (p c b : Addr) (es : List Ent) : Prop where
  h : H b = some (.lst (es.map fun e => V.str (txE e)))
  np : b ≠ p
  nc : b ≠ c
  ok : ∀ e ∈ es, okE e
  len : es.length ≤ 4
structure Lines (H : Hp) (p c l : Addr) (bs : List Addr) (ess : List (List Ent)) : Prop where
  h : H l = some (.lst (bs.map V.ref))
  np : l ≠ p
  nc : l ≠ c
  len : bs.length = ess.length
  row : ∀ (i : Nat) (b : Addr) (es : List Ent), bs[i]? = some b → ess[i]? = some es → Line H p c b es
/-- a row of moves, in a list -/
structure MRow (m : M4) (H : Hp) (p c b : Addr) (es : List Ent) : Prop where
  ex : ∃ xs : List Addr, H b = some (.lst (xs.map V.ref)) ∧ xs.length = es.length ∧ ∀ (i : Nat) (x : Addr) (e : Ent), xs[i]? = some x → es[i]? = some e → IsMove m H x e.1 e.2
  np : b ≠ p
  nc : b ≠ c
  ok : ∀ e ∈ es, okE e
  len : es.length ≤ 4
structure MPlan (m : M4) (H : Hp) (p c a : Addr) (bs : List Addr) (ess : List (List Ent)) : Prop where
  h : H a = some (.lst (bs.map V.ref))
  np : a ≠ p
  nc : a ≠ c
  len : bs.length = ess.length
  row : ∀ (i : Nat) (b : Addr) (es : List Ent), bs[i]? = some b → ess[i]? = some es → MRow m H p c b es
theorem Line.but {H H' : Hp} {p c b : Addr} {es : List Ent} (B : But p c H H') (h : Line H p c b es) : Line H' p c b es := ⟨B _ _ h.h h.np h.nc, h.np, h.nc, h.ok, h.len⟩
theorem Lines.but {H H' : Hp} {p c l : Addr} {bs : List Addr} {ess : List (List Ent)} (B : But p c H H') (h : Lines H p c l bs ess) : Lines H' p c l bs ess := ⟨B _ _ h.h h.np h.nc, h.np, h.nc, h.len, fun i b es h1 h2 => (h.row i b es h1 h2).but B⟩
theorem isMove_but {m : M4} {H H' : Hp} {p c x : Addr} {ns : List Int} {r s n : Int} {wd nn : Str} (P : Pen H p c ns r s n) (B : But p c H H') (h : IsMove m H x wd nn) : IsMove m H' x wd nn := by
  obtain ⟨dx, a, b, hx⟩ := h
  refine ⟨dx, a, b, B _ _ hx (fun e => ?_) (fun e => ?_)⟩
  · rw [e, P.hp] at hx
    cases hx
  · rw [e, P.hc] at hx
    cases hx
theorem MRow.but {m : M4} {H H' : Hp} {p c b : Addr} {ns : List Int} {r s n : Int} {es : List Ent} (P : Pen H p c ns r s n) (B : But p c H H') (h : MRow m H p c b es) : MRow m H' p c b es := by
  obtain ⟨⟨xs, h1, h2, h3⟩, a, d, o, l⟩ := h
  exact ⟨⟨xs, B _ _ h1 a d, h2, fun i x e q1 q2 => isMove_but P B (h3 i x e q1 q2)⟩, a, d, o, l⟩
theorem MPlan.but {m : M4} {H H' : Hp} {p c a : Addr} {bs : List Addr} {ns : List Int} {r s n : Int} {ess : List (List Ent)} (P : Pen H p c ns r s n) (B : But p c H H') (h : MPlan m H p c a bs ess) : MPlan m H' p c a bs ess :=
  ⟨B _ _ h.h h.np h.nc, h.np, h.nc, h.len, fun i b es h1 h2 => (h.row i b es h1 h2).but P B⟩
theorem Line.at_ {K : PySem.W.Frag} {m : M4} {H : Hp} {p c b : Addr} {es : List Ent} (h : Line H p c b es) : RowAt K m H b es :=
  ⟨⟨_, .inl (SqL.of h.h), by rw [List.length_map], fun i v e h1 h2 => by
    rw [List.getElem?_map, h2] at h1
    cases h1
    exact ⟨h.ok e (List.mem_of_getElem? h2), .inr rfl⟩⟩, h.len⟩
theorem MRow.at_ {K : PySem.W.Frag} {m : M4} {H : Hp} {p c b : Addr} {es : List Ent} (h : MRow m H p c b es) : RowAt K m H b es := by
  obtain ⟨⟨xs, h1, h2, h3⟩, a, d, o, l⟩ := h
  refine ⟨⟨_, .inl (SqL.of h1), by rw [List.length_map, h2], fun i v e q1 q2 => ?_⟩, l⟩
  rw [List.getElem?_map] at q1
  obtain ⟨x, q3, rfl⟩ := Option.map_eq_some_iff.mp q1
  exact ⟨o e (List.mem_of_getElem? q2), .inl ⟨x, rfl, h3 i x e q3 q2⟩⟩
theorem Lines.at_ {K : PySem.W.Frag} {m : M4} {H : Hp} {p c l : Addr} {bs : List Addr} {ess : List (List Ent)} (h : Lines H p c l bs ess) (h9 : ess.length ≤ 9) : PlanAt K m H l ess :=
  ⟨⟨_, .inl (SqL.of h.h), by rw [List.length_map, h.len], fun i v es q1 q2 => by
    rw [List.getElem?_map] at q1
    obtain ⟨b, q3, rfl⟩ := Option.map_eq_some_iff.mp q1
    exact ⟨b, rfl, (h.row i b es q3 q2).at_⟩⟩, h9⟩
theorem MPlan.at_ {K : PySem.W.Frag} {m : M4} {H : Hp} {p c a : Addr} {bs : List Addr} {ess : List (List Ent)} (h : MPlan m H p c a bs ess) (h9 : ess.length ≤ 9) : PlanAt K m H a ess :=
  ⟨⟨_, .inl (SqL.of h.h), by rw [List.length_map, h.len], fun i v es q1 q2 => by
    rw [List.getElem?_map] at q1
    obtain ⟨b, q3, rfl⟩ := Option.map_eq_some_iff.mp q1
    exact ⟨b, rfl, (h.row i b es q3 q2).at_⟩⟩, h9⟩
/-- two rows of the same moves are equal -/
theorem MRow.eqv {m : M4} {H : Hp} {p c b p2 c2 b2 : Addr} {es : List Ent} (h : MRow m H p c b es) (h2 : MRow m H p2 c2 b2 es) : DRow m (.ref b) (.ref b2) H := by
  obtain ⟨⟨xs, a1, a2, a3⟩, _, _, o, _⟩ := h
  obtain ⟨⟨ys, b1, b2, b3⟩, _, _, _, _⟩ := h2
  refine ⟨_, _, _, _, rfl, rfl, a1, b1, by rw [List.length_map, List.length_map, a2, b2], fun i x y q1 q2 => ?_⟩
  rw [List.getElem?_map] at q1 q2
  obtain ⟨x, q3, rfl⟩ := Option.map_eq_some_iff.mp q1
  obtain ⟨y, q4, rfl⟩ := Option.map_eq_some_iff.mp q2
  have hi : i < es.length := by rw [← a2]; exact (List.getElem?_eq_some_iff.mp q3).1
  exact ⟨x, y, es[i].1, es[i].2, rfl, rfl, a3 i x _ q3 (List.getElem?_eq_getElem hi), b3 i y _ q4 (List.getElem?_eq_getElem hi)⟩
theorem MPlan.eqv {m : M4} {H : Hp} {p c a p2 c2 a2 : Addr} {bs bs2 : List Addr} {ess : List (List Ent)} (h : MPlan m H p c a bs ess) (h2 : MPlan m H p2 c2 a2 bs2 ess) : DList (DRow m) (.ref a) (.ref a2) H := by
  refine ⟨_, _, _, _, rfl, rfl, h.h, h2.h, by rw [List.length_map, List.length_map, h.len, h2.len], fun i x y q1 q2 => ?_⟩
  rw [List.getElem?_map] at q1 q2
  obtain ⟨b, q3, rfl⟩ := Option.map_eq_some_iff.mp q1
  obtain ⟨b2, q4, rfl⟩ := Option.map_eq_some_iff.mp q2
  have hi : i < ess.length := by rw [← h.len]; exact (List.getElem?_eq_some_iff.mp q3).1
  exact (h.row i b _ q3 (List.getElem?_eq_getElem hi)).eqv (h2.row i b2 _ q4 (List.getElem?_eq_getElem hi))
/-- the pen, with a bound on what was drawn -/
def PenB (H : Hp) (p c : Addr) (B : Int) : Prop := ∃ ns r s n, Pen H p c ns r s n ∧ n ≤ B
theorem PenB.mono {H : Hp} {p c : Addr} {B B' : Int} (h : PenB H p c B) (b : B ≤ B') : PenB H p c B' := by
  obtain ⟨ns, r, s, n, P, q⟩ := h
  exact ⟨ns, r, s, n, P, Int.le_trans q b⟩
theorem PenB.same {H H' : Hp} {p c : Addr} {B : Int} (h : PenB H p c B) (s : Same H H') : PenB H' p c B := by
  obtain ⟨ns, r, sd, n, P, q⟩ := h
  exact ⟨ns, r, sd, n, P.same s, q⟩
theorem PenB.put {H : Hp} {p c e : Addr} {o : HO} {B : Int} (h : PenB H p c B) (h1 : e ≠ p) (h2 : e ≠ c) : PenB (upd H e o) p c B := by
  obtain ⟨ns, r, sd, n, P, q⟩ := h
  exact ⟨ns, r, sd, n, ⟨by rw [upd_ne h1.symm]; exact P.hp, by rw [upd_ne h2.symm]; exact P.hc, P.lr, P.ls, P.lt, P.ln⟩, q⟩
theorem PenB.ne {H : Hp} {p c e : Addr} {B : Int} (h : PenB H p c B) (he : H e = none) : e ≠ p ∧ e ≠ c := by
  obtain ⟨ns, r, sd, n, P, q⟩ := h
  exact ⟨(ne_of_none P.hp he).symm, (ne_of_none P.hc he).symm⟩
theorem PenB.some_ {H : Hp} {p c : Addr} {B : Int} (h : PenB H p c B) : (H p).isSome = true ∧ (H c).isSome = true := by
  obtain ⟨ns, r, sd, n, P, q⟩ := h
  exact ⟨by rw [P.hp]; rfl, by rw [P.hc]; rfl⟩
theorem Drawn.penB {H H' : Hp} {p c : Addr} {m : Int} (h : Drawn H p c m H') : PenB H' p c m ∧ But p c H H' := by
  obtain ⟨ns, r, s, n, P, q, B⟩ := h
  exact ⟨⟨ns, r, s, n, P, q⟩, B⟩
theorem Lines.put {H : Hp} {p c l e : Addr} {o : HO} {bs : List Addr} {ess : List (List Ent)} (h : Lines H p c l bs ess) (h1 : e ≠ l) (h2 : ∀ b ∈ bs, b ≠ e) : Lines (upd H e o) p c l bs ess :=
  ⟨by rw [upd_ne h1.symm]; exact h.h, h.np, h.nc, h.len, fun i b es q1 q2 => by
    have z := h.row i b es q1 q2
    exact ⟨by rw [upd_ne (h2 b (List.mem_of_getElem? q1))]; exact z.h, z.np, z.nc, z.ok, z.len⟩⟩
theorem Lines.new {H : Hp} {p c l e : Addr} {bs : List Addr} {ess : List (List Ent)} (h : Lines H p c l bs ess) (he : H e = none) : e ≠ l ∧ ∀ b ∈ bs, b ≠ e := by
  refine ⟨(ne_of_none h.h he).symm, fun b hb => ?_⟩
  obtain ⟨i, hi, rfl⟩ := List.mem_iff_getElem.mp hb
  have z := h.row i bs[i] (ess[i]'(by rw [← h.len]; exact hi)) (List.getElem?_eq_getElem hi) (List.getElem?_eq_getElem _)
  exact ne_of_none z.h he
theorem Lines.snoc {H : Hp} {p c l e : Addr} {bs : List Addr} {ess : List (List Ent)} {es : List Ent} (h : Lines H p c l bs ess) (k : Line H p c e es) (h1 : e ≠ l) (h2 : l ∉ bs) : Lines (upd H l (.lst (bs.map V.ref ++ [V.ref e]))) p c l (bs ++ [e]) (ess ++ [es]) := by
  refine ⟨by rw [upd_same, List.map_append]; rfl, h.np, h.nc, by rw [List.length_append, List.length_append, h.len]; rfl, fun i b x q1 q2 => ?_⟩
  have up : ∀ {b : Addr} {x : List Ent}, Line H p c b x → b ≠ l → Line (upd H l (.lst (bs.map V.ref ++ [V.ref e]))) p c b x := fun z n => ⟨by rw [upd_ne n]; exact z.h, z.np, z.nc, z.ok, z.len⟩
  by_cases hi : i < bs.length
  · rw [List.getElem?_append_left hi] at q1
    rw [List.getElem?_append_left (by rw [← h.len]; exact hi)] at q2
    exact up (h.row i b x q1 q2) fun e => h2 (e ▸ List.mem_of_getElem? q1)
  · rw [List.getElem?_append_right (by omega)] at q1
    rw [List.getElem?_append_right (by rw [← h.len]; omega), ← h.len] at q2
    obtain ⟨rfl, rfl⟩ : e = b ∧ es = x := by
      cases hk : i - bs.length with
      | zero =>
        rw [hk] at q1 q2
        simp at q1 q2
        exact ⟨q1, q2⟩
      | succ n =>
        rw [hk] at q1
        simp at q1
    exact up k h1
/-- what reading the text of a plan tells -/
def goodP (ess : List (List Ent)) : Prop := 1 ≤ ess.length ∧ ess.length ≤ 9 ∧ ∀ es ∈ ess, (∀ e ∈ es, okE e) ∧ es.length ≤ 4
def spReadP (m : M4) : Sp := fun vs H Q _ => ∃ ess, vs = [.str (planT ess)] ∧ goodP ess ∧ ∀ (r : Addr) (bs : List Addr) (H' : Hp), Same H H' → (∀ p c, (H p).isSome = true → (H c).isSome = true → MPlan m H' p c r bs ess) → Q (.ref r) H'
end K94

set_option Elab.async false
set_option linter.all false
set_option maxRecDepth 100000
set_option maxHeartbeats 4000000
/-! Texts of moves as data; rows that are lists or tuples; what a put keeps. -/
namespace K94
open PySem L2 NX
theorem yesI {σ : L2.St} {H : Hp} {F G : Hp → Prop} (h : F H) : tYes σ H (fun b H3 => if b = true then F H3 else G H3) := by
  show if true = true then F H else G H
  rw [if_pos rfl]
  exact h
def okS (z : Str) : Prop := ∀ ch ∈ z.cps.toList, ch < 256
/-- a short text of signs of small codes -/
def okL (z : Str) (k : Nat) : Prop := okS z ∧ z.length ≤ k
theorem cps_append (a b : Str) : (a ++ b).cps.toList = a.cps.toList ++ b.cps.toList := by
  show (a.cps ++ b.cps).toList = _
  rw [Array.toList_append]
theorem okL.append {a b : Str} {i j : Nat} (ha : okL a i) (hb : okL b j) : okL (a ++ b) (i + j) := by
  refine ⟨fun ch h => ?_, by rw [Str.length_append]; have := ha.2; have := hb.2; omega⟩
  rw [cps_append, List.mem_append] at h
  rcases h with h | h
  · exact ha.1 ch h
  · exact hb.1 ch h
theorem okL.mono {a : Str} {i j : Nat} (ha : okL a i) (h : i ≤ j) : okL a j := ⟨ha.1, Nat.le_trans ha.2 h⟩
theorem okL_nm {n : Str} (h : nm n = true) : okL n 6 := by
  refine ⟨fun ch hc => ?_, (nm_len h).2⟩
  unfold nm at h
  rw [Bool.and_eq_true, Bool.and_eq_true, List.all_eq_true] at h
  have z := h.2.2 ch hc
  unfold lett at z
  rw [Bool.and_eq_true, decide_eq_true_eq, decide_eq_true_eq] at z
  omega
theorem okL_w {wd : Str} (h : isW wd = true) : okL wd 6 := by
  refine ⟨?_, isW_len h⟩
  rcases isW_cases h with e | e | e | e <;> subst e <;> (unfold okS; decide +kernel)
theorem okL_c {z : Str} {k : Nat} (h : (z.cps.toList.all (fun ch => decide (ch < 256)) && decide (z.length ≤ k)) = true) : okL z k := by
  rw [Bool.and_eq_true, List.all_eq_true, decide_eq_true_eq] at h
  exact ⟨fun ch hc => of_decide_eq_true (h.1 ch hc), h.2⟩
theorem okL_tx {wd n : Str} (h1 : isW wd = true) (h2 : nm n = true) : okL (tx wd n) 13 := by
  rw [tx_eq]
  exact ((okL_w h1).append (okL_c (k := 1) (by decide +kernel))).append (okL_nm h2)
theorem strOk_of {a : Str} (h : okS a) : PyData.strOk a = true := by
  show a.cps.all (fun x => decide (x < 1114112)) = true
  rw [← Array.all_toList, List.all_eq_true]
  exact fun c hc => decide_eq_true (Nat.lt_trans (h c hc) (by decide))

/-- the texts of a line, as data -/
def lineD (es : List Ent) : PyData := .list (es.map fun e => PyData.str (txE e))
theorem dpLine {K : PySem.W.Frag} {H : Hp} : ∀ es : List Ent, DpAll K H (es.map fun e => V.str (txE e)) (es.map fun e => PyData.str (txE e))
  | [] => .nil
  | e :: r => .cons (.str _) (dpLine r)
theorem canLine : ∀ {es : List Ent}, (∀ e ∈ es, okE e) → PyData.canLayAll0 (es.map fun e => PyData.str (txE e)) = true
  | [], _ => rfl
  | e :: r, h => by
    have h1 : PyData.strOk (txE e) = true := strOk_of (okL_tx (h e List.mem_cons_self).1 (h e List.mem_cons_self).2).1
    have h2 := canLine (es := r) fun x hx => h x (List.mem_cons_of_mem _ hx)
    show (PyData.strOk (txE e) && PyData.canLayAll0 (r.map fun e => PyData.str (txE e))) = true
    rw [h1, h2]
    rfl
theorem depthLine : ∀ es : List Ent, PyData.depthAll (es.map fun e => PyData.str (txE e)) ≤ 1
  | [] => by decide
  | e :: r => by
    have h := depthLine r
    show max _ _ ≤ 1
    refine Nat.max_le.mpr ⟨by show 0 ≤ 1; exact Nat.zero_le _, h⟩
theorem shapedLine {es : List Ent} (h : ∀ e ∈ es, okE e) : SeqAt.shaped (lineD es) = true := by
  have h1 := canLine h
  have h2 := depthLine es
  unfold SeqAt.shaped lineD
  rw [Bool.and_eq_true, decide_eq_true_eq]
  refine ⟨h1, ?_⟩
  show _ + 1 ≤ 64
  omega

theorem eqv_nil {es : List Ent} : PyData.eqv (lineD es) (.list []) = decide (es = []) := by
  cases es with
  | nil => rfl
  | cons e r => rfl
theorem isMove_put {m : M4} {H : Hp} {x e : Addr} {ys : List V} {o : HO} {wd n : Str} (he : H e = some (.lst ys)) (h : IsMove m H x wd n) : IsMove m (upd H e o) x wd n := by
  obtain ⟨dx, a, b, hx⟩ := h
  refine ⟨dx, a, b, ?_⟩
  rw [upd_ne (fun z => by rw [z, he] at hx; cases hx)]
  exact hx
theorem MRow.put {m : M4} {H : Hp} {p c b e : Addr} {ys : List V} {o : HO} {es : List Ent} (he : H e = some (.lst ys)) (n : b ≠ e) (h : MRow m H p c b es) : MRow m (upd H e o) p c b es := by
  obtain ⟨⟨xs, h1, h2, h3⟩, a, d, ok, l⟩ := h
  exact ⟨⟨xs, by rw [upd_ne n]; exact h1, h2, fun i x e q1 q2 => isMove_put he (h3 i x e q1 q2)⟩, a, d, ok, l⟩
theorem MPlan.snoc {m : M4} {H : Hp} {p c a b : Addr} {bs : List Addr} {ess : List (List Ent)} {es : List Ent} (h : MPlan m H p c a bs ess) (k : MRow m H p c b es) (h1 : b ≠ a) (h2 : a ∉ bs) : MPlan m (upd H a (.lst (bs.map V.ref ++ [V.ref b]))) p c a (bs ++ [b]) (ess ++ [es]) := by
  refine ⟨by rw [upd_same, List.map_append]; rfl, h.np, h.nc, by rw [List.length_append, List.length_append, h.len]; rfl, fun i b' x q1 q2 => ?_⟩
  by_cases hi : i < bs.length
  · rw [List.getElem?_append_left hi] at q1
    rw [List.getElem?_append_left (by rw [← h.len]; exact hi)] at q2
    exact (h.row i b' x q1 q2).put h.h fun e => h2 (e ▸ List.mem_of_getElem? q1)
  · rw [List.getElem?_append_right (by omega)] at q1
    rw [List.getElem?_append_right (by rw [← h.len]; omega), ← h.len] at q2
    obtain ⟨rfl, rfl⟩ : b = b' ∧ es = x := by
      cases hk : i - bs.length with
      | zero =>
        rw [hk] at q1 q2
        simp at q1 q2
        exact ⟨q1, q2⟩
      | succ n =>
        rw [hk] at q1
        simp at q1
    exact k.put h.h h1
/-- rows of moves, lists or tuples, among the first i of a plan -/
structure TRow (m : M4) (H : Hp) (p c b : Addr) (es : List Ent) : Prop where
  ex : ∃ xs : List Addr, (H b = some (.lst (xs.map V.ref)) ∨ H b = some (.tup (xs.map V.ref))) ∧ xs.length = es.length ∧ ∀ (i : Nat) (x : Addr) (e : Ent), xs[i]? = some x → es[i]? = some e → IsMove m H x e.1 e.2
  np : b ≠ p
  nc : b ≠ c
  ok : ∀ e ∈ es, okE e
  len : es.length ≤ 4
theorem MRow.t {m : M4} {H : Hp} {p c b : Addr} {es : List Ent} (h : MRow m H p c b es) : TRow m H p c b es := by
  obtain ⟨⟨xs, h1, h2, h3⟩, a, d, ok, l⟩ := h
  exact ⟨⟨xs, .inl h1, h2, h3⟩, a, d, ok, l⟩
theorem TRow.put {m : M4} {H : Hp} {p c b e : Addr} {ys : List V} {o : HO} {es : List Ent} (he : H e = some (.lst ys)) (n : b ≠ e) (h : TRow m H p c b es) : TRow m (upd H e o) p c b es := by
  obtain ⟨⟨xs, h1, h2, h3⟩, a, d, ok, l⟩ := h
  exact ⟨⟨xs, by rw [upd_ne n]; exact h1, h2, fun i x e q1 q2 => isMove_put he (h3 i x e q1 q2)⟩, a, d, ok, l⟩
theorem TRow.but {m : M4} {H H' : Hp} {p c b : Addr} {ns : List Int} {r s n : Int} {es : List Ent} (P : Pen H p c ns r s n) (B : But p c H H') (h : TRow m H p c b es) : TRow m H' p c b es := by
  obtain ⟨⟨xs, h1, h2, h3⟩, a, d, o, l⟩ := h
  exact ⟨⟨xs, h1.imp (fun z => B _ _ z a d) (fun z => B _ _ z a d), h2, fun i x e q1 q2 => isMove_but P B (h3 i x e q1 q2)⟩, a, d, o, l⟩
theorem TRow.at_ {K : PySem.W.Frag} {m : M4} {H : Hp} {p c b : Addr} {es : List Ent} (h : TRow m H p c b es) : RowAt K m H b es := by
  obtain ⟨⟨xs, h1, h2, h3⟩, a, d, o, l⟩ := h
  refine ⟨⟨xs.map V.ref, h1.imp SqL.of SqT.of, by rw [List.length_map, h2], fun i v e q1 q2 => ?_⟩, l⟩
  rw [List.getElem?_map] at q1
  obtain ⟨x, q3, rfl⟩ := Option.map_eq_some_iff.mp q1
  exact ⟨o e (List.mem_of_getElem? q2), .inl ⟨x, rfl, h3 i x e q3 q2⟩⟩
structure TPlan (m : M4) (H : Hp) (p c a : Addr) (bs : List Addr) (ess : List (List Ent)) : Prop where
  h : H a = some (.lst (bs.map V.ref))
  np : a ≠ p
  nc : a ≠ c
  len : bs.length = ess.length
  row : ∀ (i : Nat) (b : Addr) (es : List Ent), bs[i]? = some b → ess[i]? = some es → TRow m H p c b es
theorem TPlan.but {m : M4} {H H' : Hp} {p c a : Addr} {bs : List Addr} {ns : List Int} {r s n : Int} {ess : List (List Ent)} (P : Pen H p c ns r s n) (B : But p c H H') (h : TPlan m H p c a bs ess) : TPlan m H' p c a bs ess :=
  ⟨B _ _ h.h h.np h.nc, h.np, h.nc, h.len, fun i b es h1 h2 => (h.row i b es h1 h2).but P B⟩
theorem TPlan.at_ {K : PySem.W.Frag} {m : M4} {H : Hp} {p c a : Addr} {bs : List Addr} {ess : List (List Ent)} (h : TPlan m H p c a bs ess) (h9 : ess.length ≤ 9) : PlanAt K m H a ess :=
  ⟨⟨_, .inl (SqL.of h.h), by rw [List.length_map, h.len], fun i v es q1 q2 => by
    rw [List.getElem?_map] at q1
    obtain ⟨b, q3, rfl⟩ := Option.map_eq_some_iff.mp q1
    exact ⟨b, rfl, (h.row i b es q3 q2).at_⟩⟩, h9⟩
theorem TPlan.snoc {m : M4} {H : Hp} {p c a b : Addr} {bs : List Addr} {ess : List (List Ent)} {es : List Ent} (h : TPlan m H p c a bs ess) (k : TRow m H p c b es) (h1 : b ≠ a) (h2 : a ∉ bs) : TPlan m (upd H a (.lst (bs.map V.ref ++ [V.ref b]))) p c a (bs ++ [b]) (ess ++ [es]) := by
  refine ⟨by rw [upd_same, List.map_append]; rfl, h.np, h.nc, by rw [List.length_append, List.length_append, h.len]; rfl, fun i b' x q1 q2 => ?_⟩
  by_cases hi : i < bs.length
  · rw [List.getElem?_append_left hi] at q1
    rw [List.getElem?_append_left (by rw [← h.len]; exact hi)] at q2
    exact (h.row i b' x q1 q2).put h.h fun e => h2 (e ▸ List.mem_of_getElem? q1)
  · rw [List.getElem?_append_right (by omega)] at q1
    rw [List.getElem?_append_right (by rw [← h.len]; omega), ← h.len] at q2
    obtain ⟨rfl, rfl⟩ : b = b' ∧ es = x := by
      cases hk : i - bs.length with
      | zero =>
        rw [hk] at q1 q2
        simp at q1 q2
        exact ⟨q1, q2⟩
      | succ n =>
        rw [hk] at q1
        simp at q1
    exact k.put h.h h1
theorem MPlan.put {m : M4} {H : Hp} {p c a e : Addr} {bs : List Addr} {ess : List (List Ent)} {ys : List V} {o : HO} (h : MPlan m H p c a bs ess) (he : H e = some (.lst ys)) (h1 : a ≠ e) (h2 : e ∉ bs) : MPlan m (upd H e o) p c a bs ess :=
  ⟨by rw [upd_ne h1]; exact h.h, h.np, h.nc, h.len, fun i b es q1 q2 => (h.row i b es q1 q2).put he fun z => h2 (z ▸ List.mem_of_getElem? q1)⟩
theorem MPlan.new {m : M4} {H : Hp} {p c a e : Addr} {bs : List Addr} {ess : List (List Ent)} (h : MPlan m H p c a bs ess) (he : H e = none) : a ≠ e ∧ e ∉ bs := by
  refine ⟨ne_of_none h.h he, fun hb => ?_⟩
  obtain ⟨i, hi, q⟩ := List.mem_iff_getElem.mp hb
  obtain ⟨⟨xs, z, _⟩, _⟩ := h.row i bs[i] (ess[i]'(by rw [← h.len]; exact hi)) (List.getElem?_eq_getElem hi) (List.getElem?_eq_getElem _)
  rw [q, he] at z
  cases z
end K94

set_option Elab.async false
set_option linter.all false
set_option maxRecDepth 100000
set_option maxHeartbeats 4000000
/-! The words of a line of a plan. -/
namespace K94
open PySem L2 NX
def comma : Str := Str.ofString ","
theorem comma_l : comma.cps.toList = [44] := by decide +kernel
theorem comma_n : comma.length = 1 := by decide +kernel
theorem str_ext {a b : Str} (h : a.cps.toList = b.cps.toList) : a = b := by
  obtain ⟨⟨x⟩⟩ := a
  obtain ⟨⟨y⟩⟩ := b
  have e : x = y := h
  rw [e]
theorem len_l (a : Str) : a.length = a.cps.toList.length := by
  show a.cps.size = _
  simp
theorem nm_no {n : Str} (h : nm n = true) {c : Nat} (hc : lett c = false) : c ∉ n.cps.toList := fun hm => by
  unfold nm at h
  rw [Bool.and_eq_true, Bool.and_eq_true, List.all_eq_true] at h
  have z := h.2.2 c hm
  rw [hc] at z
  cases z
theorem rms_comma {n : Str} : Txt.removesuffix (n ++ comma) comma = n := by
  rw [StrLaws.removesuffix_eq]
  have l1 : (n ++ comma).length = n.length + 1 := by rw [Str.length_append, comma_n]
  have l2 : (n ++ comma).length - comma.length = n.length := by rw [l1, comma_n]; omega
  have hn : n.length = n.cps.toList.length := len_l n
  have s : Builtin.Str.subAt (n ++ comma) comma n.length = true := by
    rw [StrLaws.subAt_eq, cps_append, hn, List.drop_left, comma_l, comma_n]
    rfl
  rw [l2, s, decide_eq_true (by rw [l1, comma_n]; omega)]
  rw [Bool.and_true, if_pos rfl]
  refine str_ext ?_
  show ((n ++ comma).cps.toList.drop 0).take (n.length - 0) = _
  rw [List.drop_zero, Nat.sub_zero, cps_append, hn, List.take_left]
theorem rms_none {n : Str} (h : nm n = true) : Txt.removesuffix n comma = n := by
  rw [StrLaws.removesuffix_eq]
  have s : Builtin.Str.subAt n comma (n.length - comma.length) = false := by
    cases e : Builtin.Str.subAt n comma (n.length - comma.length) with
    | false => rfl
    | true =>
      rw [StrLaws.subAt_eq, comma_l] at e
      have e := eq_of_beq e
      have m : (44 : Nat) ∈ ((n.cps.toList.drop (n.length - comma.length)).take comma.length) := by rw [e]; simp
      exact absurd (List.mem_of_mem_drop (List.mem_of_mem_take m)) (nm_no h (by decide))
  rw [s, Bool.and_false]
  rfl
theorem ne_comma (n : Str) : n ≠ n ++ comma := fun e => by
  have h := congrArg Str.length e
  rw [Str.length_append, comma_n] at h
  omega
/-- the words of a line -/
def wordsOf : List Ent → List Str
  | [] => [Str.ofString "-"]
  | [e] => [e.1, e.2]
  | e :: d :: r => e.1 :: (e.2 ++ comma) :: wordsOf (d :: r)
theorem wordsOf_ne : ∀ es, wordsOf es ≠ []
  | [] => by simp [wordsOf]
  | [e] => by simp [wordsOf]
  | e :: d :: r => by simp [wordsOf]
theorem wordsOf_len : ∀ {es : List Ent}, es ≠ [] → (wordsOf es).length = 2 * es.length
  | [], h => absurd rfl h
  | [e], _ => rfl
  | e :: d :: r, _ => by
    have h := wordsOf_len (es := d :: r) (by simp)
    show (wordsOf (d :: r)).length + 1 + 1 = _
    rw [h]
    simp only [List.length_cons]
    omega
theorem wordsOf_at : ∀ {es : List Ent} {i : Nat} {e : Ent}, es[i]? = some e → (wordsOf es)[2 * i]? = some e.1 ∧ (wordsOf es)[2 * i + 1]? = some (if i + 1 < es.length then e.2 ++ comma else e.2)
  | [], i, e, h => by simp at h
  | [d], 0, e, h => by simp at h; subst h; exact ⟨rfl, rfl⟩
  | [d], i + 1, e, h => by simp at h
  | a :: d :: r, 0, e, h => by
    simp at h
    subst h
    refine ⟨rfl, ?_⟩
    rw [if_pos (by simp)]
    rfl
  | a :: d :: r, i + 1, e, h => by
    have h' : (d :: r)[i]? = some e := by simpa using h
    obtain ⟨h1, h2⟩ := wordsOf_at h'
    have e1 : 2 * (i + 1) = 2 * i + 1 + 1 := by omega
    have e2 : 2 * (i + 1) + 1 = 2 * i + 1 + 1 + 1 := by omega
    refine ⟨?_, ?_⟩
    · rw [e1]
      exact h1
    · rw [e2]
      refine Eq.trans h2 ?_
      congr 1
      by_cases q : i + 1 < (d :: r).length
      · rw [if_pos q, if_pos (by simp only [List.length_cons] at q ⊢; omega)]
      · rw [if_neg q, if_neg (by simp only [List.length_cons] at q ⊢; omega)]
theorem app_assoc (a b c : Str) : a ++ b ++ c = a ++ (b ++ c) := by
  refine str_ext ?_
  rw [cps_append, cps_append, cps_append, cps_append, List.append_assoc]
theorem join_words : ∀ {es : List Ent}, es ≠ [] → Str.join (Str.ofString " ") (wordsOf es) = Str.join (Str.ofString ", ") (es.map txE)
  | [], h => absurd rfl h
  | [e], _ => by
    show e.1 ++ Str.ofString " " ++ e.2 = txE e
    exact (tx_eq _ _).symm
  | e :: d :: r, _ => by
    have h := join_words (es := d :: r) (by simp)
    have e1 : Str.join (Str.ofString " ") (wordsOf (e :: d :: r)) = e.1 ++ Str.ofString " " ++ (e.2 ++ comma ++ Str.ofString " " ++ Str.join (Str.ofString " ") (wordsOf (d :: r))) := by
      cases q : wordsOf (d :: r) with
      | nil => exact absurd q (wordsOf_ne _)
      | cons a l =>
        show Str.join (Str.ofString " ") (e.1 :: (e.2 ++ comma) :: wordsOf (d :: r)) = _
        rw [q]
        rfl
    have e2 : Str.join (Str.ofString ", ") ((e :: d :: r).map txE) = txE e ++ Str.ofString ", " ++ Str.join (Str.ofString ", ") ((d :: r).map txE) := rfl
    have e3 : Str.ofString ", " = comma ++ Str.ofString " " := by decide +kernel
    rw [e1, e2, h, show txE e = _ from tx_eq _ _, e3]
    refine str_ext ?_
    simp only [cps_append, List.append_assoc]
theorem noSpace {es : List Ent} (h : ∀ e ∈ es, okE e) : ∀ p ∈ wordsOf es, (32 : Nat) ∉ p.cps.toList := by
  have one : ∀ e : Ent, okE e → (32 : Nat) ∉ e.1.cps.toList ∧ (32 : Nat) ∉ e.2.cps.toList := fun e ⟨h1, h2⟩ => ⟨by
    rcases isW_cases h1 with e | e | e | e <;> rw [e] <;> decide +kernel, nm_no h2 (by decide)⟩
  have hrec : ∀ es : List Ent, (∀ e ∈ es, okE e) → ∀ p ∈ wordsOf es, (32 : Nat) ∉ p.cps.toList := by
    intro es
    induction es with
    | nil =>
      intro _ p hp
      have : p = Str.ofString "-" := by simpa [wordsOf] using hp
      rw [this]
      decide +kernel
    | cons e r ih =>
      intro h p hp
      obtain ⟨o1, o2⟩ := one e (h e List.mem_cons_self)
      cases r with
      | nil =>
        have : p = e.1 ∨ p = e.2 := by simpa [wordsOf] using hp
        rcases this with q | q <;> rw [q] <;> assumption
      | cons d l =>
        have : p = e.1 ∨ p = e.2 ++ comma ∨ p ∈ wordsOf (d :: l) := by simpa [wordsOf] using hp
        rcases this with q | q | q
        · rw [q]; exact o1
        · rw [q, cps_append, comma_l, List.mem_append]
          rintro (z | z)
          · exact o2 z
          · simp at z
        · exact ih (fun x hx => h x (List.mem_cons_of_mem _ hx)) p q
  exact hrec es h
theorem split_row {es : List Ent} (h : ∀ e ∈ es, okE e) : Txt.split (rowT es) (Str.ofString " ") = wordsOf es := by
  have e : rowT es = Txt.join (Str.ofString " ") (wordsOf es) := by
    cases es with
    | nil => decide +kernel
    | cons a r =>
      rw [TL.join_eq, join_words (by simp)]
      exact TL.join_eq _ _
  rw [e]
  exact TL.split_join (s := 32) (S := []) (by decide +kernel) (by decide +kernel) (wordsOf_ne _) (noSpace h)
theorem rowT_eq (es : List Ent) : rowT es = Str.join (Str.ofString " ") (wordsOf es) := by
  cases es with
  | nil => decide +kernel
  | cons a r =>
    rw [join_words (by simp)]
    exact TL.join_eq _ _
theorem join_no (p : Str) {c : Nat} (hp : c ∉ p.cps.toList) : ∀ {ts : List Str}, (∀ t ∈ ts, c ∉ t.cps.toList) → c ∉ (Str.join p ts).cps.toList
  | [], _ => by
    show c ∉ (Str.empty : Str).cps.toList
    have : (Str.empty : Str).cps.toList = [] := by decide +kernel
    rw [this]
    simp
  | [x], h => h x (by simp)
  | x :: y :: r, h => by
    show c ∉ (x ++ p ++ Str.join p (y :: r)).cps.toList
    rw [cps_append, cps_append, List.mem_append, List.mem_append]
    rintro ((z | z) | z)
    · exact h x (by simp) z
    · exact hp z
    · exact join_no p hp (fun t ht => h t (List.mem_cons_of_mem _ ht)) z
theorem noLine {es : List Ent} (h : ∀ e ∈ es, okE e) : (10 : Nat) ∉ (rowT es).cps.toList := by
  cases es with
  | nil =>
    show (10 : Nat) ∉ (Str.ofString "-").cps.toList
    decide +kernel
  | cons a r =>
    have e3 : rowT (a :: r) = Str.join (Str.ofString ", ") ((a :: r).map txE) := TL.join_eq _ _
    rw [e3]
    refine join_no _ (by decide +kernel) fun t ht => ?_
    obtain ⟨e, he, rfl⟩ := List.mem_map.mp ht
    rw [show txE e = _ from tx_eq _ _, cps_append, cps_append, List.mem_append, List.mem_append]
    obtain ⟨h1, h2⟩ := h e he
    rintro ((z | z) | z)
    · revert z
      rcases isW_cases h1 with e | e | e | e <;> rw [e] <;> decide +kernel
    · revert z
      decide +kernel
    · exact nm_no h2 (by decide) z
theorem split_plan {ess : List (List Ent)} (hn : ess ≠ []) (h : ∀ es ∈ ess, ∀ e ∈ es, okE e) : Txt.split (planT ess) (Str.ofString "\n") = ess.map rowT := by
  have e : planT ess = Txt.join (Str.ofString "\n") (ess.map rowT) := (TL.join_eq _ _).symm
  rw [e]
  refine TL.split_join (s := 10) (S := []) (by decide +kernel) (by decide +kernel) (fun z => hn (List.map_eq_nil_iff.mp z)) fun p hp => ?_
  obtain ⟨es, he, rfl⟩ := List.mem_map.mp hp
  exact noLine (h es he)
end K94

set_option Elab.async false
set_option linter.all false
set_option maxRecDepth 100000
set_option maxHeartbeats 4000000
/-! read_row, read_plan. -/
namespace K94
open PySem L2 NX
abbrev sRP : Stmt := top 21
abbrev sRR : Stmt := top 22
theorem scRR : FnScope ["at", "words", "moves", "index", "more", "name"] ["at", "words"] (defScope sRR) := ⟨rfl, rfl, rfl, by decide +kernel, rfl, by decide +kernel, by decide +kernel⟩
theorem scRP : FnScope ["text", "at", "line"] ["text"] (defScope sRP) := ⟨rfl, rfl, rfl, by decide +kernel, rfl, by decide +kernel, by decide +kernel⟩
/-- the moves of a row, new, in a list at r -/
def RowNew (m : M4) (H : Hp) (r : Addr) (es : List Ent) (H' : Hp) : Prop := Same H H' ∧ H r = none ∧ ∃ xs : List Addr, H' r = some (.lst (xs.map V.ref)) ∧ xs.length = es.length ∧ ∀ (i : Nat) (x : Addr) (e : Ent), xs[i]? = some x → es[i]? = some e → IsMove m H' x e.1 e.2
def spRR (K : PySem.W.Frag) (m : M4) : Sp := fun vs H Q _ => ∃ (i : Int) (b : Addr) (es : List Ent), vs = [.int i, .ref b] ∧ SqL K H b ((wordsOf es).map V.str) ∧ (∀ e ∈ es, okE e) ∧ es.length ≤ 4 ∧ ∀ r H', RowNew m H r es H' → Q (.ref r) H'
section
variable {P : Program} {w : World} {K : PySem.W.Frag} {mg : Str → Option Value} {base : Heap}
theorem wd_ne {wd : Str} (h : isW wd = true) : wd ≠ Str.ofString "-" := by
  rcases isW_cases h with e | e | e | e <;> subst e <;> decide +kernel
theorem str_ne {a b : Str} (h : a ≠ b) : V.str a ≠ V.str b := fun e => h (by injection e)
theorem ok_rr {m : M4} {CMv CM fI : Addr} {f : Addr} {fd : FuncData} (F : Fun K "read_row" "read_row" sRR f fd) (T : TxtB mg) (cIs : C8.Cal P w K mg base 1 "is_name" (spIs K) []) (M : Mvs K mg fI m) (gMv : mg "Move" = some (.ref CMv))
    (rd : ∃ mc, ClX.CRead K CMv mc ∧ ∃ p g, ClX.CMet K CMv mc "read" p g ∧ ∃ fd, FnOk P w K mg base (CX P w) 5 g fd ["cls", "text"] (spRead K m CM) ∧ Binds K fd ["cls", "text"] []) : FnOk P w K mg base CX0 9 f fd ["at", "words"] (spRR K m) := by
  obtain ⟨mc, rdC, pr, gr, cmt, fdr, FR, hbR⟩ := rd
  obtain ⟨ML, MA, MS, MF⟩ := M
  obtain ⟨CL, CA, CS, CF⟩ := m
  refine F.ok scRR (fun vs H Q E h => ?_) (fun cdv A outer s H vs Q E hr h => ?_)
  · obtain ⟨i, b, es, rfl, _⟩ := h
    rfl
  · obtain ⟨i, b, es, rfl, hS, hok, h4, k⟩ := h
    refine ⟨_, (pss_cons (ps_if (pt_cmpR op_eq (pe_ix ix_list (pv 1) pe_int (fun _ _ => rfl)) pe_str (nomark _)) (pss_cons (ps_if (pt_cmpR op_gt (pe_callB call_len_seq (by rfl) T.blen (by decide +kernel) (pa_cons (pv 1) pa_nil)) pe_int (nomark _)) (pss_one ps_never) pss_nil) (pss_one (ps_ret (pe_lst pa_nil)))) pss_nil)
      (pss_cons (ps_set (i := 2) scRR.nd rfl (Or.inl rfl) (pe_lst pa_nil))
      (pss_cons (ps_set (i := 3) scRR.nd rfl (Or.inl rfl) pe_int)
      (pss_cons (ps_set (i := 4) scRR.nd rfl (Or.inl rfl) pe_bl)
      (pss_cons (ps_while PassesOwn.never (pt_val (pv 4))
        (pss_cons (ps_if (PW.pt (pw_or (pt_cmpR op_eq (pv 3) (pe_callB call_len_seq (by rfl) T.blen (by decide +kernel) (pa_cons (pv 1) pa_nil)) (nomark _)) (pw_or1 (pt_cmpR op_notIn_seq (pe_ix ix_list (pv 1) (pv 3) (fun _ _ => rfl)) (pe_tup (pa_cons (ClX.pe_cval (C8.pe_gc (v := .ref CL) rfl ⟨_, ML.g, rfl⟩)) (pa_cons (ClX.pe_cval (C8.pe_gc (v := .ref CA) rfl ⟨_, MA.g, rfl⟩)) (pa_cons (ClX.pe_cval (C8.pe_gc (v := .ref CS) rfl ⟨_, MS.g, rfl⟩)) (pa_cons (ClX.pe_cval (C8.pe_gc (v := .ref CF) rfl ⟨_, MF.g, rfl⟩)) pa_nil))))) rfl)))) (pss_one ps_never) pss_nil)
        (pss_cons (ps_if (pt_cmpR op_eq (pe_op op_add (pv 3) pe_int) (pe_callB call_len_seq (by rfl) T.blen (by decide +kernel) (pa_cons (pv 1) pa_nil)) (nomark _)) (pss_one ps_never) pss_nil)
        (pss_cons (ps_set (i := 5) scRR.nd rfl (Or.inl rfl) (pe_bm PySem.F.plainAttrs_str PySem.F.slot_str_removesuffix PySem.F.type_str_removesuffix mt_removesuffix (pe_ix ix_list (pv 1) (pe_op op_add (pv 3) pe_int) (fun _ _ => rfl)) (pa_cons pe_str pa_nil)))
        (pss_cons (ps_if (pt_not (pt_val (C8.pe_c cIs hr (by decide) rfl (pa_cons (pv 5) pa_nil)))) (pss_one ps_never) pss_nil)
        (pss_cons (ps_expr (pe_bm PySem.F.plainAttrs_list PySem.F.slot_list_append PySem.F.type_list_append mt_append (pv 2) (pa_cons (ClX.pe_cmeth (C8.pe_gc (v := .ref CMv) rfl ⟨_, gMv, rfl⟩) rdC cmt (FR.raw hbR .nil) (hr.mono (by decide)) passL (pa_cons (pe_joined (.cons (pe_fmt (pe_ix ix_list (pv 1) (pv 3) (fun _ _ => rfl))) (.cons pe_str (.cons (pe_fmt (pv 5)) .nil)))) pa_nil)) pa_nil)))
        (pss_cons (ps_set (i := 4) scRR.nd rfl (Or.inl rfl) (pe_cmpR op_ne (pv 5) (pe_ix ix_list (pv 1) (pe_op op_add (pv 3) pe_int) (fun _ _ => rfl)) (nomark _)))
        (pss_one (ps_aug (i := 3) scRR.nd rfl (Or.inl rfl) pe_int ip_add)))))))))
      (pss_cons (ps_if (pt_cmpR op_lt (pv 3) (pe_callB call_len_seq (by rfl) T.blen (by decide +kernel) (pa_cons (pv 1) pa_nil)) (nomark _)) (pss_one ps_never) pss_nil)
      (pss_one (ps_ret (pv 2))))))))), ?_⟩
    cases es with
    | nil =>
      refine ⟨_, rfl, b, _, _, .str (Str.ofString "-"), rfl, rfl, hS, rfl, rfl, _, rfl, iteT ?_⟩
      refine ⟨_, rfl, b, _, rfl, .inl hS, _, _, rfl, rfl, _, rfl, iteF ?_⟩
      refine ⟨by decide, fun l hl => k l _ ⟨Same.new hl, hl, [], upd_same, rfl, fun i x e h => by simp at h⟩⟩
    | cons e0 r0 =>
      obtain ⟨es, hes⟩ : ∃ es, es = e0 :: r0 := ⟨_, rfl⟩
      rw [← hes] at hS hok h4 k
      have hne : es ≠ [] := by rw [hes]; simp
      have hlen := wordsOf_len hne
      have hW : ∀ {j : Nat} {e : Ent}, es[j]? = some e → atI ((wordsOf es).map V.str) (2 * (j : Int)) = some (.str e.1) ∧ atI ((wordsOf es).map V.str) (2 * (j : Int) + 1) = some (.str (if j + 1 < es.length then e.2 ++ comma else e.2)) := fun {j e} h => by
        obtain ⟨h1, h2⟩ := wordsOf_at h
        have e1 : (2 * (j : Int)) = ((2 * j : Nat) : Int) := by omega
        have e2 : (2 * (j : Int) + 1) = ((2 * j + 1 : Nat) : Int) := by omega
        rw [e2, e1]
        exact ⟨atI_nat (by rw [List.getElem?_map, h1]; rfl), atI_nat (by rw [List.getElem?_map, h2]; rfl)⟩
      have h0 : es[0]? = some e0 := by rw [hes]; rfl
      have o0 := hok e0 (List.mem_of_getElem? h0)
      refine ⟨_, rfl, b, _, _, .str e0.1, rfl, rfl, hS, (hW h0).1, rfl, _, rfl, ite2 (fun h => absurd (of_decide_eq_true h) (str_ne (wd_ne o0.1))) (fun _ => ?_)⟩
      refine ⟨by decide, fun mv hmv => ?_⟩
      have B1 : SqL K (upd H mv (.lst [])) b ((wordsOf es).map V.str) := sqL_same (Same.new hmv) hS
      refine ⟨fun mm σ H' => ∃ (j : Nat) (xs : List Addr) (v5 : Option V), mm = es.length - j ∧ j ≤ es.length ∧ σ = [some (.int i), some (.ref b), some (.ref mv), some (.int (2 * (j : Int))), some (.bl (decide (j < es.length))), v5] ∧ Same H H' ∧ H' mv = some (.lst (xs.map V.ref)) ∧ xs.length = j ∧ ∀ (q : Nat) (x : Addr) (e : Ent), xs[q]? = some x → es[q]? = some e → IsMove ⟨CL, CA, CS, CF⟩ H' x e.1 e.2, ?_, ?_⟩
      · refine ⟨es.length, 0, [], none, rfl, Nat.zero_le _, ?_, Same.new hmv, upd_same, rfl, fun q x e h => by simp at h⟩
        rw [decide_eq_true (by rw [hes]; simp : 0 < es.length)]
        rfl
      · rintro mm σ H1 ⟨j, xs, v5, rfl, hj, rfl, s1, hm1, hx, hI⟩
        have S1 := sqL_same s1 hS
        refine ⟨_, rfl, _, rfl, ite2 (fun hlt => ?_) (fun hlt => ?_)⟩
        · have hlt := of_decide_eq_true hlt
          obtain ⟨e, he⟩ : ∃ e, es[j]? = some e := ⟨_, List.getElem?_eq_getElem hlt⟩
          obtain ⟨ow, on⟩ := hok e (List.mem_of_getElem? he)
          obtain ⟨w1, w2⟩ := hW he
          refine ⟨fun σ' H' => ∃ (xs : List Addr) (v5 : Option V), σ' = [some (.int i), some (.ref b), some (.ref mv), some (.int (2 * ((j + 1 : Nat) : Int))), some (.bl (decide (j + 1 < es.length))), v5] ∧ Same H H' ∧ H' mv = some (.lst (xs.map V.ref)) ∧ xs.length = j + 1 ∧ ∀ (q : Nat) (x : Addr) (e : Ent), xs[q]? = some x → es[q]? = some e → IsMove ⟨CL, CA, CS, CF⟩ H' x e.1 e.2, ?_, ?_⟩
          · rintro σ' H' ⟨xs', v5', z⟩
            exact ⟨es.length - (j + 1), by omega, j + 1, xs', v5', rfl, by omega, z⟩
          refine ⟨_, rfl, _, rfl, b, _, rfl, .inl S1, rfl, _, rfl, ite2 (fun h => ?_) (fun _ => ?_)⟩
          · have h := of_decide_eq_true h
            injection h with h
            rw [List.length_map, hlen] at h
            omega
          obtain ⟨mcL, uL, rL, vL⟩ := ML.rd
          obtain ⟨mcA, uA, rA, vA⟩ := MA.rd
          obtain ⟨mcS, uS, rS, vS⟩ := MS.rd
          obtain ⟨mcF, uF, rF, vF⟩ := MF.rd
          refine ⟨_, rfl, _, rfl, b, _, _, _, rfl, rfl, S1, w1, _, mcL, _, uL, rfl, rL, vL, _, mcA, _, uA, rfl, rA, vA, _, mcS, _, uS, rfl, rS, vS, _, mcF, _, uF, rfl, rF, vF, ?_⟩
          refine ⟨by show 4 ≤ sizeLine; decide, fun t ht => ⟨t, _, rfl, .inr (SqT.of upd_same), rfl, rfl, _, rfl, ?_⟩⟩
          have s2 : Same H1 (upd H1 t (.tup [.str (Str.ofString "load"), .str (Str.ofString "again"), .str (Str.ofString "store"), .str (Str.ofString "forget")])) := Same.new ht
          have hin : (!inV (.str e.1) [.str (Str.ofString "load"), .str (Str.ofString "again"), .str (Str.ofString "store"), .str (Str.ofString "forget")]) = false := by
            rcases isW_cases ow with q | q | q | q <;> rw [q] <;> decide +kernel
          rw [show (if true = true then !inV (V.str e.1) [.str (Str.ofString "load"), .str (Str.ofString "again"), .str (Str.ofString "store"), .str (Str.ofString "forget")] else inV (V.str e.1) [.str (Str.ofString "load"), .str (Str.ofString "again"), .str (Str.ofString "store"), .str (Str.ofString "forget")]) = false from hin]
          refine iteF ?_
          clear ht
          generalize (upd H1 t (.tup [.str (Str.ofString "load"), .str (Str.ofString "again"), .str (Str.ofString "store"), .str (Str.ofString "forget")])) = H2 at *
          have S2 := sqL_same s2 S1
          have hm2 := s2 _ _ hm1
          have hI2 : ∀ (q : Nat) (x : Addr) (e : Ent), xs[q]? = some x → es[q]? = some e → IsMove ⟨CL, CA, CS, CF⟩ H2 x e.1 e.2 := fun q x e a b => (hI q x e a b).same s2
          have s3 := s1.trans s2
          refine ⟨_, rfl, _, _, rfl, rfl, _, rfl, b, _, rfl, .inl S2, rfl, _, rfl, ite2 (fun h => ?_) (fun _ => ?_)⟩
          · have h := of_decide_eq_true h
            injection h with h
            rw [List.length_map, hlen] at h
            omega
          obtain ⟨nv, hnv⟩ : ∃ nv, nv = (if j + 1 < es.length then e.2 ++ comma else e.2) := ⟨_, rfl⟩
          rw [← hnv] at w2
          have l2 := nm_len on
          have hrm : Txt.removesuffix nv comma = e.2 := by
            rw [hnv]
            split
            · exact rms_comma
            · exact rms_none on
          have hln : nv.length ≤ 7 := by
            rw [hnv]
            split
            · rw [Str.length_append, comma_n]
              omega
            · omega
          have z100 : (1000 : Nat) ≤ sizeLine := by decide
          refine ⟨_, rfl, _, rfl, _, _, rfl, rfl, b, _, _, _, rfl, rfl, S2, w2, rfl, nv, comma, rfl, rfl, by omega, ?_⟩
          rw [hrm]
          refine ⟨_, rfl, _, rfl, .inl ⟨e.2, rfl, by omega, ?_⟩⟩
          rw [on]
          refine ⟨_, rfl, iteF ?_⟩
          refine ⟨_, rfl, .inl ⟨rfl, _, SqL.of hm2⟩, ?_⟩
          have lw := isW_len ow
          have q0 : (Str.empty : Str).length = 0 := by decide +kernel
          have q1 : (Str.ofString " ").length = 1 := by decide +kernel
          refine ⟨rfl, _, rfl, _, rfl, b, _, _, _, rfl, rfl, S2, w1, .inl ⟨e.1, rfl, by omega, e.1, rfl, ?_, ?_⟩⟩
          · rw [Str.length_append]
            omega
          refine ⟨_, rfl, ?_, _, rfl, .inl ⟨e.2, rfl, by omega, e.2, rfl, ?_, ?_⟩⟩
          · rw [Str.length_append, Str.length_append]
            omega
          · rw [Str.length_append, Str.length_append, Str.length_append]
            omega
          have zl : (Str.empty ++ e.1 ++ Str.ofString " " ++ e.2).length ≤ 1000 := by
            rw [Str.length_append, Str.length_append, Str.length_append]
            omega
          refine ⟨CMv, _, rfl, .inl ⟨_, e.1, e.2, rfl, zl, parse_tx (e := e) ⟨ow, on⟩, fun x dx H3 made => ?_⟩⟩
          have mk := made.is ow on
          have s4 : Same H2 H3 := made.1
          have hm3 := s4 _ _ hm2
          refine ⟨mv, _, _, rfl, rfl, hm3, by rw [List.length_map]; omega, ?_⟩
          have s5 : Same H (upd H3 mv (.lst (xs.map V.ref ++ [V.ref x]))) := samePut (s3.trans s4) hmv
          have S5 := sqL_same s5 hS
          have hm5 : (upd H3 mv (.lst (xs.map V.ref ++ [V.ref x]))) mv = some (.lst ((xs ++ [x]).map V.ref)) := by
            rw [upd_same, List.map_append]
            rfl
          have hI5 : ∀ (q : Nat) (y : Addr) (d : Ent), (xs ++ [x])[q]? = some y → es[q]? = some d → IsMove ⟨CL, CA, CS, CF⟩ (upd H3 mv (.lst (xs.map V.ref ++ [V.ref x]))) y d.1 d.2 := fun q y d a c => by
            by_cases hq : q < xs.length
            · rw [List.getElem?_append_left hq] at a
              exact isMove_put hm3 ((hI2 q y d a c).same s4)
            · rw [List.getElem?_append_right (by omega)] at a
              have hq0 : q = xs.length := by
                cases hk : q - xs.length with
                | zero => omega
                | succ n =>
                  rw [hk] at a
                  simp at a
              rw [hq0, Nat.sub_self] at a
              have hy : y = x := by simpa using a.symm
              rw [hq0, hx, he] at c
              have hd : e = d := by injection c
              rw [hy, ← hd]
              exact isMove_put hm3 mk
          generalize (upd H3 mv (.lst (xs.map V.ref ++ [V.ref x]))) = H5 at *
          refine ⟨_, rfl, _, rfl, _, rfl, _, _, rfl, rfl, b, _, _, _, rfl, rfl, S5, w2, rfl, ?_⟩
          have hne5 : (!decide (V.str e.2 = V.str nv)) = decide (j + 1 < es.length) := by
            rw [hnv]
            by_cases q : j + 1 < es.length
            · rw [if_pos q, decide_eq_true q, decide_eq_false (str_ne (ne_comma e.2))]
              rfl
            · rw [if_neg q, decide_eq_false q, decide_eq_true rfl]
              rfl
          refine ⟨_, rfl, _, _, rfl, rfl, xs ++ [x], some (.str e.2), ?_, s5, hm5, by rw [List.length_append, hx]; rfl, hI5⟩
          rw [hne5]
          have e7 : ((2 * (j : Int)) + 2) = 2 * ((j + 1 : Nat) : Int) := by omega
          rw [← e7]
          rfl
        · have hj2 : j = es.length := by
            have : ¬ (j < es.length) := fun h => hlt (decide_eq_true h)
            omega
          refine ⟨_, rfl, _, rfl, b, _, rfl, .inl S1, _, _, rfl, rfl, _, rfl, ite2 (fun h => ?_) (fun _ => ?_)⟩
          · have h := of_decide_eq_true h
            rw [List.length_map, hlen] at h
            omega
          exact ⟨_, rfl, k mv H1 ⟨s1, hmv, xs, hm1, by rw [hx, hj2], hI⟩⟩
/-- a row of moves, made since H, beside the list at D -/
def RowIn (m : M4) (H H' : Hp) (D b : Addr) (es : List Ent) : Prop := H b = none ∧ b ≠ D ∧ ∃ xs : List Addr, H' b = some (.lst (xs.map V.ref)) ∧ xs.length = es.length ∧ ∀ (i : Nat) (x : Addr) (e : Ent), xs[i]? = some x → es[i]? = some e → IsMove m H' x e.1 e.2
theorem RowIn.same {m : M4} {H H1 H2 : Hp} {D b : Addr} {es : List Ent} (s : Same H1 H2) (h : RowIn m H H1 D b es) : RowIn m H H2 D b es := by
  obtain ⟨a, c, xs, h1, h2, h3⟩ := h
  exact ⟨a, c, xs, s _ _ h1, h2, fun i x e q1 q2 => (h3 i x e q1 q2).same s⟩
theorem RowIn.put {m : M4} {H H1 : Hp} {D b : Addr} {ys : List V} {o : HO} {es : List Ent} (hD : H1 D = some (.lst ys)) (h : RowIn m H H1 D b es) : RowIn m H (upd H1 D o) D b es := by
  obtain ⟨a, c, xs, h1, h2, h3⟩ := h
  exact ⟨a, c, xs, by rw [upd_ne c]; exact h1, h2, fun i x e q1 q2 => isMove_put hD (h3 i x e q1 q2)⟩
theorem ok_rp {m : M4} {f : Addr} {fd : FuncData} (F : Fun K "read_plan" "read_plan" sRP f fd) (T : TxtB mg) (cRR : C8.Cal P w K mg base 9 "read_row" (spRR K m) []) : FnOk P w K mg base CX0 11 f fd ["text"] (spReadP m) := by
  refine F.ok scRP (fun vs H Q E h => ?_) (fun cdv A outer s H vs Q E hr h => ?_)
  · obtain ⟨ess, rfl, _⟩ := h
    rfl
  · obtain ⟨ess, rfl, ⟨n1, n9, hall⟩, k⟩ := h
    refine ⟨_, (pss_cons (ps_if (pt_not (pt_val (pe_callB call_isi (by rfl) T.bisinstance (by decide +kernel) (pa_cons (pv 0) (pa_cons (pe_bltn (v := .ty "str") (by rfl) T.bstr (by decide +kernel) rfl) pa_nil))))) (pss_one ps_never) pss_nil)
      (pss_one (ps_ret (pe_lc (own := [("at", 1), ("line", 2)]) (g := gTup K 2 (gCons (gName 1) (gCons (gName 2) gNil))) rfl scRP.nd (pi_enum (by rfl) T.benumerate (pa_cons (pe_split (pv 0) pe_str) pa_nil)) (blkOk_by (own := [("at", 1), ("line", 2)]) (N := ["text", "at", "line"]) (sc := defScope sRP) (by decide +kernel)) (fun _ _ _ _ _ => (pg_tup rfl (pgs_cons (pg_name (i := 1) scRP.nd rfl (Or.inl rfl)) (pgs_cons (pg_name (i := 2) scRP.nd rfl (Or.inl rfl)) pgs_nil)))) (fun _ _ _ _ _ => pts_nil) (fun _ _ _ _ _ => (C8.pe_c cRR hr (by decide) rfl (pa_cons (pv 1) (pa_cons (pe_split (pv 2) pe_str) pa_nil)))))))), ?_⟩
    have hne : ess ≠ [] := fun e => by rw [e] at n1; exact absurd n1 (by decide)
    have hsp := split_plan hne (fun es he => (hall es he).1)
    have hpl : (planT ess).length ≤ 1000 := by
      have h1 := join_le (Str.ofString "\n") (ess.map rowT)
      have h2 := rows_le hall
      have h3 : (Str.ofString "\n").length = 1 := by decide +kernel
      rw [List.length_map, h3] at h1
      have h4 : (planT ess).length = (Str.join (Str.ofString "\n") (ess.map rowT)).length := rfl
      omega
    refine ⟨_, rfl, _, _, _, _, true, rfl, .ty "str", .base (.str _), kit_ty (by decide +kernel), true, rfl, iteF ?_⟩
    refine ⟨_, rfl, ⟨_, rfl⟩, planT ess, _, rfl, rfl, by decide +kernel, Nat.le_trans (Nat.add_le_add_right hpl 2) (by decide), fun p hp => ?_⟩
    rw [hsp]
    have s1 : Same H (upd H p (.lst ((ess.map rowT).map V.str))) := Same.new hp
    refine ⟨p, _, rfl, SqL.of upd_same, fun D hD => ?_⟩
    have hp1 : (upd H p (.lst ((ess.map rowT).map V.str))) p = some (.lst ((ess.map rowT).map V.str)) := upd_same
    clear hp
    generalize (upd H p (.lst ((ess.map rowT).map V.str))) = H1 at *
    have hD0 : H D = none := sameNone s1 hD
    have z100 : (1000 : Nat) ≤ sizeLine := by decide
    refine lc_it (walk_enum (K := K) (a := p) (xs := (ess.map rowT).map V.str)) (fun i H' => Same H1 H' ∧ ∃ bs : List Addr, bs.length = i ∧ H' D = some (.lst (bs.map V.ref)) ∧ ∀ (q : Nat) (b : Addr) (es : List Ent), bs[q]? = some b → ess[q]? = some es → RowIn m H H' D b es) ⟨Same.new hD, [], rfl, upd_same, fun q b es h => by simp at h⟩ (fun i H' _ z => SqL.of (z.1 _ _ hp1)) ?_ ?_
    · rintro i v H2 H3 hi ⟨s2, bs, hb, hd, hR⟩ ⟨T, x, y, rfl, hT, rfl, hx, hy⟩
      injection hx with hx
      subst hx
      rw [List.length_map, List.length_map] at hi
      have he : ess[i]? = some ess[i] := List.getElem?_eq_getElem hi
      obtain ⟨es, hes⟩ : ∃ es, es = ess[i] := ⟨_, rfl⟩
      rw [← hes] at he
      replace hy : ((ess.map rowT).map V.str)[i]? = some y := hy
      rw [List.getElem?_map, List.getElem?_map, he] at hy
      injection hy with hy
      subst hy
      obtain ⟨ok, l4⟩ := hall es (List.mem_of_getElem? he)
      have hrl := rowT_le ok l4
      have s3 : Same H2 (upd H2 T (.tup [.int (i : Nat), .str (rowT es)])) := Same.new hT
      refine ⟨T, _, rfl, SqT.of upd_same, rfl, _, _, rfl, _, _, rfl, rfl, rfl, yesI ?_⟩
      clear hT
      generalize (upd H2 T (.tup [.int (i : Nat), .str (rowT es)])) = H3 at *
      refine ⟨_, rfl, _, rfl, ⟨_, rfl⟩, rowT es, _, rfl, rfl, by decide +kernel, by omega, fun p2 hp2 => ?_⟩
      rw [split_row ok]
      have s4 : Same H3 (upd H3 p2 (.lst ((wordsOf es).map V.str))) := Same.new hp2
      refine ⟨_, p2, es, rfl, SqL.of upd_same, ok, l4, fun r H5 hrow => ?_⟩
      obtain ⟨s5, hr, xs, hx1, hx2, hx3⟩ := hrow
      have s35 := (s3.trans s4).trans s5
      have s25 := s2.trans s35
      have hd5 := s35 _ _ hd
      have hr0 : H r = none := sameNone s1 (sameNone s2 (sameNone (s3.trans s4) hr))
      have nrD : r ≠ D := fun e => by
        have z := (s3.trans s4) _ _ hd
        rw [← e, hr] at z
        cases z
      have hRr : RowIn m H H5 D r es := ⟨hr0, nrD, xs, hx1, hx2, hx3⟩
      refine ⟨_, hd5, by rw [List.length_map]; omega, samePut s25 hD, bs ++ [r], by rw [List.length_append, hb]; rfl, by rw [upd_same, List.map_append]; rfl, fun q b es' q1 q2 => ?_⟩
      refine RowIn.put hd5 ?_
      by_cases hq : q < bs.length
      · rw [List.getElem?_append_left hq] at q1
        exact (hR q b es' q1 q2).same s35
      · rw [List.getElem?_append_right (by omega)] at q1
        have hq0 : q = bs.length := by
          cases hk : q - bs.length with
          | zero => omega
          | succ n =>
            rw [hk] at q1
            simp at q1
        rw [hq0, Nat.sub_self] at q1
        have hy : b = r := by simpa using q1.symm
        rw [hq0, hb, he] at q2
        have hd : es = es' := by injection q2
        rw [hy, ← hd]
        exact hRr
    · rintro H2 ⟨s2, bs, hb, hd, hR⟩
      rw [List.length_map, List.length_map] at hb
      have s02 := s1.trans s2
      refine k D bs H2 s02 fun p c hp hc => ?_
      have ne : ∀ {a b : Addr}, H a = none → (H b).isSome = true → a ≠ b := fun h1 h2 e => by
        rw [← e, h1] at h2
        cases h2
      refine ⟨hd, ne hD0 hp, ne hD0 hc, hb, fun q b es q1 q2 => ?_⟩
      obtain ⟨hb0, _, xs, h1, h2, h3⟩ := hR q b es q1 q2
      obtain ⟨ok, l4⟩ := hall es (List.mem_of_getElem? q2)
      exact ⟨⟨xs, h1, h2, h3⟩, ne hb0 hp, ne hb0 hc, ok, l4⟩
end
end K94

set_option Elab.async false
set_option linter.all false
set_option maxRecDepth 100000
set_option maxHeartbeats 8000000
namespace K94
open PySem L2 NX
abbrev sLaw : Stmt := top 27
abbrev nL : List Str := ["_law_script", "_law_pen_here", "_law_lap", "_law_lines", "_law_at", "_law_entry", "_law_spot", "_law_word", "_law_moves", "_law_passed", "_law_due", "_law_back", "_law_one", "_law_some"]
theorem scLaw : FnScope nL ["_law_script"] (defScope sLaw) := ⟨rfl, rfl, rfl, by decide +kernel, rfl, by decide +kernel, by decide +kernel⟩
/-- what the law uses -/
structure LawTxt (P : Program) (w : World) (K : PySem.W.Frag) (mg : Str → Option Value) (base : Heap) (m : M4) (CMv CM : Addr) : Prop where
  T : TxtB mg
  pen : C8.Cal P w K mg base 1 "_law_pen" (spPen K) []
  draw : C8.Cal P w K mg base 1 "_law_draw" spDraw []
  pick : C8.Cal P w K mg base 2 "_law_pick" (spPick K) []
  sh : ∃ f fd, FnOk P w K mg base CX0 5 f fd ["plan"] (spShow K m) ∧ mg "show_plan" = some (.ref f) ∧ PySem.W.keepIn K (.ref f) = true ∧ Binds K fd ["plan"] [] ∧ ∀ (s : Shared) (us : List Value), us.length = ["plan"].length → BindsTo s fd ⟨[], (["plan"] : List Str).zip us⟩ ((["plan"] : List Str).zip us)
  rp : ∃ f fd, FnOk P w K mg base CX0 11 f fd ["text"] (spReadP m) ∧ mg "read_plan" = some (.ref f) ∧ PySem.W.keepIn K (.ref f) = true ∧ Binds K fd ["text"] [] ∧ ∀ (s : Shared) (us : List Value), us.length = ["text"].length → BindsTo s fd ⟨[], (["text"] : List Str).zip us⟩ ((["text"] : List Str).zip us)
  gMv : mg "Move" = some (.ref CMv)
  rd : ∃ mc, ClX.CRead K CMv mc ∧ ∃ p g, ClX.CMet K CMv mc "read" p g ∧ ∃ fd, FnOk P w K mg base (CX P w) 5 g fd ["cls", "text"] (spRead K m CM) ∧ Binds K fd ["cls", "text"] []
  eq : ∃ f fd, FnOk P w K mg base CX0 1 f fd ["self", "other"] (spEq K m CMv) ∧ Binds K fd ["self", "other"] [] ∧ ∀ wd, isW wd = true → NX.EqC K (m.of wd) f
def spLaw (K : PySem.W.Frag) : Sp := fun vs H Q _ => ∃ (a : Addr) (ns : List Int), vs = [.ref a] ∧ SqL K H a (ns.map V.int) ∧ ∀ H', Q (.bl true) H'
section
variable {P : Program} {w : World} {K : PySem.W.Frag} {mg : Str → Option Value} {base : Heap}
theorem ok_law {m : M4} {CMv CM : Addr} {f : Addr} {fd : FuncData} (F : Fun K "law" "law" sLaw f fd) (X : LawTxt P w K mg base m CMv CM) : FnOk P w K mg base CX0 12 f fd ["_law_script"] (spLaw K) := by
  obtain ⟨T, cPen, cDraw, cPick, ⟨fSh, fdSh, FSh, gSh, kSh, bSh, hbSh⟩, ⟨fRp, fdRp, FRp, gRp, kRp, bRp, hbRp⟩, gMv, ⟨mc, rd, pr, gr, cmt, fdr, FR, hbR⟩, ⟨fEq, fdEq, FEq, hbEq, cEq⟩⟩ := X
  have cShow : C8.Cal P w K mg base 5 "show_plan" (spShow K m) [] := ⟨_, _, _, _, FSh, gSh, kSh, bSh, .nil⟩
  have cReadP : C8.Cal P w K mg base 11 "read_plan" (spReadP m) [] := ⟨_, _, _, _, FRp, gRp, kRp, bRp, .nil⟩
  refine F.ok scLaw (fun vs H Q E h => ?_) (fun cdv A outer s H vs Q E hr h => ?_)
  · obtain ⟨a, ns, rfl, _⟩ := h
    rfl
  · obtain ⟨a, ns, rfl, hS, k⟩ := h
    have F4 : ∀ {Y : Cx}, Y.prog = P → True := fun _ => trivial
    refine ⟨_, (pss_cons (ps_set (i := 1) scLaw.nd rfl (Or.inr rfl) (C8.pe_c cPen hr (by decide) rfl (pa_cons (pv 0) pa_nil)))
      (pss_cons (ps_for PassesOwn.never rfl (pi_range1 (by rfl) T.brange (pa_cons pe_int pa_nil)) (pg_name (i := 2) scLaw.nd rfl (Or.inl rfl)) (pss_cons (ps_set (i := 3) scLaw.nd rfl (Or.inl rfl) (pe_lst pa_nil))
      (pss_cons (ps_for PassesOwn.never rfl (pi_range1 (by rfl) T.brange (pa_cons (pe_op op_add pe_int (C8.pe_c cDraw hr (by decide) rfl (pa_cons (pv 1) (pa_cons pe_int pa_nil)))) pa_nil)) (pg_name (i := 4) scLaw.nd rfl (Or.inl rfl)) (pss_cons (ps_set (i := 5) scLaw.nd rfl (Or.inl rfl) (pe_lst pa_nil))
      (pss_cons (ps_for PassesOwn.never rfl (pi_range1 (by rfl) T.brange (pa_cons (C8.pe_c cDraw hr (by decide) rfl (pa_cons (pv 1) (pa_cons pe_int pa_nil))) pa_nil)) (pg_name (i := 6) scLaw.nd rfl (Or.inl rfl)) (pss_cons (ps_set (i := 7) scLaw.nd rfl (Or.inl rfl) (C8.pe_c cPick hr (by decide) rfl (pa_cons (pv 1) (pa_cons (pe_lst (pa_cons pe_str (pa_cons pe_str (pa_cons pe_str (pa_cons pe_str pa_nil))))) pa_nil))))
      (pss_one (ps_expr (pe_bm PySem.F.plainAttrs_list PySem.F.slot_list_append PySem.F.type_list_append mt_append (pv 5) (pa_cons (pe_op op_add_str (pe_op op_add_str (pv 7) pe_str) (C8.pe_c cPick hr (by decide) rfl (pa_cons (pv 1) (pa_cons (pe_lst (pa_cons pe_str (pa_cons pe_str (pa_cons pe_str (pa_cons pe_str (pa_cons pe_str (pa_cons pe_str pa_nil))))))) pa_nil)))) pa_nil))))))
      (pss_one (ps_expr (pe_bm PySem.F.plainAttrs_list PySem.F.slot_list_append PySem.F.type_list_append mt_append (pv 3) (pa_cons (pv 5) pa_nil)))))))
      (pss_cons (ps_setLc (i := 8) (own := [("_law_entry", 5)]) (g := gName 5) rfl scLaw.nd rfl rfl (sw_true rfl rfl rfl (by decide +kernel)) (pi_list (pv 3)) (blkOk_by (own := [("_law_entry", 5)]) (N := nL) (sc := defScope sLaw) (by decide +kernel)) (fun _ _ _ _ _ => (pg_name (i := 5) scLaw.nd rfl (Or.inl rfl))) (fun _ _ _ _ _ => pts_nil) (fun _ _ _ _ _ => (pe_lc (wi := iList K (tVar 5)) (own := [("_law_one", 12)]) (g := gName 12) rfl scLaw.nd (pi_list (pv 5)) (blkOk_any (own := [("_law_one", 12)]) (N := nL) (by decide +kernel) (by decide +kernel)) (fun _ _ _ _ _ => (pg_name (i := 12) scLaw.nd rfl (Or.inl rfl))) (fun _ _ _ _ _ => pts_nil) (fun _ _ _ _ _ => (ClX.pe_cmeth (C8.pe_gc (v := .ref CMv) rfl ⟨_, gMv, rfl⟩) rd cmt (FR.raw hbR .nil) (hr.mono (by decide)) passL (pa_cons (pv 12) pa_nil))))))
      (pss_cons (ps_setLc (i := 9) (own := [("_law_some", 13)]) (g := gName 13) rfl scLaw.nd rfl rfl (sw_true rfl rfl rfl (by decide +kernel)) (pi_list (pv 8)) (blkOk_by (own := [("_law_some", 13)]) (N := nL) (sc := defScope sLaw) (by decide +kernel)) (fun _ _ _ _ _ => (pg_name (i := 13) scLaw.nd rfl (Or.inl rfl))) (fun _ _ _ _ _ => pts_nil) (fun _ _ _ _ _ => (pe_ifExp (pt_cmpR op_eq (C8.pe_c cDraw hr (by decide) rfl (pa_cons (pv 1) (pa_cons pe_int pa_nil))) pe_int (nomark _)) (pe_callTy (show CallR _ (.type "tuple") (rTup K) from call_tuple_of) (by rfl) T.btuple (by decide +kernel) (pa_cons (pv 13) pa_nil)) (pv 13))))
      (pss_cons (ps_set (i := 10) scLaw.nd rfl (Or.inl rfl) (pe_join pe_str (pe_lc (own := [("_law_entry", 5)]) (g := gName 5) rfl scLaw.nd (pi_list (pv 3)) (blkOk_by (own := [("_law_entry", 5)]) (N := nL) (sc := defScope sLaw) (by decide +kernel)) (fun _ _ _ _ _ => (pg_name (i := 5) scLaw.nd rfl (Or.inl rfl))) (fun _ _ _ _ _ => pts_nil) (fun _ _ _ _ _ => (pe_ifExp (pt_cmpR (show OpR _ (compareOp .NotEq) (rNeD K) from op_neD hr.units) (pv 5) (pe_lst pa_nil) (nomark _)) (show PE _ _ (tJoin K (tC (.str (Str.ofString ", "))) (tVar 5)) from pe_join pe_str (pv 5)) pe_str)))))
      (pss_cons (ps_if (PW.pt (pw_or (pt_cmpR op_ne (C8.pe_c cShow hr (by decide) rfl (pa_cons (pv 9) pa_nil)) (pv 10) (nomark _)) (pw_or (pt_cmpR op_ne (pe_callKw (ks := ["plan"]) FSh (hr.mono (by decide)) rfl gSh kSh hbSh pass0 (pk_cons (pe_callTy call_tuple_of (by rfl) T.btuple (by decide +kernel) (pa_cons (pv 8) pa_nil)) pk_nil)) (pv 10) (nomark _)) (pw_or1 (pt_cmpR op_ne (C8.pe_c cShow hr (by decide) rfl (pa_cons (pv 3) pa_nil)) (pv 10) (nomark _)))))) (pss_one (ps_ret pe_bl)) pss_nil)
      (pss_cons (ps_set (i := 11) scLaw.nd rfl (Or.inl rfl) (C8.pe_c cReadP hr (by decide) rfl (pa_cons (pv 10) pa_nil)))
      (pss_cons (ps_if (PW.pt (pw_or (pt_not (pt_val (pe_callB call_isi (by rfl) T.bisinstance (by decide +kernel) (pa_cons (pv 11) (pa_cons (pe_bltn (v := .ty "list") (by rfl) T.blist (by decide +kernel) rfl) pa_nil))))) (pw_or1 (pt_cmpR (op_neD hr.units) (pe_lc (own := [("_law_some", 13)]) (g := gName 13) rfl scLaw.nd (pi_list (pv 11)) (blkOk_by (own := [("_law_some", 13)]) (N := nL) (sc := defScope sLaw) (by decide +kernel)) (fun _ _ _ _ _ => (pg_name (i := 13) scLaw.nd rfl (Or.inl rfl))) (fun _ _ _ _ _ => (pts_one (pt_not (pt_val (pe_callB (show CallR _ (.builtin "isinstance") (rIsi K) from call_isi) (by rfl) T.bisinstance (by decide +kernel) (pa_cons (pv 13) (pa_cons (pe_bltn (v := .ty "list") (by rfl) T.blist (by decide +kernel) rfl) pa_nil))))))) (fun _ _ _ _ _ => (pv 13))) (pe_lst pa_nil) (nomark _))))) (pss_one (ps_ret pe_bl)) pss_nil)
      (pss_one (ps_if (PW.pt (pw_or (pt_cmpR (show OpR _ (compareOp .NotEq) (NQ.rNeG (DRow m)) from NQ.op_neG (mon_row m) (eq_row (eq_mv FEq hbEq cEq)) (hr.mono (by decide))) (pv 11) (pv 8) (nomark _)) (pw_or (pt_cmpR (show OpR _ (compareOp .NotEq) (NQ.rNeG (DRow m)) from NQ.op_neG (mon_row m) (eq_row (eq_mv FEq hbEq cEq)) (hr.mono (by decide))) (pe_callKw (ks := ["text"]) FRp (hr.mono (by decide)) rfl gRp kRp hbRp pass0 (pk_cons (pv 10) pk_nil)) (pv 8) (nomark _)) (pw_or1 (pt_cmpR op_ne (C8.pe_c cShow hr (by decide) rfl (pa_cons (pv 11) pa_nil)) (pv 10) (nomark _)))))) (pss_one (ps_ret pe_bl)) pss_nil)))))))))))
      (pss_one (ps_ret (pe_and (pe_cmpR op_eq (C8.pe_c cShow hr (by decide) rfl (pa_cons (pe_lst (pa_cons (pe_lst pa_nil) pa_nil)) pa_nil)) pe_str (nomark _)) (pe_one (pe_cmpR (op_eqD hr.units) (C8.pe_c cReadP hr (by decide) rfl (pa_cons pe_str pa_nil)) (pe_lst (pa_cons (pe_lst pa_nil) pa_nil)) (nomark _)))))))), ?_⟩
    refine ⟨_, rfl, a, ns, rfl, hS, fun p c ms H1 hp hc P1 s1 => ?_⟩
    refine ⟨8, rfl, by decide, by decide, ?_⟩
    refine for_range (n := 8) (fun i σ H' => ∃ v2 v3 v4 v5 v6 v7 v8 v9 v10 v11 v12 v13, σ = [some (.ref a), some (.ref p), v2, v3, v4, v5, v6, v7, v8, v9, v10, v11, v12, v13] ∧ PenB H' p c (100 * i)) ?_ ?_ ?_
    · exact ⟨none, none, none, none, none, none, none, none, none, none, none, none, rfl, _, _, _, _, P1, by decide⟩
    · rintro i σ G0 hi ⟨v2, v3, v4, v5, v6, v7, v8, v9, v10, v11, v12, v13, rfl, B0⟩
      have hi8 : (i : Int) < 8 := by omega
      refine ⟨by decide, fun l hl => ?_⟩
      obtain ⟨nlp, nlc⟩ := B0.ne hl
      have L0 : Lines (upd G0 l (.lst [])) p c l [] [] := ⟨upd_same, nlp, nlc, rfl, fun i b es q1 _ => by simp at q1⟩
      have B1 := B0.put (o := .lst []) nlp nlc
      clear hl B0
      generalize (upd G0 l (.lst [])) = G1 at *
      obtain ⟨ns1, r1, sd1, n1, Pn1, hn1⟩ := id B1
      refine ⟨_, rfl, p, c, ns1, r1, sd1, n1, 8, rfl, Pn1, by omega, by decide, by decide, fun d G2 d0 d8 hd => ?_⟩
      obtain ⟨B2, K2⟩ := hd.penB
      have L2 := L0.but K2
      have B2 : PenB G2 p c (100 * i + 1) := B2.mono (by omega)
      clear L0 B1 Pn1 hn1 hd K2
      obtain ⟨dn, rfl⟩ := Int.eq_ofNat_of_zero_le d0
      refine ⟨_, _, rfl, rfl, _, rfl, by omega, by omega, ?_⟩
      have et : ((1 : Int) + (dn : Int)).toNat = 1 + dn := by omega
      rw [et]
      refine for_range (n := 1 + dn) (fun j σ H' => ∃ v4 v5 v6 v7 bs ess, σ = [some (.ref a), some (.ref p), some (.int (0 + (i : Int))), some (.ref l), v4, v5, v6, v7, v8, v9, v10, v11, v12, v13] ∧ Lines H' p c l bs ess ∧ l ∉ bs ∧ ess.length = j ∧ PenB H' p c (100 * i + 1 + 9 * j)) ?_ ?_ ?_
      · exact ⟨v4, v5, v6, v7, [], [], rfl, L2, by simp, rfl, B2.mono (by omega)⟩
      · rintro j σ G3 hj ⟨v4, v5, v6, v7, bs, ess, rfl, L3, hlb, hel, B3⟩
        have hj8 : (j : Int) < 8 := by omega
        refine ⟨by decide, fun e he => ?_⟩
        obtain ⟨nep, nec⟩ := B3.ne he
        obtain ⟨nel, neb⟩ := L3.new he
        have L4 := L3.put (o := .lst []) nel neb
        have B4 := B3.put (o := .lst []) nep nec
        have E4 : Line (upd G3 e (.lst [])) p c e [] := ⟨upd_same, nep, nec, fun e h => by simp at h, by decide⟩
        clear he L3 B3
        generalize (upd G3 e (.lst [])) = G4 at *
        obtain ⟨ns1, r1, sd1, n1, Pn1, hn1⟩ := id B4
        refine ⟨_, rfl, p, c, ns1, r1, sd1, n1, 5, rfl, Pn1, by omega, by decide, by decide, fun d2 G5 d20 d25 hd => ?_⟩
        obtain ⟨B5, K5⟩ := hd.penB
        have L5 := L4.but K5
        have E5 := E4.but K5
        have B5 : PenB G5 p c (100 * i + 1 + 9 * j + 1) := B5.mono (by omega)
        clear L4 B4 E4 Pn1 hn1 hd K5
        obtain ⟨dm, rfl⟩ := Int.eq_ofNat_of_zero_le d20
        refine ⟨_, rfl, by omega, by omega, ?_⟩
        have et2 : ((dm : Int)).toNat = dm := Int.toNat_natCast dm
        rw [et2]
        refine for_range (n := dm) (fun q σ H' => ∃ v6 v7 es, σ = [some (.ref a), some (.ref p), some (.int (0 + (i : Int))), some (.ref l), some (.int (0 + (j : Int))), some (.ref e), v6, v7, v8, v9, v10, v11, v12, v13] ∧ Lines H' p c l bs ess ∧ Line H' p c e es ∧ es.length = q ∧ PenB H' p c (100 * i + 1 + 9 * j + 1 + 2 * q)) ?_ ?_ ?_
        · exact ⟨v6, v7, [], rfl, L5, E5, rfl, B5.mono (by omega)⟩
        · rintro q σ G6 hq ⟨v6, v7, es, rfl, L6, E6, hes, B6⟩
          have hq4 : (q : Int) < 4 := by omega
          refine ⟨_, rfl, by show 4 ≤ sizeLine; decide, fun w1 hw1 => ?_⟩
          obtain ⟨nwp, nwc⟩ := B6.ne hw1
          have S7 : Same G6 (upd G6 w1 (.lst [.str (Str.ofString "load"), .str (Str.ofString "again"), .str (Str.ofString "store"), .str (Str.ofString "forget")])) := Same.new hw1
          have L7 := L6.but (But.same S7)
          have E7 := E6.but (But.same S7)
          have B7 := B6.same S7
          obtain ⟨ns1, r1, sd1, n1, Pn1, hn1⟩ := id B7
          refine ⟨p, c, ns1, r1, sd1, n1, w1, _, rfl, Pn1, by omega, SqL.of upd_same, nwp, nwc, by decide, by decide, fun v G8 hv hd => ?_⟩
          obtain ⟨wd, rfl, hw⟩ : ∃ wd, v = .str wd ∧ isW wd = true := by
            simp only [List.mem_cons, List.not_mem_nil, or_false] at hv
            rcases hv with e | e | e | e <;> subst e <;> exact ⟨_, rfl, by decide +kernel⟩
          obtain ⟨B8, K8⟩ := hd.penB
          have L8 := L7.but K8
          have E8 := E7.but K8
          have B8 : PenB G8 p c (100 * i + 1 + 9 * j + 1 + 2 * q + 1) := B8.mono (by omega)
          clear L6 E6 B6 hw1 S7 L7 E7 B7 Pn1 hn1 hd K8 hv
          have lw := isW_len hw
          have z100 : (100 : Nat) ≤ sizeLine := by decide
          have e1 : (Str.ofString " ").length = 1 := by decide +kernel
          refine ⟨_, rfl, .inl ⟨rfl, _, SqL.of E8.h⟩, _, rfl, wd, _, rfl, rfl, by omega, ?_⟩
          refine ⟨_, rfl, by show 6 ≤ sizeLine; decide, fun w2 hw2 => ?_⟩
          obtain ⟨nwp, nwc⟩ := B8.ne hw2
          have S9 : Same G8 (upd G8 w2 (.lst [.str (Str.ofString "a"), .str (Str.ofString "b"), .str (Str.ofString "load"), .str (Str.ofString "zzzzzz"), .str (Str.ofString "store"), .str (Str.ofString "x")])) := Same.new hw2
          have L9 := L8.but (But.same S9)
          have E9 := E8.but (But.same S9)
          have B9 := B8.same S9
          obtain ⟨ns1, r1, sd1, n1, Pn1, hn1⟩ := id B9
          refine ⟨p, c, ns1, r1, sd1, n1, w2, _, rfl, Pn1, by omega, SqL.of upd_same, nwp, nwc, by decide, by decide, fun v G10 hv hd => ?_⟩
          obtain ⟨nm1, rfl, hnm⟩ : ∃ z, v = .str z ∧ nm z = true := by
            simp only [List.mem_cons, List.not_mem_nil, or_false] at hv
            rcases hv with e | e | e | e | e | e <;> subst e <;> exact ⟨_, rfl, by decide +kernel⟩
          obtain ⟨B10, K10⟩ := hd.penB
          have L10 := L9.but K10
          have E10 := E9.but K10
          have B10 : PenB G10 p c (100 * i + 1 + 9 * j + 1 + 2 * q + 2) := B10.mono (by omega)
          clear L8 E8 B8 hw2 S9 L9 E9 B9 Pn1 hn1 hd K10 hv
          have ln := nm_len hnm
          refine ⟨_, nm1, rfl, rfl, by rw [Str.length_append]; omega, ?_⟩
          have hes4 : (es.map fun e => V.str (txE e)).length < sizeLine := by rw [List.length_map]; omega
          refine ⟨e, _, _, rfl, rfl, E10.h, hes4, ?_⟩
          have ok1 : okE (wd, nm1) := ⟨hw, hnm⟩
          have et3 : V.str (wd ++ Str.ofString " " ++ nm1) = V.str (txE (wd, nm1)) := by
            rw [← tx_eq]
            rfl
          refine ⟨some (.int (0 + (q : Int))), some (.str wd), es ++ [(wd, nm1)], rfl, L10.put nel neb, ⟨?_, nep, nec, ?_, by rw [List.length_append]; show es.length + 1 ≤ 4; omega⟩, by rw [List.length_append, hes]; rfl, (B10.put nep nec).mono (by omega)⟩
          · rw [upd_same, List.map_append, et3]
            rfl
          · intro x hx
            rcases List.mem_append.mp hx with h | h
            · exact E10.ok x h
            · simp at h
              rw [h]
              exact ok1
        · rintro σ G6 ⟨v6, v7, es, rfl, L6, E6, hes, B6⟩
          have hbl : (bs.map V.ref).length < sizeLine := by
            rw [List.length_map, L6.len, hel]
            have : (100 : Nat) ≤ sizeLine := by decide
            omega
          refine ⟨_, rfl, .inl ⟨rfl, _, SqL.of L6.h⟩, _, rfl, l, _, _, rfl, rfl, L6.h, hbl, ?_⟩
          refine ⟨_, _, _, _, bs ++ [e], ess ++ [es], rfl, L6.snoc E6 nel hlb, ?_, by rw [List.length_append, hel]; rfl, (B6.put nlp nlc).mono (by omega)⟩
          intro h
          rcases List.mem_append.mp h with h | h
          · exact hlb h
          · simp at h
            exact nel h.symm
      · rintro σ G3 ⟨v4, v5, v6, v7, bs, ess, rfl, L3, hlb, hel, B3⟩
        have hb8 : ess.length ≤ 8 := by omega
        have hb1 : 1 ≤ ess.length := by omega
        have B3 : PenB G3 p c (100 * i + 1 + 9 * 8) := B3.mono (by omega)
        clear L2 B2 d0 d8 et hel
        -- the moves
        refine ⟨_, rfl, l, rfl, ⟨_, SqL.of L3.h⟩, fun mv hmv => ?_⟩
        obtain ⟨nmp, nmc⟩ := B3.ne hmv
        refine lc_list (xs := bs.map V.ref) (fun q H' => Same G3 H' ∧ ∃ mr, MPlan m H' p c mv mr (ess.take q) ∧ mv ∉ mr) ⟨Same.new hmv, [], ⟨upd_same, nmp, nmc, rfl, fun i b es q1 _ => by simp at q1⟩, by simp⟩ (fun q H' _ z => sqL_same z.1 (SqL.of L3.h)) ?_ ?_
        · intro q x H' hx hP
          obtain ⟨sP, mr, MP, hmr⟩ := hP
          rw [List.getElem?_map] at hx
          obtain ⟨b, hb, rfl⟩ := Option.map_eq_some_iff.mp hx
          have hq : q < ess.length := by rw [← L3.len]; exact (List.getElem?_eq_some_iff.mp hb).1
          have he : ess[q]? = some (ess[q]) := List.getElem?_eq_getElem hq
          have LB := (L3.row q b _ hb he).but (But.same sP)
          obtain ⟨es, hes⟩ : ∃ es, es = ess[q] := ⟨_, rfl⟩
          rw [← hes] at he LB
          have htk : ess.take (q + 1) = ess.take q ++ [es] := by rw [List.take_add_one, he]; rfl
          rw [htk]
          refine ⟨rfl, yesI ?_⟩
          refine ⟨_, rfl, b, rfl, ⟨_, SqL.of LB.h⟩, fun D hD => ?_⟩
          have B4 := B3.same sP
          obtain ⟨ndp, ndc⟩ := B4.ne hD
          obtain ⟨nmD, hDm⟩ := MP.new hD
          refine lc_list (xs := es.map fun e => V.str (txE e)) (fun q2 H2 => Same H' H2 ∧ MRow m H2 p c D (es.take q2)) ⟨Same.new hD, ⟨[], upd_same, rfl, fun i x e q1 _ => by simp at q1⟩, ndp, ndc, fun e h => by simp at h, by simp⟩ (fun q2 H2 _ z => sqL_same z.1 (SqL.of LB.h)) ?_ ?_
          · intro q2 x H2 hx hP
            obtain ⟨sQ, ⟨xs, x1, x2, x3⟩, _, _, x4, x5⟩ := hP
            rw [List.getElem?_map] at hx
            obtain ⟨e, he2, rfl⟩ := Option.map_eq_some_iff.mp hx
            have ok1 := LB.ok e (List.mem_of_getElem? he2)
            have hq2 : q2 < es.length := (List.getElem?_eq_some_iff.mp he2).1
            have htk2 : es.take (q2 + 1) = es.take q2 ++ [e] := by rw [List.take_add_one, he2]; rfl
            rw [htk2]
            refine ⟨rfl, yesI ?_⟩
            refine ⟨rfl, _, rfl, ?_⟩
            dsimp only [tNil, List.append_nil]
            refine ⟨CMv, _, rfl, .inl ⟨txE e, e.1, e.2, rfl, Nat.le_trans (txE_len ok1) (by decide), parse_tx ok1, fun x dx H3 made => ?_⟩⟩
            have mk := made.is ok1.1 ok1.2
            have D3 : H3 D = some (.lst (xs.map V.ref)) := made.1 _ _ x1
            have z100 : (100 : Nat) ≤ sizeLine := by decide
            have l4 := LB.len
            have lx : xs.length = q2 := by rw [x2, List.length_take]; omega
            refine ⟨_, D3, by rw [List.length_map]; omega, samePut (sQ.trans made.1) hD, ⟨xs ++ [x], by rw [upd_same, List.map_append]; rfl, by rw [List.length_append, List.length_append, x2]; rfl, fun i y e' q1 q3 => ?_⟩, ndp, ndc, ?_, by rw [List.length_append, List.length_take]; show min q2 es.length + 1 ≤ 4; omega⟩
            · refine isMove_put D3 ?_
              by_cases hi : i < xs.length
              · rw [List.getElem?_append_left hi] at q1
                rw [List.getElem?_append_left (by rw [← x2]; exact hi)] at q3
                exact (x3 i y e' q1 q3).same made.1
              · rw [List.getElem?_append_right (by omega)] at q1
                rw [List.getElem?_append_right (by rw [← x2]; omega), ← x2] at q3
                obtain ⟨rfl, rfl⟩ : x = y ∧ e = e' := by
                  cases hk : i - xs.length with
                  | zero =>
                    rw [hk] at q1 q3
                    simp at q1 q3
                    exact ⟨q1, q3⟩
                  | succ n =>
                    rw [hk] at q1
                    simp at q1
                exact mk
            · intro y hy
              rcases List.mem_append.mp hy with h | h
              · exact x4 y h
              · simp at h
                rw [h]
                exact ok1
          · intro H2 hP
            obtain ⟨sQ, MR⟩ := hP
            have e0 : es.take (es.map fun e => V.str (txE e)).length = es := by rw [List.length_map, List.take_length]
            rw [e0] at MR
            obtain ⟨_, _, _, _, Pn4, _⟩ := id B4
            have MP2 := MP.but Pn4 (But.same sQ)
            have z100 : (100 : Nat) ≤ sizeLine := by decide
            refine ⟨_, MP2.h, by rw [List.length_map, MP2.len, List.length_take]; omega, samePut (sP.trans sQ) hmv, mr ++ [D], MP2.snoc MR nmD.symm hmr, fun h => ?_⟩
            rcases List.mem_append.mp h with h | h
            · exact hmr h
            · simp at h
              exact nmD h
        · rintro H' ⟨sP, mr, MP, hmr⟩
          have e0 : ess.take (bs.map V.ref).length = ess := by rw [List.length_map, L3.len, List.take_length]
          rw [e0] at MP
          have L4 := L3.but (But.same sP)
          have B4 := B3.same sP
          clear L3 B3 sP hmv nmp nmc e0
          -- the rows that are passed
          refine ⟨_, rfl, mv, rfl, ⟨_, SqL.of MP.h⟩, fun D hD => ?_⟩
          obtain ⟨ndp, ndc⟩ := B4.ne hD
          obtain ⟨_, _, _, _, Pn4, _⟩ := id B4
          refine lc_list (xs := mr.map V.ref) (fun q H2 => Lines H2 p c l bs ess ∧ MPlan m H2 p c mv mr ess ∧ (∃ ps, TPlan m H2 p c D ps (ess.take q) ∧ D ∉ ps) ∧ PenB H2 p c (100 * i + 1 + 9 * 8 + q))
            ⟨L4.but (But.same (Same.new hD)), MP.but Pn4 (But.same (Same.new hD)), ⟨[], ⟨upd_same, ndp, ndc, rfl, fun i b es q1 _ => by simp at q1⟩, by simp⟩, (B4.same (Same.new hD)).mono (by omega)⟩ (fun q H2 _ z => SqL.of z.2.1.h) ?_ ?_
          · rintro q x H2 hx ⟨L5, M5, ⟨ps, T5, hDp⟩, B5⟩
            rw [List.getElem?_map] at hx
            obtain ⟨b, hb, rfl⟩ := Option.map_eq_some_iff.mp hx
            have hq : q < ess.length := by rw [← M5.len]; exact (List.getElem?_eq_some_iff.mp hb).1
            have he : ess[q]? = some (ess[q]) := List.getElem?_eq_getElem hq
            obtain ⟨es, hes⟩ : ∃ es, es = ess[q] := ⟨_, rfl⟩
            rw [← hes] at he
            have htk : ess.take (q + 1) = ess.take q ++ [es] := by rw [List.take_add_one, he]; rfl
            rw [htk]
            refine ⟨rfl, yesI ?_⟩
            obtain ⟨ns1, r1, sd1, n1, Pn1, hn1⟩ := id B5
            refine ⟨_, rfl, p, c, ns1, r1, sd1, n1, 2, rfl, Pn1, by omega, by decide, by decide, fun d H3 d0 d2 hd => ?_⟩
            obtain ⟨B6, K6⟩ := hd.penB
            have L6 := L5.but K6
            have M6 := M5.but Pn1 K6
            have T6 := T5.but Pn1 K6
            have B6 : PenB H3 p c (100 * i + 1 + 9 * 8 + (q + 1 : Nat)) := B6.mono (by omega)
            clear L5 M5 T5 B5 Pn1 hn1 hd K6
            have MR := M6.row q b es hb he
            have z100 : (100 : Nat) ≤ sizeLine := by decide
            have lps : (ps.map V.ref).length < sizeLine := by rw [List.length_map, T6.len, List.length_take]; omega
            have nbD : D ∉ mr := (MP.new hD).2
            have nbD2 : mv ≠ D := (MP.new hD).1
            obtain ⟨nlD, nbl⟩ := L4.new hD
            refine ⟨rfl, _, rfl, ite2 (fun hd0 => ?_) (fun hd0 => ?_)⟩
            · obtain ⟨⟨xs, x1, x2, x3⟩, x4, x5, x6, x7⟩ := id MR
              refine ⟨_, rfl, b, _, rfl, .inl ⟨SqL.of x1, fun t ht => ?_⟩⟩
              obtain ⟨ntp, ntc⟩ := B6.ne ht
              have S7 : Same H3 (upd H3 t (.tup (xs.map V.ref))) := Same.new ht
              obtain ⟨_, _, _, _, Pn6, _⟩ := id B6
              have T7 := T6.but Pn6 (But.same S7)
              have R7 : TRow m (upd H3 t (.tup (xs.map V.ref))) p c t es := ⟨⟨xs, .inr upd_same, x2, fun i x e q1 q2 => (x3 i x e q1 q2).same S7⟩, ntp, ntc, x6, x7⟩
              have ntD : t ≠ D := (ne_of_none T6.h ht).symm
              refine ⟨_, T7.h, lps, (L6.but (But.same S7)).put nlD nbl, (M6.but Pn6 (But.same S7)).put T7.h nbD2 nbD, ⟨ps ++ [t], T7.snoc R7 ntD hDp, fun h => ?_⟩, (B6.same S7).put ndp ndc⟩
              rcases List.mem_append.mp h with h | h
              · exact hDp h
              · simp at h
                exact ntD h.symm
            · have nb : b ≠ D := fun z => nbD (z ▸ List.mem_of_getElem? hb)
              refine ⟨_, rfl, _, T6.h, lps, L6.put nlD nbl, M6.put T6.h nbD2 nbD, ⟨ps ++ [b], T6.snoc MR.t nb hDp, fun h => ?_⟩, B6.put ndp ndc⟩
              rcases List.mem_append.mp h with h | h
              · exact hDp h
              · simp at h
                exact nb h.symm
          · rintro H2 ⟨L5, M5, ⟨ps, T5, hDp⟩, B5⟩
            have e0 : ess.take (mr.map V.ref).length = ess := by rw [List.length_map, M5.len, List.take_length]
            have lm : mr.length = ess.length := M5.len
            rw [e0] at T5
            have B5 : PenB H2 p c (100 * i + 90) := B5.mono (by rw [List.length_map]; omega)
            clear L4 B4 MP hD Pn4 hDp e0
            have hall : ∀ es ∈ ess, (∀ e ∈ es, okE e) ∧ es.length ≤ 4 := fun es he => by
              obtain ⟨q, hq, rfl⟩ := List.mem_iff_getElem.mp he
              have LB := L5.row q (bs[q]'(by rw [L5.len]; exact hq)) ess[q] (List.getElem?_eq_getElem _) (List.getElem?_eq_getElem hq)
              exact ⟨LB.ok, LB.len⟩
            have good : goodP ess := ⟨hb1, by omega, hall⟩
            -- the text
            refine ⟨⟨_, rfl⟩, _, rfl, l, rfl, ⟨_, SqL.of L5.h⟩, fun D2 hD2 => ?_⟩
            refine lc_list (xs := bs.map V.ref) (fun q H3 => Same H2 H3 ∧ H3 D2 = some (.lst ((ess.take q).map fun es => V.str (rowT es)))) ⟨Same.new hD2, upd_same⟩ (fun q H3 _ z => sqL_same z.1 (SqL.of L5.h)) ?_ ?_
            · rintro q x H3 hx ⟨sQ, dQ⟩
              rw [List.getElem?_map] at hx
              obtain ⟨b, hb, rfl⟩ := Option.map_eq_some_iff.mp hx
              have hq : q < ess.length := by rw [← L5.len]; exact (List.getElem?_eq_some_iff.mp hb).1
              have he : ess[q]? = some (ess[q]) := List.getElem?_eq_getElem hq
              obtain ⟨es, hes⟩ : ∃ es, es = ess[q] := ⟨_, rfl⟩
              rw [← hes] at he
              have LB := (L5.row q b es hb he).but (But.same sQ)
              have htk : (ess.take q).map (fun es => V.str (rowT es)) ++ [V.str (rowT es)] = (ess.take (q + 1)).map fun es => V.str (rowT es) := by rw [List.take_add_one, he, List.map_append]; rfl
              have z100 : (100 : Nat) ≤ sizeLine := by decide
              have lt : ((ess.take q).map fun es => V.str (rowT es)).length < sizeLine := by rw [List.length_map, List.length_take]; omega
              refine ⟨rfl, yesI ?_⟩
              refine ⟨_, rfl, by decide, fun u hu => ⟨lineD es, .list [], .lst (SqL.of ((upd_ne (ne_of_none LB.h hu)).trans LB.h)) (dpLine es), .lst (SqL.of upd_same) .nil, shapedLine LB.ok, by decide +kernel, _, rfl, ?_⟩⟩
              have S4 : Same H3 (upd H3 u (.lst [])) := Same.new hu
              have S5 := sQ.trans S4
              have D4 := S4 _ _ dQ
              have LB4 := LB.but (But.same S4)
              rw [eqv_nil]
              refine ite2 (fun hne => ?_) (fun hne => ?_)
              · have hsum := sum_le LB.ok
                have l4 := LB.len
                have e2 : (Str.ofString ", ").length = 2 := by decide +kernel
                refine ⟨⟨_, rfl⟩, _, rfl, _, b, es.map txE, rfl, rfl, .inl (SqL.of (by rw [List.map_map]; exact LB4.h)), by rw [List.length_map, e2]; omega, _, D4, lt, samePut S5 hD2, ?_⟩
                have er : Txt.join (Str.ofString ", ") (es.map txE) = rowT es := by
                  cases es with
                  | nil => simp at hne
                  | cons e r => rfl
                rw [er, upd_same]
                exact congrArg (fun l => some (HO.lst l)) htk
              · have er : Str.ofString "-" = rowT es := by
                  cases es with
                  | nil => rfl
                  | cons e r => simp at hne
                refine ⟨_, D4, lt, samePut S5 hD2, ?_⟩
                rw [er, upd_same]
                exact congrArg (fun l => some (HO.lst l)) htk
            · rintro H3 ⟨sQ, dQ⟩
              have e0 : ess.take (bs.map V.ref).length = ess := by rw [List.length_map, L5.len, List.take_length]
              rw [e0] at dQ
              have dQ : H3 D2 = some (.lst ((ess.map rowT).map V.str)) := by rw [List.map_map]; exact dQ
              have e1 : (Str.ofString "\n").length = 1 := by decide +kernel
              have hsum := rows_le hall
              refine ⟨_, D2, ess.map rowT, rfl, rfl, .inl (SqL.of dQ), by rw [List.length_map, e1]; omega, ?_⟩
              rw [TL.join_eq, show Str.join (Str.ofString "\n") (ess.map rowT) = planT ess from rfl]
              obtain ⟨_, _, _, _, Pn5, _⟩ := id B5
              have L6 := L5.but (But.same sQ)
              have M6 := M5.but Pn5 (But.same sQ)
              have T6 := T5.but Pn5 (But.same sQ)
              have B6 := B5.same sQ
              clear L5 M5 T5 B5 Pn5 sQ dQ hD2 e0 hsum lm
              have ht : ∀ z : Str, decide (V.str z ≠ V.str z) = false := fun z => decide_eq_false (fun h => h rfl)
              have h9 : ess.length ≤ 9 := by omega
              -- show_plan, three times
              refine ⟨_, rfl, D, ess, rfl, T6.at_ h9, fun H4 s4 => ⟨_, rfl, rfl, _, rfl, ite2 (fun h => absurd h (by simp)) (fun _ => ?_)⟩⟩
              obtain ⟨_, _, _, _, Pn6, _⟩ := id B6
              have L7 := L6.but (But.same s4)
              have M7 := M6.but Pn6 (But.same s4)
              have B7 := B6.same s4
              clear L6 M6 T6 B6 Pn6 s4
              refine ⟨_, rfl, mv, _, rfl, .inl ⟨SqL.of M7.h, fun t ht2 => ?_⟩⟩
              have S8 : Same H4 (upd H4 t (.tup (mr.map V.ref))) := Same.new ht2
              obtain ⟨_, _, _, _, Pn7, _⟩ := id B7
              have L8 := L7.but (But.same S8)
              have M8 := M7.but Pn7 (But.same S8)
              have B8 := B7.same S8
              have P8 : PlanAt K m (upd H4 t (.tup (mr.map V.ref))) t ess := ⟨⟨_, .inr (SqT.of upd_same), by rw [List.length_map, M8.len], fun i v es q1 q2 => by
                rw [List.getElem?_map] at q1
                obtain ⟨b, q3, rfl⟩ := Option.map_eq_some_iff.mp q1
                exact ⟨b, rfl, (M8.row i b es q3 q2).at_⟩⟩, h9⟩
              clear L7 M7 B7 Pn7 S8 ht2
              generalize (upd H4 t (.tup (mr.map V.ref))) = G8 at *
              refine ⟨t, ess, rfl, P8, fun G9 s9 => ⟨_, rfl, rfl, _, rfl, ite2 (fun h => absurd h (by simp)) (fun _ => ?_)⟩⟩
              obtain ⟨_, _, _, _, Pn8, _⟩ := id B8
              have L9 := L8.but (But.same s9)
              have M9 := M8.but Pn8 (But.same s9)
              have B9 := B8.same s9
              clear L8 M8 B8 P8 Pn8 s9
              refine ⟨_, rfl, l, ess, rfl, L9.at_ h9, fun G10 s10 => ⟨_, rfl, rfl, _, rfl, ite2 (fun h => absurd h (by simp)) (fun _ => ?_)⟩⟩
              obtain ⟨_, _, _, _, Pn9, _⟩ := id B9
              have M10 := M9.but Pn9 (But.same s10)
              have B10 := B9.same s10
              clear L9 M9 B9 Pn9 s10
              -- read_plan
              refine ⟨_, rfl, ess, rfl, good, fun r rb G11 s11 R11 => ?_⟩
              obtain ⟨q1, q2⟩ := B10.some_
              have R11 := R11 p c q1 q2
              obtain ⟨_, _, _, _, Pn10, _⟩ := id B10
              have M11 := M10.but Pn10 (But.same s11)
              have B11 := B10.same s11
              clear M10 B10 Pn10 s11 q1 q2
              refine ⟨_, rfl, _, _, _, _, true, rfl, .ty "list", .base (.lst R11.h), kit_ty (by decide +kernel), true, rfl, ?_⟩
              refine iteF ?_
              refine ⟨_, rfl, r, rfl, ⟨_, SqL.of R11.h⟩, fun D3 hD3 => ?_⟩
              refine lc_list (xs := rb.map V.ref) (fun q H' => Same G11 H' ∧ H' D3 = some (.lst [])) ⟨Same.new hD3, upd_same⟩ (fun q H' _ z => sqL_same z.1 (SqL.of R11.h)) ?_ ?_
              · rintro q x H' hx ⟨sQ, dQ⟩
                rw [List.getElem?_map] at hx
                obtain ⟨b, hb, rfl⟩ := Option.map_eq_some_iff.mp hx
                have hq : q < ess.length := by rw [← R11.len]; exact (List.getElem?_eq_some_iff.mp hb).1
                obtain ⟨⟨xs, x1, _, _⟩, _, _, _, _⟩ := R11.row q b _ hb (List.getElem?_eq_getElem hq)
                refine ⟨rfl, _, rfl, _, _, _, _, true, rfl, .ty "list", .base (.lst (sQ _ _ x1)), kit_ty (by decide +kernel), true, rfl, iteF ⟨sQ, dQ⟩⟩
              · rintro H' ⟨sQ, dQ⟩
                refine ⟨by decide, fun u hu => ⟨.list [], .list [], .lst (SqL.of ((upd_ne (ne_of_none dQ hu)).trans dQ)) .nil, .lst (SqL.of upd_same) .nil, by decide +kernel, by decide +kernel, _, rfl, ite2 (fun h => absurd h (by decide +kernel)) (fun _ => ?_)⟩⟩
                have S12 : Same G11 (upd H' u (.lst [])) := sQ.trans (Same.new hu)
                obtain ⟨_, _, _, _, Pn11, _⟩ := id B11
                have M12 := M11.but Pn11 (But.same S12)
                have R12 := R11.but Pn11 (But.same S12)
                have B12 := B11.same S12
                clear M11 R11 B11 Pn11 S12 sQ dQ hu hD3
                generalize (upd H' u (.lst [])) = G12 at *
                -- back != moves
                refine ⟨_, rfl, _, rfl, R12.eqv M12, fun G13 e13 => ⟨_, rfl, iteF ?_⟩⟩
                have s13 : Same G12 G13 := e13
                obtain ⟨_, _, _, _, Pn12, _⟩ := id B12
                have M13 := M12.but Pn12 (But.same s13)
                have R13 := R12.but Pn12 (But.same s13)
                have B13 := B12.same s13
                clear M12 R12 B12 Pn12 s13 e13
                refine ⟨_, rfl, ess, rfl, good, fun r2 rb2 G14 s14 R14 => ?_⟩
                obtain ⟨q1, q2⟩ := B13.some_
                have R14 := R14 p c q1 q2
                obtain ⟨_, _, _, _, Pn13, _⟩ := id B13
                have M14 := M13.but Pn13 (But.same s14)
                have R15 := R13.but Pn13 (But.same s14)
                have B14 := B13.same s14
                clear M13 R13 B13 Pn13 s14 q1 q2
                refine ⟨_, rfl, R14.eqv M14, fun G15 e15 => ⟨_, rfl, iteF ?_⟩⟩
                have s15 : Same G14 G15 := e15
                obtain ⟨_, _, _, _, Pn14, _⟩ := id B14
                have R16 := R15.but Pn14 (But.same s15)
                have B15 := B14.same s15
                refine ⟨_, rfl, r, ess, rfl, R16.at_ h9, fun G16 s16 => ⟨_, rfl, rfl, _, rfl, ite2 (fun h => absurd h (by simp)) (fun _ => ?_)⟩⟩
                exact ⟨_, _, _, _, _, _, _, _, _, _, _, _, rfl, (B15.same s16).mono (by omega)⟩
    · rintro σ H' ⟨v2, v3, v4, v5, v6, v7, v8, v9, v10, v11, v12, v13, rfl, B0⟩
      refine ⟨by show 0 ≤ sizeLine; decide, fun u1 h1 => ⟨by show 1 ≤ sizeLine; decide, fun u2 h2 => ?_⟩⟩
      have S1 : Same H' (upd H' u1 (.lst [])) := Same.new h1
      have S2 : Same (upd H' u1 (.lst [])) (upd (upd H' u1 (.lst [])) u2 (.lst [.ref u1])) := Same.new h2
      have P2 : PlanAt K m (upd (upd H' u1 (.lst [])) u2 (.lst [.ref u1])) u2 [[]] := ⟨⟨[.ref u1], .inl (SqL.of upd_same), rfl, fun i v es q1 q2 => by
        cases i with
        | zero =>
          simp at q1 q2
          subst q1
          subst q2
          exact ⟨u1, rfl, ⟨[], .inl (SqL.of (S2 _ _ upd_same)), rfl, fun i v e q _ => by simp at q⟩, by decide⟩
        | succ n => simp at q1⟩, by decide⟩
      have ep : planT [[]] = Str.ofString "-" := rfl
      refine ⟨u2, [[]], rfl, P2, fun G3 s3 => ?_⟩
      rw [ep]
      refine ⟨rfl, _, rfl, ite2 (fun _ => ?_) (fun h => absurd (decide_eq_true rfl) h)⟩
      have B3 := B0.same ((S1.trans S2).trans s3)
      refine ⟨[[]], by rw [ep]; rfl, ⟨by decide, by decide, fun es he => by simp at he; subst he; exact ⟨fun e h => by simp at h, by decide⟩⟩, fun r rb G4 s4 R4 => ?_⟩
      obtain ⟨q1, q2⟩ := B3.some_
      have R4 := R4 p c q1 q2
      obtain ⟨b, rfl⟩ : ∃ b, rb = [b] := by
        have h := R4.len
        match rb, h with
        | [b], _ => exact ⟨b, rfl⟩
      obtain ⟨⟨xs, x1, x2, _⟩, _, _, _, _⟩ := R4.row 0 b [] rfl rfl
      obtain rfl : xs = [] := List.length_eq_zero_iff.mp x2
      have hr4 : G4 r = some (.lst [.ref b]) := R4.h
      have hb4 : G4 b = some (.lst []) := x1
      refine ⟨by show 0 ≤ sizeLine; decide, fun w1 k1 => ⟨by show 1 ≤ sizeLine; decide, fun w2 k2 => ?_⟩⟩
      have S5 : Same G4 (upd G4 w1 (.lst [])) := Same.new k1
      have S6 : Same (upd G4 w1 (.lst [])) (upd (upd G4 w1 (.lst [])) w2 (.lst [.ref w1])) := Same.new k2
      refine ⟨.list [.list []], .list [.list []], .lst (SqL.of ((S5.trans S6) _ _ hr4)) (.cons (.lst (SqL.of ((S5.trans S6) _ _ hb4)) .nil) .nil), .lst (SqL.of upd_same) (.cons (.lst (SqL.of (S6 _ _ upd_same)) .nil) .nil), by decide +kernel, by decide +kernel, ?_⟩
      have ev : PyData.eqv (.list [.list []]) (.list [.list []]) = true := by decide +kernel
      rw [ev]
      exact k _
end
end K94

set_option Elab.async false
set_option linter.all false
set_option maxRecDepth 100000
set_option maxHeartbeats 8000000
/-! The head: what the written part says, and the chain of the promises up to the law. -/
namespace K94
open PySem L2 NX PySem.Spec PyProof.Rows
section
variable {K : PySem.W.Frag}

theorem kit_self {C : Addr} : PySem.W.kitOne K (.ref C) (.ref C) = some true := by
  unfold PySem.W.kitOne
  rw [if_pos (beq_self_eq_true _)]
theorem kitCls_of {t : Value} {D : Addr} {b : Bool} (i : PySem.W.isClsIn K D = true) (ty : PySem.W.typeIn K (.ref D) = some (.type "type")) (s : PySem.W.subIn K t (.ref D) = some b) : PySem.W.kitCls K t (.ref D) = some b := by
  have e : ((PySem.W.clsIn K D).isSome && PySem.W.typeIn K (.ref D) == some (.type "type")) = true := by
    have i' : (PySem.W.clsIn K D).isSome = true := i
    rw [i', ty] <;> rfl
  show (if ((PySem.W.clsIn K D).isSome && PySem.W.typeIn K (.ref D) == some (.type "type")) = true then PySem.W.subIn K t (.ref D) else none) = some b
  rw [if_pos e]
  exact s
theorem kit_of {t : Value} {D : Addr} {b : Bool} (ne : (t == .ref D) = false) (i : PySem.W.isClsIn K D = true) (ty : PySem.W.typeIn K (.ref D) = some (.type "type")) (s : PySem.W.subIn K t (.ref D) = some b) : PySem.W.kitOne K t (.ref D) = some b := by
  unfold PySem.W.kitOne
  rw [if_neg (by rw [ne]; exact Bool.false_ne_true)]
  exact kitCls_of i ty s
theorem kit_ref {C D : Addr} {b : Bool} (ne : decide (C = D) = false) (i : PySem.W.isClsIn K D = true) (ty : PySem.W.typeIn K (.ref D) = some (.type "type")) (s : PySem.W.subIn K (.ref C) (.ref D) = some b) : PySem.W.kitOne K (.ref C) (.ref D) = some b :=
  kit_of (by
    have n : C ≠ D := of_decide_eq_false ne
    cases q : ((.ref C : Value) == .ref D) with
    | false => rfl
    | true =>
      have z : (Value.ref C) = .ref D := eq_of_beq q
      cases z
      exact absurd rfl n) i ty s
theorem kit_tyr {T : String} {D : Addr} {b : Bool} (i : PySem.W.isClsIn K D = true) (ty : PySem.W.typeIn K (.ref D) = some (.type "type")) (s : PySem.W.subIn K (.type T) (.ref D) = some b) : PySem.W.kitOne K (.type T) (.ref D) = some b :=
  kit_of (by
    cases q : ((.type T : Value) == .ref D) with
    | false => rfl
    | true =>
      have z : (Value.type T) = .ref D := eq_of_beq q
      cases z) i ty s
theorem kit_rty {T : String} {C : Addr} {b : Bool} (m : PySem.W.kitMeta T = true) (s : PySem.W.subIn K (.ref C) (.type T) = some b) : PySem.W.kitOne K (.ref C) (.type T) = some b := by
  have ne : ((.ref C : Value) == .type T) = false := by
    cases q : ((.ref C : Value) == .type T) with
    | false => rfl
    | true =>
      have z : (Value.ref C) = .type T := eq_of_beq q
      cases z
  unfold PySem.W.kitOne
  rw [if_neg (by rw [ne]; exact Bool.false_ne_true)]
  show (if PySem.W.kitMeta T = true then PySem.W.subIn K (.ref C) (.type T) else none) = some b
  rw [if_pos m]
  exact s
theorem exm_of {C S : Addr} {b : Bool} (h1 : PySem.W.subIn K (.ref S) (.type "BaseException") = some true) (i : PySem.W.isClsIn K S = true) (ty : PySem.W.typeIn K (.ref S) = some (.type "type")) (s : PySem.W.subIn K (.ref C) (.ref S) = some b) : PySem.W.exmOne K (.ref C) (.ref S) = some b := by
  have e1 : (PySem.W.subIn K (.ref S) (.type "BaseException") == some true) = true := by rw [h1] <;> rfl
  show (if (PySem.W.subIn K (.ref S) (.type "BaseException") == some true) = true then PySem.W.kitCls K (.ref C) (.ref S) else none) = some b
  rw [if_pos e1]
  exact kitCls_of i ty s

/-- a def as it stands in the written part -/
structure FnF (K : PySem.W.Frag) (x q : Str) (st : Stmt) (f : Addr) : Prop where
  ex : ∃ fd, Fun K x q st f fd
theorem fnF {x q : Str} {st : Stmt} {f : Addr} {oc : Value} {od an : Option Addr} {osl : Array (Option Value)} {kV doc pm cdv ct : Value} (l : K.lookup f = some ⟨oc, od, .func (PySem.W.fnOf x q (defArgs st) (defBody st) (defScope st) .none kV doc pm an cdv ct), osl⟩)
    (c : PySem.W.codeIn K cdv q = true) (k : PySem.W.keepIn K (.ref f) = true) : FnF K x q st f := ⟨⟨_, fun_mk l c k⟩⟩

end

/-- an error of ours -/
structure ErrF (K : PySem.W.Frag) (x : Str) (C fI CS : Addr) : Prop where
  g : PySem.W.nsIn K mainGlobals x = some (some (.ref C))
  i : PySem.W.findIn K (.ref C) "__init__" = some (some (.ref fI))
  t : PySem.W.typeIn K (.ref fI) = some (.type "function")
  cls : ∃ nm q N bs sn sub ab col dd k0 k1 k2 k3 k5, K.lookup C = some (excClassObj nm q C N bs [.ref CS, .type "ValueError", .type "Exception", .type "BaseException", .type "object"] true sn sub ab col dd k0 k1 k2 k3 k5 "ValueError.__new__")
  sa : PySem.W.findIn K (.ref C) "__setattr__" = some (some (.builtin "object.__setattr__"))
  ex : PySem.W.subIn K (.ref C) (.type "BaseException") = some true
  ty : PySem.W.typeIn K (.ref C) = some (.type "type")
  kp : PySem.W.keepIn K (.ref C) = true
  v : PySem.W.findIn K (.ref C) "value" = some none

theorem refs5 (CS : Addr) : PySem.HandSPX.refsVE [.ref CS, .type "ValueError", .type "Exception", .type "BaseException", .type "object"] = true := by
  show PySem.HandSPX.refsVE [.type "ValueError", .type "Exception", .type "BaseException", .type "object"] = true
  decide +kernel
section
variable {P : Program} {w : World} {K : PySem.W.Frag} {mg : Str → Option Value} {base h : Heap}
theorem ErrF.O {x : Str} {C fI CS : Addr} (E : ErrF K x C fI CS) : OexC K C := by
  obtain ⟨nm, q, N, bs, sn, sub, ab, col, dd, k0, k1, k2, k3, k5, e⟩ := E.cls
  exact ⟨⟨nm, q, N, bs, _, sn, sub, ab, col, dd, k0, k1, k2, k3, k5, e, refs5 CS⟩, E.sa, E.ex, E.ty, E.kp⟩
end

/-- a class of moves -/
structure MvF (K : PySem.W.Frag) (fI fEq fSt CMv : Addr) (x : Str) (C : Addr) (wd : Str) : Prop where
  g : PySem.W.nsIn K mainGlobals x = some (some (.ref C))
  pg : PySem.W.plainGet K C Str.empty = true
  hd : PySem.W.hasDictIn K C = true
  po : PySem.W.plainOver K C = true
  sa : PySem.W.findIn K (.ref C) "__setattr__" = some (some (.builtin "object.__setattr__"))
  con : ∃ t, PySem.W.findIn K (.ref C) "WORD" = some (some (.str wd t)) ∧ PySem.W.specialIn K (.str wd t) "__get__" = some none ∧ PySem.W.findCls K (.ref C) (.type "type") "WORD" = some (.val (.str wd t))
  nw : PySem.W.findIn K (.ref C) "word" = some none
  nn : PySem.W.findIn K (.ref C) "name" = some none
  mkC : PySem.W.makesIn K C = true
  ini : PySem.W.findIn K (.ref C) "__init__" = some (some (.ref fI))
  ifn : PySem.W.isFn K (.ref fI) = true
  kp : PySem.W.keepIn K (.ref C) = true
  rd : PySem.W.readsIn K C (.type "type") = true
  ga : PySem.W.specialIn K (.ref C) "__getattribute__" = some (some (.builtin "type.__getattribute__"))
  kMv : PySem.W.kitOne K (.ref C) (.ref CMv) = some true
  cl : PySem.W.findIn K (.ref C) "__class__" = some (some (.builtin "object.__class__"))
  ob : PySem.W.mroIn K C (.type "object") = some true
  eq : PySem.W.findIn K (.ref C) "__eq__" = some (some (.ref fEq))
  ne : PySem.W.findIn K (.ref C) "__ne__" = some (some (.builtin "object.__ne__"))
  efn : PySem.W.isFn K (.ref fEq) = true
  st : PySem.W.findIn K (.ref C) "__str__" = some (some (.ref fSt))
  sfn : PySem.W.isFn K (.ref fSt) = true
section
variable {P : Program} {w : World} {K : PySem.W.Frag} {mg : Str → Option Value} {base h : Heap} {fI fEq fSt CMv cL cA cS cF : Addr}
theorem MvF.mv {x : Str} {C : Addr} {wd : Str} (F : MvF K fI fEq fSt CMv x C wd) (X : K.In h) (G : h.Ns mainGlobals mg) : MoveC K mg fI x C wd := by
  obtain ⟨t, h1, h2, h3⟩ := F.con
  exact ⟨⟨F.pg, F.hd, F.po, F.sa⟩, ⟨_, h1, ⟨_, rfl⟩, h2, by decide +kernel⟩, F.nw, F.nn, ⟨F.mkC, F.ini, F.ifn, F.kp⟩, PySem.W.mg_of X G F.g, ⟨_, _, ⟨F.rd, F.ga⟩, ⟨h3, ⟨_, rfl⟩⟩⟩⟩
/-- all that is said of moves, by a word -/
structure MvA (K : PySem.W.Frag) (fI fEq fSt CMv cL cA cS cF : Addr) : Prop where
  L : MvF K fI fEq fSt CMv "Load" cL "load"
  A : MvF K fI fEq fSt CMv "Again" cA "again"
  S : MvF K fI fEq fSt CMv "Store" cS "store"
  F : MvF K fI fEq fSt CMv "Forget" cF "forget"
theorem MvA.at_ (M : MvA K fI fEq fSt CMv cL cA cS cF) : ∀ wd, isW wd = true → ∃ x, MvF K fI fEq fSt CMv x (M4.of ⟨cL, cA, cS, cF⟩ wd) wd := fun wd h => by
  rcases isW_cases h with e | e | e | e <;> subst e
  · exact ⟨_, M.L⟩
  · exact ⟨_, M.A⟩
  · exact ⟨_, M.S⟩
  · exact ⟨_, M.F⟩
theorem MvA.mvs (M : MvA K fI fEq fSt CMv cL cA cS cF) (X : K.In h) (G : h.Ns mainGlobals mg) : Mvs K mg fI ⟨cL, cA, cS, cF⟩ := ⟨M.L.mv X G, M.A.mv X G, M.S.mv X G, M.F.mv X G⟩
theorem MvA.kin (M : MvA K fI fEq fSt CMv cL cA cS cF) (sp : PySem.W.specialIn K (.builtin "object.__class__") "__get__" = some (some (.builtin "getset_descriptor.__get__"))) (tk : PySem.W.takesIn K (.builtin "object.__class__") = some true) : KinK K ⟨cL, cA, cS, cF⟩ CMv :=
  ⟨sp, tk, fun wd h => by
    obtain ⟨x, F⟩ := M.at_ wd h
    exact ⟨F.kMv, F.cl, F.ob⟩⟩
theorem MvA.eqc (M : MvA K fI fEq fSt CMv cL cA cS cF) : ∀ wd, isW wd = true → NX.EqC K (M4.of ⟨cL, cA, cS, cF⟩ wd) fEq := fun wd h => by
  obtain ⟨x, F⟩ := M.at_ wd h
  exact ⟨⟨F.pg, F.hd, F.po, F.sa⟩, F.eq, F.ne, F.efn, F.ob⟩
theorem MvA.stc (M : MvA K fI fEq fSt CMv cL cA cS cF) : ∀ wd, isW wd = true → NX.StrC K (M4.of ⟨cL, cA, cS, cF⟩ wd) fSt := fun wd h => by
  obtain ⟨x, F⟩ := M.at_ wd h
  exact ⟨F.st, F.sfn⟩
end

/-- all that the head finds -/
structure HeadF (K : PySem.W.Frag) (cL cA cS cF CS CM CN CMv fIs fPen fDraw fPick fShow fRow fRP fRR fLaw fEN fEM fI fRd fEq fSt pRd : Addr) : Prop where
  n_int : PySem.W.nsIn K mainGlobals "int" = some none
  n_len : PySem.W.nsIn K mainGlobals "len" = some none
  n_abs : PySem.W.nsIn K mainGlobals "abs" = some none
  n_list : PySem.W.nsIn K mainGlobals "list" = some none
  n_str : PySem.W.nsIn K mainGlobals "str" = some none
  n_tuple : PySem.W.nsIn K mainGlobals "tuple" = some none
  n_isinstance : PySem.W.nsIn K mainGlobals "isinstance" = some none
  n_repr : PySem.W.nsIn K mainGlobals "repr" = some none
  n_range : PySem.W.nsIn K mainGlobals "range" = some none
  n_enumerate : PySem.W.nsIn K mainGlobals "enumerate" = some none
  n_VE : PySem.W.nsIn K mainGlobals "ValueError" = some none
  gLet : ∃ t, PySem.W.nsIn K mainGlobals "LETTERS" = some (some (.str "abcdefghijklmnopqrstuvwxyz" t))
  gMost : ∃ t, PySem.W.nsIn K mainGlobals "MOST_LETTERS" = some (some (.int 6 t))
  gS : PySem.W.nsIn K mainGlobals "StowError" = some (some (.ref CS))
  eN : ErrF K "BadName" CN fEN CS
  eM : ErrF K "BadMove" CM fEM CS
  hn : PySem.W.specialIn K (.builtin "object.__class__") "__get__" = some (some (.builtin "getset_descriptor.__get__"))
  ht : PySem.W.takesIn K (.builtin "object.__class__") = some true
  gMv : PySem.W.nsIn K mainGlobals "Move" = some (some (.ref CMv))
  rdMv : PySem.W.readsIn K CMv (.type "type") = true
  gaMv : PySem.W.specialIn K (.ref CMv) "__getattribute__" = some (some (.builtin "type.__getattribute__"))
  cmAt : PySem.W.findCls K (.ref CMv) (.type "type") "read" = some (.get (.builtin "classmethod.__get__") (.ref pRd) .none (.ref CMv))
  cmRc : ∃ rest, PySem.W.recIn K pRd "classmethod" = some (.ref fRd :: rest)
  cmFi : PySem.W.fnIn K fRd = true
  gL : PySem.W.nsIn K mainGlobals "Load" = some (some (.ref cL))
  gA : PySem.W.nsIn K mainGlobals "Again" = some (some (.ref cA))
  gSt : PySem.W.nsIn K mainGlobals "Store" = some (some (.ref cS))
  gF : PySem.W.nsIn K mainGlobals "Forget" = some (some (.ref cF))
  mv : MvA K fI fEq fSt CMv cL cA cS cF
  wEN : FnF K "__init__" "BadName.__init__" sErrN fEN
  wEM : FnF K "__init__" "BadMove.__init__" sErrM fEM
  wI : FnF K "__init__" "Move.__init__" sInit fI
  wRd : FnF K "read" "Move.read" sRead fRd
  wEq : FnF K "__eq__" "Move.__eq__" sEqM fEq
  wSt : FnF K "__str__" "Move.__str__" sStr fSt
  g_fIs : PySem.W.nsIn K mainGlobals "is_name" = some (some (.ref fIs))
  w_fIs : FnF K "is_name" "is_name" sIs fIs
  g_fPen : PySem.W.nsIn K mainGlobals "_law_pen" = some (some (.ref fPen))
  w_fPen : FnF K "_law_pen" "_law_pen" sPen fPen
  g_fDraw : PySem.W.nsIn K mainGlobals "_law_draw" = some (some (.ref fDraw))
  w_fDraw : FnF K "_law_draw" "_law_draw" sDraw fDraw
  g_fPick : PySem.W.nsIn K mainGlobals "_law_pick" = some (some (.ref fPick))
  w_fPick : FnF K "_law_pick" "_law_pick" sPick fPick
  g_fShow : PySem.W.nsIn K mainGlobals "show_plan" = some (some (.ref fShow))
  w_fShow : FnF K "show_plan" "show_plan" sShow fShow
  g_fRow : PySem.W.nsIn K mainGlobals "row_line" = some (some (.ref fRow))
  w_fRow : FnF K "row_line" "row_line" sRow fRow
  g_fRP : PySem.W.nsIn K mainGlobals "read_plan" = some (some (.ref fRP))
  w_fRP : FnF K "read_plan" "read_plan" sRP fRP
  g_fRR : PySem.W.nsIn K mainGlobals "read_row" = some (some (.ref fRR))
  w_fRR : FnF K "read_row" "read_row" sRR fRR
  g_fLaw : PySem.W.nsIn K mainGlobals "law" = some (some (.ref fLaw))
  w_fLaw : FnF K "law" "law" sLaw fLaw
section
variable {K : PySem.W.Frag} {mg : Str → Option Value} {h : Heap} {cL cA cS cF CS CM CN CMv fIs fPen fDraw fPick fShow fRow fRP fRR fLaw fEN fEM fI fRd fEq fSt pRd : Addr}
theorem kwBind {K : PySem.W.Frag} {x q : Str} {st : Stmt} {f : Addr} {fd : FuncData} {y : Str} (F : Fun K x q st f fd) (hb : ∀ (kV doc pm : Value) (an : Option Addr) (cdv ct u : Value), bindArgs (PySem.W.fnOf x q (defArgs st) (defBody st) (defScope st) .none kV doc pm an cdv ct) ⟨[], [(y, u)]⟩ = pure [(y, u)]) :
    ∀ (s : Shared) (us : List Value), us.length = [y].length → BindsTo s fd ⟨[], ([y] : List Str).zip us⟩ (([y] : List Str).zip us) := by
  obtain ⟨oc, od, kV, doc, pm, an, cdv, ct, osl, rfl, lk, hcd⟩ := F.ex
  intro s us hl
  match us, hl with
  | [u], _ => exact BindsTo.of_eq (hb kV doc pm an cdv ct u)
theorem HeadF.law {l : PySem.W.OpenLaw} {w : World} {fa : Addr} (D : HeadF K cL cA cS cF CS CM CN CMv fIs fPen fDraw fPick fShow fRow fRP fRR fLaw fEN fEM fI fRd fEq fSt pRd) (X : K.In h) (G : h.Ns mainGlobals mg) (hfa : mg "law" = some (.ref fa)) :
    ∃ fd : FuncData, (∀ (s : Shared) (u : Value), BindsTo s fd ⟨[u], []⟩ [("_law_script", u)]) ∧ ∀ base : Heap, K.In base → base.Ns mainGlobals mg → FnOk l.prog w K mg base CX0 12 fa fd ["_law_script"] (spLaw K) := by
  have e := hfa.symm.trans (PySem.W.mg_of X G D.g_fLaw)
  cases e
  have TB : TxtB mg := ⟨PySem.W.mg_none_of X G D.n_int, PySem.W.mg_none_of X G D.n_len, PySem.W.mg_none_of X G D.n_abs, PySem.W.mg_none_of X G D.n_list, PySem.W.mg_none_of X G D.n_str, PySem.W.mg_none_of X G D.n_tuple, PySem.W.mg_none_of X G D.n_isinstance, PySem.W.mg_none_of X G D.n_repr, PySem.W.mg_none_of X G D.n_range, PySem.W.mg_none_of X G D.n_enumerate, PySem.W.mg_none_of X G D.n_VE⟩
  have TN : TxtN mg := ⟨let ⟨t, e⟩ := D.gLet; ⟨t, PySem.W.mg_of X G e⟩, let ⟨t, e⟩ := D.gMost; ⟨t, PySem.W.mg_of X G e⟩⟩
  have MV : Mvs K mg fI ⟨cL, cA, cS, cF⟩ := D.mv.mvs X G
  have KK : KinK K ⟨cL, cA, cS, cF⟩ CMv := D.mv.kin D.hn D.ht
  have gMv := PySem.W.mg_of X G D.gMv
  obtain ⟨fd_fIs, F_fIs⟩ := D.w_fIs.ex
  have b_fIs := F_fIs.binds (ps := ["value"]) fun _ _ _ _ _ _ us hl => match us, hl with | [_], _ => rfl
  obtain ⟨fd_fPen, F_fPen⟩ := D.w_fPen.ex
  have b_fPen := F_fPen.binds (ps := ["_law_script"]) fun _ _ _ _ _ _ us hl => match us, hl with | [_], _ => rfl
  obtain ⟨fd_fDraw, F_fDraw⟩ := D.w_fDraw.ex
  have b_fDraw := F_fDraw.binds (ps := ["_law_pen_here", "_law_many"]) fun _ _ _ _ _ _ us hl => match us, hl with | [_, _], _ => rfl
  obtain ⟨fd_fPick, F_fPick⟩ := D.w_fPick.ex
  have b_fPick := F_fPick.binds (ps := ["_law_pen_here", "_law_some"]) fun _ _ _ _ _ _ us hl => match us, hl with | [_, _], _ => rfl
  obtain ⟨fd_fShow, F_fShow⟩ := D.w_fShow.ex
  have b_fShow := F_fShow.binds (ps := ["plan"]) fun _ _ _ _ _ _ us hl => match us, hl with | [_], _ => rfl
  obtain ⟨fd_fRow, F_fRow⟩ := D.w_fRow.ex
  have b_fRow := F_fRow.binds (ps := ["row"]) fun _ _ _ _ _ _ us hl => match us, hl with | [_], _ => rfl
  obtain ⟨fd_fRP, F_fRP⟩ := D.w_fRP.ex
  have b_fRP := F_fRP.binds (ps := ["text"]) fun _ _ _ _ _ _ us hl => match us, hl with | [_], _ => rfl
  obtain ⟨fd_fRR, F_fRR⟩ := D.w_fRR.ex
  have b_fRR := F_fRR.binds (ps := ["at", "words"]) fun _ _ _ _ _ _ us hl => match us, hl with | [_, _], _ => rfl
  obtain ⟨fd_fLaw, F_fLaw⟩ := D.w_fLaw.ex
  obtain ⟨fd_EN, F_EN⟩ := D.wEN.ex
  have b_EN := F_EN.binds (ps := ["self", "value"]) fun _ _ _ _ _ _ us hl => match us, hl with | [_, _], _ => rfl
  obtain ⟨fd_EM, F_EM⟩ := D.wEM.ex
  have b_EM := F_EM.binds (ps := ["self", "value"]) fun _ _ _ _ _ _ us hl => match us, hl with | [_, _], _ => rfl
  obtain ⟨fd_I, F_I⟩ := D.wI.ex
  have b_I := F_I.binds (ps := ["self", "name"]) fun _ _ _ _ _ _ us hl => match us, hl with | [_, _], _ => rfl
  obtain ⟨fd_Rd, F_Rd⟩ := D.wRd.ex
  have b_Rd := F_Rd.binds (ps := ["cls", "text"]) fun _ _ _ _ _ _ us hl => match us, hl with | [_, _], _ => rfl
  obtain ⟨fd_Eq, F_Eq⟩ := D.wEq.ex
  have b_Eq := F_Eq.binds (ps := ["self", "other"]) fun _ _ _ _ _ _ us hl => match us, hl with | [_, _], _ => rfl
  obtain ⟨fd_St, F_St⟩ := D.wSt.ex
  have b_St := F_St.binds (ps := ["self"]) fun _ _ _ _ _ _ us hl => match us, hl with | [_], _ => rfl
  have kS := kwBind (y := "plan") F_fShow fun _ _ _ _ _ _ _ => rfl
  have kR := kwBind (y := "text") F_fRP fun _ _ _ _ _ _ _ => rfl
  have bL : ∀ (s : Shared) (u : Value), BindsTo s fd_fLaw ⟨[u], []⟩ [("_law_script", u)] := by
    obtain ⟨oc, od, kV, doc, pm, an, cdv, ct, osl, rfl, lk, hcd⟩ := F_fLaw.ex
    exact fun s u => .of_eq rfl
  refine ⟨fd_fLaw, bL, fun base Xb Gb => ?_⟩
  have cDraw : C8.Cal l.prog w K mg base 1 "_law_draw" spDraw [] := ⟨_, _, _, _, ok_draw F_fDraw TB, PySem.W.mg_of X G D.g_fDraw, F_fDraw.kp, b_fDraw, .nil⟩
  have cPen : C8.Cal l.prog w K mg base 1 "_law_pen" (spPen K) [] := ⟨_, _, _, _, ok_pen F_fPen TB, PySem.W.mg_of X G D.g_fPen, F_fPen.kp, b_fPen, .nil⟩
  have cPick : C8.Cal l.prog w K mg base 2 "_law_pick" (spPick K) [] := ⟨_, _, _, _, ok_pick F_fPick TB cDraw, PySem.W.mg_of X G D.g_fPick, F_fPick.kp, b_fPick, .nil⟩
  have cIs : C8.Cal l.prog w K mg base 1 "is_name" (spIs K) [] := ⟨_, _, _, _, ok_is F_fIs TB TN, PySem.W.mg_of X G D.g_fIs, F_fIs.kp, b_fIs, .nil⟩
  have EN : ErrC l.prog w K mg base "BadName" CN fEN := ⟨D.eN.O, D.eN.i, D.eN.t, ⟨_, ok_errN F_EN, b_EN⟩, PySem.W.mg_of X G D.eN.g, D.eN.v⟩
  have EM : ErrC l.prog w K mg base "BadMove" CM fEM := ⟨D.eM.O, D.eM.i, D.eM.t, ⟨_, ok_errM F_EM, b_EM⟩, PySem.W.mg_of X G D.eM.g, D.eM.v⟩
  have OI : FnOk l.prog w K mg base (CX l.prog w) 3 fI fd_I ["self", "name"] (spInit K CN) := ok_init F_I cIs EN
  have ORd : FnOk l.prog w K mg base (CX l.prog w) 5 fRd fd_Rd ["cls", "text"] (spRead K ⟨cL, cA, cS, cF⟩ CM) := ok_read (fN := fI) F_Rd TB cIs EM OI b_I MV
  have OEq : FnOk l.prog w K mg base CX0 1 fEq fd_Eq ["self", "other"] (spEq K ⟨cL, cA, cS, cF⟩ CMv) := ok_eq F_Eq TB MV KK gMv
  have OSt : FnOk l.prog w K mg base CX0 1 fSt fd_St ["self"] (spStr ⟨cL, cA, cS, cF⟩) := ok_str F_St MV
  have cRow : C8.Cal l.prog w K mg base 4 "row_line" (spRow K ⟨cL, cA, cS, cF⟩) [] := ⟨_, _, _, _, ok_row F_fRow TB OSt b_St D.mv.stc, PySem.W.mg_of X G D.g_fRow, F_fRow.kp, b_fRow, .nil⟩
  have OSh : FnOk l.prog w K mg base CX0 5 fShow fd_fShow ["plan"] (spShow K ⟨cL, cA, cS, cF⟩) := ok_show F_fShow TB cRow
  have rd : ∃ mc, ClX.CRead K CMv mc ∧ ∃ p g, ClX.CMet K CMv mc "read" p g ∧ ∃ fd, FnOk l.prog w K mg base (CX l.prog w) 5 g fd ["cls", "text"] (spRead K ⟨cL, cA, cS, cF⟩ CM) ∧ Binds K fd ["cls", "text"] [] :=
    ⟨.type "type", ⟨D.rdMv, D.gaMv⟩, pRd, fRd, ⟨D.cmAt, D.cmRc, D.cmFi⟩, fd_Rd, ORd, b_Rd⟩
  have cRR : C8.Cal l.prog w K mg base 9 "read_row" (spRR K ⟨cL, cA, cS, cF⟩) [] := ⟨_, _, _, _, ok_rr (fI := fI) F_fRR TB cIs MV gMv rd, PySem.W.mg_of X G D.g_fRR, F_fRR.kp, b_fRR, .nil⟩
  have ORp : FnOk l.prog w K mg base CX0 11 fRP fd_fRP ["text"] (spReadP ⟨cL, cA, cS, cF⟩) := ok_rp F_fRP TB cRR
  exact ok_law F_fLaw ⟨TB, cPen, cDraw, cPick, ⟨_, _, OSh, PySem.W.mg_of X G D.g_fShow, F_fShow.kp, b_fShow, kS⟩, ⟨_, _, ORp, PySem.W.mg_of X G D.g_fRP, F_fRP.kp, b_fRP, kR⟩, gMv, rd, ⟨_, _, OEq, b_Eq, D.mv.eqc⟩⟩
end
end K94

set_option Elab.async false
set_option linter.all false
set_option maxRecDepth 100000
open PySem PySem.W PyProof.Rows
set_option maxHeartbeats 0 in
theorem PySem.Challenge.cw_loopstow_k94_plans_written_holds : PySem.Challenge.rw_loopstow_k94_plans_written.Holds := by
  w_on; o_law; k_head; (case hw => w_witness2)
  k_fill
  refine L2.walk_of (l := PySem.Challenge.rw_loopstow_k94_plans_written) (n := 63) (k := 12) (x := "_law_script") (CX := fun _ => L2.CX0) (sp := fun w => K94.spLaw _) rfl (by decide) rfl ⟨rfl, by decide, by decide⟩ (fun w h Y => PySem.W.kIn_of Y) ?F (fun _ _ a ns hl _ hS => ⟨a, ns, rfl, hS, fun _ => rfl⟩) (fun _ _ _ _ _ z => z)
  case F =>
    intro w mg fa h KX G hmg
    refine' K94.HeadF.law ?D KX G hmg
    case D =>
      exact ⟨by k_is,
      by k_is,
      by k_is,
      by k_is,
      by k_is,
      by k_is,
      by k_is,
      by k_is,
      by k_is,
      by k_is,
      by k_is,
      ⟨_, by k_is⟩,
      ⟨_, by k_is⟩,
      by k_is,
      ⟨by k_is, by k_is, by k_is, ⟨_, _, _, _, _, _, _, _, _, _, _, _, _, _, by k_is⟩, by k_is, by k_is, by k_is, by k_is, by k_is⟩,
      ⟨by k_is, by k_is, by k_is, ⟨_, _, _, _, _, _, _, _, _, _, _, _, _, _, by k_is⟩, by k_is, by k_is, by k_is, by k_is, by k_is⟩,
      by k_is,
      by k_is,
      by k_is,
      by k_is,
      by k_is,
      by k_is,
      ⟨_, by k_is⟩,
      by k_is,
      by k_is,
      by k_is,
      by k_is,
      by k_is,
      ⟨⟨by k_is, by k_is, by k_is, by k_is, by k_is, ⟨_, by k_is, by k_is, by k_is⟩, by k_is, by k_is, by k_is, by k_is, by k_is, by k_is, by k_is, by k_is, by first | exact K94.kit_self | exact K94.kit_ref (by decide) (by k_is) (by k_is) (by k_is), by k_is, by k_is, by k_is, by k_is, by k_is, by k_is, by k_is⟩,
      ⟨by k_is, by k_is, by k_is, by k_is, by k_is, ⟨_, by k_is, by k_is, by k_is⟩, by k_is, by k_is, by k_is, by k_is, by k_is, by k_is, by k_is, by k_is, by first | exact K94.kit_self | exact K94.kit_ref (by decide) (by k_is) (by k_is) (by k_is), by k_is, by k_is, by k_is, by k_is, by k_is, by k_is, by k_is⟩,
      ⟨by k_is, by k_is, by k_is, by k_is, by k_is, ⟨_, by k_is, by k_is, by k_is⟩, by k_is, by k_is, by k_is, by k_is, by k_is, by k_is, by k_is, by k_is, by first | exact K94.kit_self | exact K94.kit_ref (by decide) (by k_is) (by k_is) (by k_is), by k_is, by k_is, by k_is, by k_is, by k_is, by k_is, by k_is⟩,
      ⟨by k_is, by k_is, by k_is, by k_is, by k_is, ⟨_, by k_is, by k_is, by k_is⟩, by k_is, by k_is, by k_is, by k_is, by k_is, by k_is, by k_is, by k_is, by first | exact K94.kit_self | exact K94.kit_ref (by decide) (by k_is) (by k_is) (by k_is), by k_is, by k_is, by k_is, by k_is, by k_is, by k_is, by k_is⟩⟩,
      K94.fnF (by k_is) (by k_is) (by k_is),
      K94.fnF (by k_is) (by k_is) (by k_is),
      K94.fnF (by k_is) (by k_is) (by k_is),
      K94.fnF (by k_is) (by k_is) (by k_is),
      K94.fnF (by k_is) (by k_is) (by k_is),
      K94.fnF (by k_is) (by k_is) (by k_is),
      by k_is,
      K94.fnF (by k_is) (by k_is) (by k_is),
      by k_is,
      K94.fnF (by k_is) (by k_is) (by k_is),
      by k_is,
      K94.fnF (by k_is) (by k_is) (by k_is),
      by k_is,
      K94.fnF (by k_is) (by k_is) (by k_is),
      by k_is,
      K94.fnF (by k_is) (by k_is) (by k_is),
      by k_is,
      K94.fnF (by k_is) (by k_is) (by k_is),
      by k_is,
      K94.fnF (by k_is) (by k_is) (by k_is),
      by k_is,
      K94.fnF (by k_is) (by k_is) (by k_is),
      by k_is,
      K94.fnF (by k_is) (by k_is) (by k_is)⟩
