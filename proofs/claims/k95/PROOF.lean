import PyProof.Rows.All
import Wide.All
import OpenK.AllK
import Wide.FinOn
import HandS.ForMost
import HandS.Exc
import HandS.ExcInit
import HandS.ExcField
import HandS.ExcIs
import HandS.IsInst
import HandS.TryOnly
import KE.KExcIs
import PyProof.ReprRoads
import HandS.Lambda
import HandS.Codes
import HandS.EndTab
import HandS.ClsMeth
import HandS.OwnEq
import PyProof.InstEq
import HandS.HeadHook4
import HandS.Head2
import PySem.Challenge.RW_loopstow_k95_plan_texts_refused
import HandS.FStr
import HandS.StrMore
import HandS.WordsExc
import KE.KUnpackStar
import HandS.StrSplit
import HandS.RaiseMore
import HandS.Flow
import HandS.Defaults
import PyProof.StrLawsAffix
import HandS.Star
import HandS.SuiteRaise
import HandS.RaiseFrom
import HandS.ExcInitHot
import HandS.Deep
import HandS.Words
import KE.DataEq
import HandS.Walk
import HandS.Comp
import HandS.ExcOwn
import KE.GoesRaise
import KE.GoesEnum
import KE.GoesMore
import HandS.Style
import HandS.Text
import PyProof.Rows.StrRev
import PyProof.CallFns
import PyProof.ReprLen
import HandS.ExcValue
import HandS.More
set_option Elab.async false
set_option linter.all false
set_option maxRecDepth 100000
set_option maxHeartbeats 4000000
/-! Rules of my own: an error that is caught under a name and kept in a local name behind the suite; what is asked of it there. -/
namespace NX
open PySem PySem.Spec PyProof.Rows L2
/-- the kept error at a: its class, its dict -/
def Kept (a : Addr) (cls : Value) (d : Option Addr) : HO := .ext fun h => ∃ o vs, h.get? a = some o ∧ o.cls = cls ∧ o.dict = d ∧ o.data = .fields vs
theorem kept_ne {a b : Addr} {cls : Value} {d : Option Addr} : Kept a cls d ≠ .own b := fun z => by
  unfold Kept at z
  cases z
theorem kept_ok {P : Program} {w : World} {H : Hp} {h : Heap} {a : Addr} {cls : Value} {d : Option Addr} {o : Obj} {vs : Array Value} (e : h.get? a = some o) (z : Zc cls d o) (f : o.data = .fields vs) : ObjOk P w H h a (Kept a cls d) :=
  ⟨⟨o, vs, e, z.1, z.2, f⟩, ⟨o, e⟩, fun h1 h2 ⟨o1, w1, e1, r1⟩ k => ⟨o1, w1, k _ e1, r1⟩⟩
section
variable {X : Cx} {pins : List (Addr × Obj)} {σ : L2.St} {H : Hp} {s : Shared}
/-- an object that nobody tracks, and that is none of the entry's, is tracked from now on -/
theorem adopt {a : Addr} {cls : Value} {d : Option Addr} {o : Obj} {vs : Array Value} (I : Inv X ((a, o) :: pins) σ H s) (z : Zc cls d o) (f : o.data = .fields vs) (new : X.s_0.heap.get? a = none) (np : ∀ p ∈ X.pn ++ pins, p.1 ≠ a) :
    Inv X pins σ (upd H a (Kept a cls d)) s := by
  obtain ⟨ga, na, nL, nF, nC⟩ := I.pin (a, o) (List.mem_append_right _ List.mem_cons_self)
  have ga : s.heap.get? a = some o := ga
  have na : H a = none := na
  have B := I.base
  have nb : ∀ {b u}, X.s_0.heap.get? b = some u → b ≠ a := fun {b u} e q => by rw [q, new] at e; cases e
  refine ⟨I.ok, I.os, I.bare, ⟨B.keep, B.slot, fun b u e n hx => ?_, B.there, fun b xs e => ?_, fun b u v e => ?_, fun b ps e => ?_⟩, I.loc, I.cell, ?_, fun x c e => ?_, fun p hp => ?_, ?_, I.len⟩
  · rw [upd_ne (nb e)]
    exact B.free b u e n hx
  · have q := B.tups b xs e
    rw [upd_ne (ne_of_none q na)]
    exact q
  · have q := B.frzs b u v e
    rw [upd_ne (ne_of_none q na)]
    exact q
  · obtain ⟨more, q⟩ := B.tbls b ps e
    exact ⟨more, by rw [upd_ne (ne_of_none q na)]; exact q⟩
  · rw [upd_ne (Ne.symm nL)]
    exact I.free
  · obtain ⟨v, oc, e1, e2⟩ := I.cell x c e
    have hne : c ≠ a := fun q => by
      rw [q, ga] at e1
      cases e1
      exact nC _ e2
    rw [upd_ne hne]
    exact I.freeC x c e
  · have hp' : p ∈ X.pn ++ (a, o) :: pins := by
      rcases List.mem_append.mp hp with q | q
      · exact List.mem_append_left _ q
      · exact List.mem_append_right _ (List.mem_cons_of_mem _ q)
    obtain ⟨e1, e2, e3⟩ := I.pin p hp'
    exact ⟨e1, by rw [upd_ne (np p hp)]; exact e2, e3⟩
  · intro b u e
    by_cases hb : b = a
    · rw [hb, upd_same] at e
      cases e
      rw [hb]
      exact kept_ok ga z f
    · rw [upd_ne hb] at e
      exact (I.hok b u e).stay (fun _ _ _ q => q) (fun c q => by rw [upd_ne (ne_of_none q na)]; exact q) fun c xs q => by rw [upd_ne (ne_of_none q na)]; exact q
/-- what «except x as n: suite» wishes of an error of the body, if the error is kept: slot i is n's, the suite's ends see the kept error -/
def wKeep (K : PySem.W.Frag) (c : Value) (i : Nat) (ts : Addr → Value → Option Addr → TS) (Wout : WX) (D : Ends) : WX := fun cls d σ H =>
  ∃ b, PySem.W.exmOne K cls c = some b ∧ (b = false → Wout cls d σ H) ∧
    (b = true → ∀ a, H a = none → ts a cls d ⟨fun σ' H' => D.nx (σ'.set i none) (upd H' a (Kept a cls d)), fun v H' => D.rt v (upd H' a (Kept a cls d)), fun σ' H' => D.bk (σ'.set i none) (upd H' a (Kept a cls d)), fun σ' H' => D.ct (σ'.set i none) (upd H' a (Kept a cls d))⟩ (σ.set i (some (.ref a))) H)
end
section
variable {X : Cx} {x n : Str} {c : Value} {i : Nat} {body suite : List Stmt} {b₀ : Stmt} {np p1 p2 : Pos} {tb : WX → TS} {ts : Addr → Value → Option Addr → TS} {Wout : WX}
theorem ps_try_keep (hs : X.stack = X.env :: X.outer) (hf : X.env.frame = some X.env.locals) (hN : X.N.Nodup) (hi : X.N[i]? = some n) (hln : X.env.kindOf n = some .local) (hex : X.ex = []) (hc : Names X x c) (tk : Takes X Wout)
    (hb : ∀ (W : WX) (pn : List (Addr × Obj)) (xe : Value → Shared → Prop), Takes (X.tr pn xe) W → PassesOwn (model X.prog X.w) X.A X.env xe → PSs (X.tr pn xe) body (tb W))
    (hsu : ∀ (a : Addr) (oe : Obj) (cls : Value) (d : Option Addr) (pn : List (Addr × Obj)), Zc cls d oe → (∃ vs, oe.data = .fields vs) → PSs (X.suite a ((a, oe) :: pn)) (b₀ :: suite) (ts a cls d)) :
    PS X (.Try body [.ExceptHandler (some (.Name x np)) (some n) (b₀ :: suite) p1] [] [] p2) (fun D σ H => tb (wKeep X.K c i ts Wout D) D σ H) := by
  refine ⟨fun pins s σ H D I h => ?_⟩
  have ok := I.ok
  have frames : X.A.frames = some (X.env :: X.outer) := by rw [ok.frames, hs]
  -- the wish of the body: what the clause does with an error
  have caught : ∀ (u : Value) (s' : Shared), XE (X.tr (X.pn ++ pins) (fun e s₁ => wpAny (model X.prog X.w) X.A (noteFrame e X.env) (fun _ s₂ => wpAny (model X.prog X.w) X.A (setFlight e none) (fun _ s₃ =>
      wpAny (model X.prog X.w) X.A (handleBy e X.env [.ExceptHandler (some (.Name x np)) (some n) (b₀ :: suite) p1]) (SP X pins D) X.xe s₃) X.xe s₂) X.xe s₁)) (wKeep X.K c i ts Wout D) u s' →
      wpAny (model X.prog X.w) X.A (noteFrame u X.env) (fun _ s₂ => wpAny (model X.prog X.w) X.A (setFlight u none) (fun _ s₃ =>
        wpAny (model X.prog X.w) X.A (handleBy u X.env [.ExceptHandler (some (.Name x np)) (some n) (b₀ :: suite) p1]) (SP X pins D) X.xe s₃) X.xe s₂) X.xe s' := by
    intro u s' xx
    obtain ⟨a, B, sI, pins', σ', H', cls, d, rfl, J', nb, up, sky, na, os, ag, b, hb1, hno, hyes⟩ := xx
    have J : Inv X pins σ' H' sI := J'.ofTry ok
    have sky' : Sky B (X.env :: X.outer) a (Zc cls d) X.env.locals s'.heap := by rw [← hs]; exact sky
    refine Sky.land Zc.steady frames hf sky' fun h3 fl3 up3 => ?_
    obtain ⟨oe3, vs3, he3, hz3, hd3⟩ := fl3.there
    have Ba : B.get? a = none := fl3.2.1
    have aFr : a ∉ frs (X.env :: X.outer) := fun hm => by
      obtain ⟨_, o', e', hnf⟩ := fl3.2.2.1.mem hm
      rw [he3] at e'
      cases e'
      exact hnf _ hd3
    have aS : a ∉ frs X.stack := by rw [hs]; exact aFr
    have aI : sI.heap.get? a = none := by
      cases e : sI.heap.get? a with
      | none => rfl
      | some o =>
        have q := nb a o e aS
        rw [Ba] at q
        cases q
    have a0 : X.s_0.heap.get? a = none := by
      cases e : X.s_0.heap.get? a with
      | none => rfl
      | some o =>
        obtain ⟨o', q⟩ := J.base.there a o e (by rw [hex]; simp)
        rw [aI] at q
        cases q
    have aL : a ≠ X.env.locals := fun z => aFr (List.mem_filterMap.mpr ⟨X.env, List.mem_cons_self, by rw [hf, z]⟩)
    have aF : a ∉ X.fs := fun hm => by
      obtain ⟨e, he, q⟩ := List.mem_filterMap.mp hm
      exact aFr (List.mem_filterMap.mpr ⟨e, List.mem_cons_of_mem _ he, q⟩)
    have aP : ∀ p ∈ X.pn ++ pins, p.1 ≠ a := fun p hp z => by
      have q := (J.pin p hp).1
      rw [z, aI] at q
      cases q
    have J3 : Inv X pins σ' H' { s' with heap := h3 } := J.landed nb fl3.1 (up.trans up3) os ag
    have S3 := J3.suite he3 hd3 na aL aF
    refine wpAny_handleBy_cons (codeAny_handlers_test ?_) (by intro q; cases q)
    have cl3 : PySem.W.Looks (model X.prog X.w) h3 (typeOf (.ref a)) cls := fun A Q E s k q => wpAny_typeOf_ref (k _ _ he3) (by rw [hz3.1]; exact q)
    have match_ := PySem.W.exm_one (M := model X.prog X.w) J3.kIn cl3 hb1
    have names : ∀ {Q : Value → Shared → Prop} {E : Value → Shared → Prop}, Q c { s' with heap := h3 } → wpAny (model X.prog X.w) (X.A.mark (some (.ref a))) (eval (.Name x np) X.env) Q E { s' with heap := h3 } := fun {Q E} q => by
      obtain ⟨hg, hdb, hm | ⟨hm, hv, hnn⟩⟩ := hc
      · exact ld_glob (X := X.suite a ((a, oe3) :: (X.pn ++ pins))) S3 hg hm q hdb
      · exact ld_blt (X := X.suite a ((a, oe3) :: (X.pn ++ pins))) S3 hg hm hv q hnn hdb
    refine names (match_.here ?_)
    cases b with
    | false =>
      show wpAny _ X.A (handleBy (.ref a) X.env []) _ _ _
      refine wpAny_handleBy_nil ?_
      obtain ⟨_, _, _, oe, vs, T, _, _, he, _, hd, h1, _⟩ := id fl3
      unfold PySem.passOn
      refine wpAny_bind (wpAny_field he hd h1 ?_)
      rw [if_neg (show ¬ ((Value.ref T == Value.none) = true) from by simp)]
      have out : wpAny (model X.prog X.w) X.A (setFlight (.ref a) X.env.frame) (fun _ s4 => wpAny (model X.prog X.w) X.A (throw (.ref a) : Sem Flow) (SP X pins D) X.xe s4) X.xe { s' with heap := h3 } := by
        rw [hf]
        refine HandSPX.setFlight_upZ fl3 fun h4 hh4 up4 => wpAny_throw (tk _ _ ?_)
        exact ⟨a, B, sI, pins, σ', H', cls, d, rfl, J, nb, (up.trans up3).trans up4, .inr (.inr (by rw [hs]; exact hh4)), na, os, ag, hno rfl⟩
      first
        | exact wpAny_bind (wpAny_pure (wpAny_bind out))
        | exact wpAny_bind out
    | true =>
      refine codeAny_handlers_suite_as ?_
      refine HandSPX.lands_againZ fl3 fun h4 fl4 up4 => ?_
      obtain ⟨oe4, vs4, he4, hz4, hd4⟩ := fl4.there
      have J4 : Inv X pins σ' H' { s' with heap := h4 } := J.landed nb fl4.1 ((up.trans up3).trans up4) os ag
      have S4 := J4.suite he4 hd4 na aL aF
      refine store_ok (X := X.suite a ((a, oe4) :: (X.pn ++ pins))) (v := .ref a) S4 hN hi (.inl hln) rfl (fun s5 S5 => ?_) (.inr hln)
      refine wpAny_mono ((hsu a oe4 cls d (X.pn ++ pins) hz4 ⟨_, hd4⟩).run [] s5 _ H' _ S5 (hyes rfl a na)) (fun f s6 hsp => ?_) (fun _ _ z => False.elim z)
      -- behind the suite: the name goes, the error is kept
      have last : ∀ {σ6 : L2.St} {H6 : Hp} {Q : Shared → Prop}, Inv (X.suite a ((a, oe4) :: (X.pn ++ pins))) [] σ6 H6 s6 → (∀ s7, Inv X pins (σ6.set i none) (upd H6 a (Kept a cls d)) s7 → Q s7) →
          wpAny (model X.prog X.w) X.A (do bindName X.env n .none; unbindBehindTheSuite X.env n p1) (fun _ s7 => Q s7) X.xe s6 := fun {σ6 H6 Q} S6 hq => by
        have W6 : Inv X ((a, oe4) :: pins) σ6 H6 s6 := ⟨ok, S6.os, S6.bare, S6.base, S6.loc, S6.cell, S6.free, S6.freeC, fun p hp => S6.pin p (by
          rw [List.append_nil]
          rcases List.mem_append.mp hp with q | q
          · exact List.mem_cons_of_mem _ (List.mem_append_left _ q)
          · rcases List.mem_cons.mp q with q | q
            · rw [q]
              exact List.mem_cons_self
            · exact List.mem_cons_of_mem _ (List.mem_append_right _ q)), S6.hok, S6.len⟩
        exact gone_ok W6 hN hi hln fun s7 J7 => hq s7 (adopt J7 hz4 hd4 a0 aP)
      cases f with
      | next =>
        obtain ⟨σ6, H6, S6, q6⟩ := hsp
        exact last S6 fun s7 J7 => ⟨_, _, J7, q6⟩
      | brk =>
        obtain ⟨σ6, H6, S6, q6⟩ := hsp
        exact last S6 fun s7 J7 => ⟨_, _, J7, q6⟩
      | cont =>
        obtain ⟨σ6, H6, S6, q6⟩ := hsp
        exact last S6 fun s7 J7 => ⟨_, _, J7, q6⟩
      | ret u =>
        obtain ⟨v6, σ6, H6, S6, r6, q6⟩ := hsp
        exact last S6 fun s7 J7 => ⟨_, _, _, J7, r6, q6⟩
  refine wpAny_Try_except (wpAny_mono ((hb _ _ _ (fun u s' xx => caught u s' xx) PassesOwn.looking).run [] s σ H D (I.toTry _) h) (fun f s1 hsp => ?_) (fun e s1 he => he))
  cases f with
  | next =>
    obtain ⟨σ', H', J', q⟩ := hsp
    exact wpAny_execs_nil ⟨σ', H', J'.ofTry ok, q⟩
  | brk =>
    obtain ⟨σ', H', J', q⟩ := hsp
    exact ⟨σ', H', J'.ofTry ok, q⟩
  | cont =>
    obtain ⟨σ', H', J', q⟩ := hsp
    exact ⟨σ', H', J'.ofTry ok, q⟩
  | ret u =>
    obtain ⟨v, σ', H', J', r, q⟩ := hsp
    exact ⟨v, σ', H', J'.ofTry ok, r, q⟩
end
/-- isinstance(e, c) of a kept error -/
def rIsKept (K : PySem.W.Frag) : List V → Hp → VK → Prop := fun xs H Q => ∃ (a D : Addr) (d : Addr) (fs : List (Str × V)) (c : V) (u : Value) (b : Bool), xs = [.ref a, c] ∧ ClsV c u ∧ H a = some (Kept a (.ref D) (some d)) ∧ H d = some (.xd fs) ∧ ExcC K D ∧ PySem.W.kitOne K (.ref D) u = some b ∧ Q (.bl b) H
section
variable {X : Cx} {e : Expr} {te : TE} {pos : Pos} {n : Str} {C : Addr}
theorem inst_kept {pins : List (Addr × Obj)} {σ : L2.St} {H : Hp} {s : Shared} {a D d : Addr} {fs : List (Str × V)} (I : Inv X pins σ H s) (ha : H a = some (Kept a (.ref D) (some d))) (hd : H d = some (.xd fs)) :
    ∃ o od, PySem.W.InstAt s.heap a o D (some od) ∧ s.heap.get? d = some od ∧ ∃ mA, s.heap.Ns1 d mA ∧ (∀ f, RelO (fs.lookup f) (mA f)) := by
  have x : ObjOk X.prog X.w H s.heap a (.ext fun h => ∃ o vs, h.get? a = some o ∧ o.cls = .ref D ∧ o.dict = some d ∧ o.data = .fields vs) := I.hok a _ ha
  obtain ⟨⟨o, vs, e1, e2, e3, e4⟩, _, _⟩ := x
  obtain ⟨mA, hns, hr⟩ := (show ObjOk X.prog X.w H s.heap d (.xd fs) from I.hok d _ hd)
  obtain ⟨od, ho, _⟩ := lookIn_ns hns
  exact ⟨o, od, ⟨e1, e2, by unfold PySem.W.notCls; rw [e4] <;> rfl, by rw [e3]; exact ho⟩, ho, mA, hns, hr⟩
theorem call_isKept : CallR X (.builtin "isinstance") (rIsKept X.K) := by
  intro pins s σ H xs us Q I r h
  obtain ⟨a, D, d, fs, c, u, b, rfl, hc, ha, hd, E, k, q⟩ := h
  obtain ⟨u1, u2, rfl, r1, r2⟩ := vals2 r
  have e2 := hc.eq r2
  subst e2
  obtain rfl : u1 = Value.ref a := r1
  obtain ⟨o, od, J, _⟩ := inst_kept I ha hd
  have hcl : (PySem.W.clsIn X.K D).isSome = true := by
    have z := E.hd
    unfold PySem.W.hasDictIn at z
    cases q : PySem.W.clsIn X.K D with
    | some cd => rfl
    | none => rw [q] at z; cases z
  exact PySem.W.kia_one (PySem.W.kitx_exc hcl E.hg E.hk E.hs E.ha E.hn E.ht E.hm) I.kIn J k (fun z => nomatch z) fun tk => ⟨.bl b, H, I.tok tk, rfl, q⟩
/-- e.n of a kept error -/
def tKept (K : PySem.W.Frag) (n : Str) (te : TE) : TE := fun σ H Q => te σ H fun x H1 => ∃ (a D d : Addr) (fs : List (Str × V)) (v : V), x = .ref a ∧ H1 a = some (Kept a (.ref D) (some d)) ∧ H1 d = some (.xd fs) ∧ XfC K D ∧ PySem.W.findIn K (.ref D) n = some none ∧ fs.lookup n = some v ∧ Q v H1
theorem pe_kept (he : PE X e te) (hb : attributeBase e n X.env (eval e X.env) = eval e X.env := by rfl) : PE X (.Attribute e n pos) (tKept X.K n te) := by
  refine ⟨fun pins s σ H Q I h => attr_of hb (thn (he.run pins s σ H _ I h) fun u s1 ⟨x, H1, I1, rx, a, D, d, fs, v, ex, ha, hd, T, hno, l, q⟩ => ?_)⟩
  subst ex
  obtain rfl : u = Value.ref a := rx
  obtain ⟨o, od, J, ho, mA, hns, hr⟩ := inst_kept I1 ha hd
  obtain ⟨od', ho', hl⟩ := lookIn_ns hns
  rw [ho] at ho'
  cases ho'
  obtain ⟨y, hy, ry⟩ := RelO.some_of (v := v) (o := mA n) (by rw [← l]; exact hr n)
  exact HandSPX.exc_get I1.kIn J T.ga T.gg T.exC (PySem.W.findObj_own T.hdC hno rfl (by rw [hl, hy])) (handed_of ry) ⟨v, H1, I1.tok _, ry, q⟩
end
end NX

set_option Elab.async false
set_option linter.all false
set_option maxRecDepth 100000
set_option maxHeartbeats 4000000
/-! Rules of my own: the text that repr tells of made data, dicts in it too. -/
namespace NX
open PySem PySem.Spec PyProof.Rows L2
def keyD : Key → PyData
  | .inl i => .int i
  | .inr x => .str x
mutual
inductive Dr (K : PySem.W.Frag) (H : Hp) : V → PyData → Prop
  | non : Dr K H .non .none
  | bl (b : Bool) : Dr K H (.bl b) (.bool b)
  | int (i : Int) : Dr K H (.int i) (.int i)
  | str (x : Str) : Dr K H (.str x) (.str x)
  | lst {a : Addr} {xs : List V} {ds : List PyData} : SqL K H a xs → DrAll K H xs ds → Dr K H (.ref a) (.list ds)
  | tup {a : Addr} {xs : List V} {ds : List PyData} : SqT K H a xs → DrAll K H xs ds → Dr K H (.ref a) (.tuple ds)
  | dct {a : Addr} {kvs : List (Key × V)} {ds : List PyData} : H a = some (.dK kvs) → DrAll K H (kvs.map (·.2)) ds → Dr K H (.ref a) (.dict ((kvs.map fun p => keyD p.1).zip ds))
inductive DrAll (K : PySem.W.Frag) (H : Hp) : List V → List PyData → Prop
  | nil : DrAll K H [] []
  | cons {v : V} {vs : List V} {d : PyData} {ds : List PyData} : Dr K H v d → DrAll K H vs ds → DrAll K H (v :: vs) (d :: ds)
end
theorem DrAll.length {K : PySem.W.Frag} {H : Hp} : ∀ {vs : List V} {ds : List PyData}, DrAll K H vs ds → vs.length = ds.length
  | _, _, .nil => rfl
  | _, _, .cons _ t => congrArg (· + 1) t.length
/-- a dict stands at the place of the loaded modules -/
def SysB (h : Heap) : Prop := ∃ (o : Obj) (es : Array DictEntry) (ep : Nat), h.get? sysModules = some o ∧ o.data = .dict es ep
section
variable {X : Cx} {pins : List (Addr × Obj)} {σ : L2.St} {H : Hp} {s : Shared}
theorem key_reads {h : Heap} : ∀ {k : Key} {v : Value}, keyIs k v = true → Reads h v (keyD k) [] := fun {k v} e => by
  rcases keyIs_shape e with ⟨i, t, rfl, rfl⟩ | ⟨x, t, rfl, rfl⟩
  · exact Reads.int i t
  · exact Reads.str x t
theorem keys_read {h : Heap} {P : Program} {w : World} : ∀ {es : List DictEntry} {vs : List (Key × Value)}, Pairs (mixKind P w) es vs → ∃ as, ReadsAll h (es.map (·.key)) (vs.map fun p => keyD p.1) as ∧ as = [] ∧ es.map (·.val) = vs.map (·.2)
  | _, _, .nil => ⟨_, ReadsAll.nil, rfl, rfl⟩
  | _, _, .cons h1 h2 t => by
    obtain ⟨as, q, rfl, e⟩ := keys_read t
    exact ⟨_, ReadsAll.cons (key_reads h1) q, rfl, by rw [List.map_cons, List.map_cons, e, h2]⟩
theorem kv_vals : ∀ {ks : List (Key × V)} {vs : List (Key × Value)}, KV ks vs → Vals (ks.map (·.2)) (vs.map (·.2)) ∧ vs.map (fun p => keyD p.1) = ks.map (fun p => keyD p.1)
  | _, _, .nil => ⟨.nil, rfl⟩
  | _, _, .cons h t => by
    obtain ⟨q, e⟩ := kv_vals t
    exact ⟨.cons h.2 q, by rw [List.map_cons, List.map_cons, e, h.1]⟩
theorem zip_fst {α β : Type} : ∀ {l : List α} {m : List β}, l.length = m.length → (l.zip m).map (·.1) = l
  | [], [], _ => rfl
  | a :: l, b :: m, h => by rw [List.zip_cons_cons, List.map_cons, zip_fst (Nat.succ.inj h)]
theorem zip_snd {α β : Type} : ∀ {l : List α} {m : List β}, l.length = m.length → (l.zip m).map (·.2) = m
  | [], [], _ => rfl
  | a :: l, b :: m, h => by rw [List.zip_cons_cons, List.map_cons, zip_snd (Nat.succ.inj h)]
mutual
theorem Dr.reads (I : Inv X pins σ H s) (S : SysB X.base) : ∀ {v : V} {d : PyData}, Dr X.K H v d → ∀ (u : Value), RelV v u → ∃ as, Reads s.heap u d as ∧ sysModules ∉ as
  | _, _, .non, _, r => by
    cases r
    exact ⟨_, Reads.none, by simp⟩
  | _, _, .bl b, _, r => by
    cases r
    exact ⟨_, Reads.bool b, by simp⟩
  | _, _, .int i, _, r => by
    obtain ⟨t, rfl⟩ := r
    exact ⟨_, Reads.int i t, by simp⟩
  | _, _, .str x, _, r => by
    obtain ⟨t, rfl⟩ := r
    exact ⟨_, Reads.str x t, by simp⟩
  | _, _, .lst hs ha, _, r => by
    cases r
    obtain ⟨its, rv, ⟨o, n, ho, hc, _, hd⟩, _⟩ := I.list hs
    obtain ⟨as, hr, hn⟩ := DrAll.reads I S ha its rv
    refine ⟨_, Reads.list ho hc hd hr, fun hm => ?_⟩
    rcases List.mem_cons.mp hm with e | e
    · obtain ⟨o2, es2, ep2, k2, c2⟩ := S
      have q := (I.bs _ _ k2).1
      rw [e, ho] at q
      have q2 := Option.some.inj q
      rw [← q2, hd] at c2
      cases c2
    · exact hn e
  | _, _, .tup hs ha, _, r => by
    cases r
    obtain ⟨its, rv, ⟨o, ho, hc, n, hd⟩, _⟩ := I.tuple hs
    obtain ⟨as, hr, hn⟩ := DrAll.reads I S ha its rv
    exact ⟨_, Reads.tuple ho hc hd hr, hn⟩
  | _, _, @Dr.dct _ _ a kvs ds hs ha, _, r => by
    cases r
    obtain ⟨_, lo, vs, kv, o, es, ep, ho, hex, hd, _, hp, _⟩ := (show ObjOk X.prog X.w H s.heap a (.dK kvs) from I.hok a _ hs)
    obtain ⟨rv, ek⟩ := kv_vals kv
    obtain ⟨as, hr, hn⟩ := DrAll.reads I S ha _ rv
    obtain ⟨bs, hk, rfl, ev⟩ := keys_read (h := s.heap) hp
    have el : (kvs.map fun p => keyD p.1).length = ds.length := by
      rw [List.length_map, ← ha.length, List.length_map]
    refine ⟨_, Reads.dict ho hex.1 hd (as := []) (bs := as) (by rw [zip_fst el, ← ek]; exact hk) (by rw [zip_snd el, ev]; exact hr), fun hm => ?_⟩
    rcases List.mem_append.mp hm with e | e
    · rcases List.mem_cons.mp e with e | e
      · rw [← e] at lo
        simp at lo
      · simp at e
    · exact hn e
theorem DrAll.reads (I : Inv X pins σ H s) (S : SysB X.base) : ∀ {vs : List V} {ds : List PyData}, DrAll X.K H vs ds → ∀ (us : List Value), Vals vs us → ∃ as, ReadsAll s.heap us ds as ∧ sysModules ∉ as
  | _, _, .nil, _, r => by
    cases r
    exact ⟨_, ReadsAll.nil, by simp⟩
  | _, _, .cons h1 h2, _, r => by
    cases r with
    | cons r1 r2 =>
      obtain ⟨as, q1, n1⟩ := Dr.reads I S h1 _ r1
      obtain ⟨bs, q2, n2⟩ := DrAll.reads I S h2 _ r2
      exact ⟨_, ReadsAll.cons q1 q2, fun hm => (List.mem_append.mp hm).elim n1 n2⟩
end
/-- repr(x), x a list, a tuple or a dict -/
def rRepr (K : PySem.W.Frag) : List V → Hp → VK → Prop := fun xs H Q => ∃ (a : Addr) (d : PyData), xs = [.ref a] ∧ Dr K H (.ref a) d ∧ d.showable = true ∧ d.depth ≤ 50 ∧ d.shown.length ≤ sizeLine ∧ Q (.str d.shown) H
theorem call_repr (hg : X.A.guards = some []) (hu : X.A.units + 64 < cLine) (S : SysB X.base) : CallR X (.builtin "repr") (rRepr X.K) := by
  intro pins s σ H xs us Q I r h
  obtain ⟨a, d, rfl, hd, hs, hdp, hl, q⟩ := h
  cases r with
  | cons r1 r2 =>
    cases r2
    cases r1
    obtain ⟨as, hr, hn⟩ := Dr.reads I S hd _ rfl
    refine PySem.repr_of_reads' hr hs (fun _ => hn) hg (by omega) (fun _ _ e => e) (fun h' u tk k => ?_) hl
    exact ⟨.str d.shown, H, I.kept k, ⟨u, rfl⟩, q⟩
end
end NX

set_option Elab.async false
set_option linter.all false
set_option maxRecDepth 100000
set_option maxHeartbeats 4000000
/-! A def's promise where no repr is under way, and the call of such a def. -/
namespace NX
open PySem PySem.Spec PyProof.Rows L2
structure FnG (P : Program) (w : World) (K : PySem.W.Frag) (mg : Str → Option Value) (base : Heap) (k : Nat) (f : Addr) (fd : FuncData) (ps : List Str) (sp : Sp) : Prop where
  len : ∀ vs H Q E, sp vs H Q E → vs.length = ps.length
  run : ∀ (A : Around) (st : List Env) (s : Shared) (H : Hp) (args : Args) (us : List Value) (vs : List V) (Q : VK), A.guards = some [] → Room k A → Env0 P w K mg base A st s H → BindsTo s fd args (ps.zip us) → Vals vs us → sp vs H Q C8.E0 →
    codeAny (model P w) A (.call (.ref f) args) (CR C8.CX0 st P w H s Q C8.E0) s
section
variable {X : Cx} {k j : Nat} {f : Addr} {fd : FuncData} {ps : List Str} {sp : Sp} {x : Str} {p pos : Pos} {e : Expr} {es : List Expr} {t : TA}
theorem pe_callG (F : FnG X.prog X.w X.K X.mg X.base k f fd ps sp) (gd : X.A.guards = some []) (hr : Room j X.A) (hj : k ≤ j) (hg : Gl X x) (hm : X.mg x = some (.ref f)) (hk : PySem.W.keepIn X.K (.ref f) = true) (hb : Binds X.K fd ps []) (ha : PA X (e :: es) t)
    (hd : (x == ("__debug__" : Str)) = false := by decide) (he : starEach (e :: es) X.env = (false, eval e X.env) :: starEach es X.env := by rfl) (hpl : (backTo pos (starEach es X.env)).any (·.1) = false := by rfl) :
    PE X (.Call (.Name x p) (e :: es) [] pos) (tCall sp [] C8.E0 t) := by
  refine ⟨fun pins s σ H Q I h => wpAny_Call_Name_kw (ld_glob I hg hm ?_ hd)⟩
  refine PySem.W.callWith_K (h₀ := X.base) I.ok.mod.kin hk (thn (ha.run pos pins s σ H _ I h) fun us s1 ⟨vs, H1, I1, rv, q⟩ => ⟨I1.kIn, ?_⟩) he hpl
  have q : sp vs H1 Q C8.E0 := by simpa using q
  have hl : us.length = ps.length := by rw [← F.len _ _ _ _ q, rv.length]
  have bt := hb s1 us I1.kIn (by simpa using hl)
  refine wpAny_call (codeAny_mono (F.run X.A X.stack s1 H1 ⟨us, []⟩ us vs Q gd (hr.mono hj) I1.env0 (by simpa using bt) rv q) fun r s' hq => ?_)
  cases r with
  | error er => exact False.elim (show False from hq)
  | ok fl =>
    cases fl with
    | ret w => exact I1.after hq
    | next => exact False.elim hq
    | brk => exact False.elim hq
    | cont => exact False.elim hq
end
end NX

set_option Elab.async false
set_option linter.all false
set_option maxRecDepth 100000
set_option maxHeartbeats 4000000
/-! The end of a row whose law wants an empty guard (FnG), in my own words. -/
namespace NX
open PySem PySem.Spec PyProof.Rows L2 LamX
section
variable {P : Program} {w : World} {K : PySem.W.Frag} {mg mb : Str → Option Value} {k : Nat} {fa a : Addr} {cs : List (Addr × Addr)} {fd : FuncData} {x : Str} {sp : Sp} {z : Shared} {vs : List Value} {ns : List Int}
/-- what is tracked at first: the empty tables, and the script where it is not written -/
def trackd (K : PySem.W.Frag) (cs : List (Addr × Addr)) (a : Addr) (vs : List Value) (ns : List Int) : Hp := fun b =>
  if b ∈ cs.map (·.2) then some (.tbl #[]) else if b = a ∧ K.lookup a = none then some (.frz { cls := .type "list", data := .seq vs.toArray } (.lst (ns.map V.int))) else none
/-- the heap of the call, as the tracked one sees it -/
structure Start (P : Program) (w : World) (K : PySem.W.Frag) (cs : List (Addr × Addr)) (a : Addr) (vs : List Value) (ns : List Int) (z : Shared) : Prop where
  KX : K.In z.heap
  hT : ∀ p ∈ cs, z.heap.get? p.2 = some { cls := .none, data := .fields #[] }
  nT : ∀ p ∈ cs, K.lookup p.2 = none
  ha : z.heap.get? a = some { cls := .type "list", data := .seq vs.toArray }
  hi : IntsAre vs ns
  hl : ns.length ≤ sizeLine
theorem Start.tab (S : Start P w K cs a vs ns z) {b : Addr} (h : b ∈ cs.map (·.2)) : z.heap.get? b = some { cls := .none, data := .fields #[] } ∧ K.lookup b = none := by
  obtain ⟨p, hp, rfl⟩ := List.mem_map.mp h
  exact ⟨S.hT p hp, S.nT p hp⟩
theorem Start.ne (S : Start P w K cs a vs ns z) : a ∉ cs.map (·.2) := fun h => by
  have q := (S.tab h).1
  rw [S.ha] at q
  injection q with q
  injection q with q1 q2 q3
  cases q3
theorem Start.at_tab (S : Start P w K cs a vs ns z) : ∀ p ∈ cs, trackd K cs a vs ns p.2 = some (.tbl #[]) := fun p hp => if_pos (List.mem_map.mpr ⟨p, hp, rfl⟩)
theorem Start.sq (S : Start P w K cs a vs ns z) : SqL K (trackd K cs a vs ns) a (ns.map V.int) := by
  cases hk : K.lookup a with
  | none => exact .inl (.inr ⟨_, (if_neg S.ne).trans (if_pos ⟨rfl, hk⟩)⟩)
  | some o =>
    have e := S.KX a o hk
    rw [S.ha] at e
    cases e
    exact .inr ⟨_, vs.toArray, _, hk, rfl, rfl, rfl, by rw [List.size_toArray, S.hi.length]; exact S.hl, by simpa using vals_ints S.hi⟩
/-- a tracked place is a table, or the script -/
theorem Start.cases (S : Start P w K cs a vs ns z) {b : Addr} {u : HO} (h : trackd K cs a vs ns b = some u) : (b ∈ cs.map (·.2) ∧ u = .tbl #[]) ∨ (b = a ∧ K.lookup a = none ∧ u = .frz { cls := .type "list", data := .seq vs.toArray } (.lst (ns.map V.int))) := by
  unfold trackd at h
  split at h
  · rename_i hb
    exact .inl ⟨hb, (Option.some.inj h).symm⟩
  · split at h
    · rename_i hb
      exact .inr ⟨hb.1, hb.2, (Option.some.inj h).symm⟩
    · cases h
theorem Start.ok (S : Start P w K cs a vs ns z) : HOk P w (trackd K cs a vs ns) z.heap := fun b u h => by
  rcases S.cases h with ⟨hb, rfl⟩ | ⟨rfl, _, rfl⟩
  · exact (S.tab hb).1
  · exact ⟨S.ha, by rw [List.length_map]; exact S.hl, vs, _, vals_ints S.hi, S.ha⟩
/-- what is neither a list nor an empty row of fields is not tracked -/
theorem Start.off (S : Start P w K cs a vs ns z) {b : Addr} {o : Obj} (e : z.heap.get? b = some o) (h1 : ∀ us n, o.data ≠ .seq us n) (h2 : o.data ≠ .fields #[]) : trackd K cs a vs ns b = none := by
  cases q : trackd K cs a vs ns b with
  | none => rfl
  | some u =>
    rcases S.cases q with ⟨hb, _⟩ | ⟨rfl, _, _⟩
    · rw [(S.tab hb).1] at e
      cases e
      exact (h2 rfl).elim
    · rw [S.ha] at e
      cases e
      exact (h1 _ _ rfl).elim
theorem Start.kin (S : Start P w K cs a vs ns z) : K.In (hidT z.heap (trackd K cs a vs ns)) := fun b o e => hidT_get (S.KX b o e) (by
  cases q : trackd K cs a vs ns b with
  | none => rfl
  | some u =>
    rcases S.cases q with ⟨hb, _⟩ | ⟨rfl, hk, _⟩
    · rw [(S.tab hb).2] at e
      cases e
    · rw [hk] at e
      cases e)
theorem Start.ns_ (S : Start P w K cs a vs ns z) {b : Addr} {m : Str → Option Value} (h : z.heap.Ns b m) : (hidT z.heap (trackd K cs a vs ns)).Ns b m := by
  obtain ⟨o, es, ep, e, d, r⟩ := h
  exact ⟨o, es, ep, hidT_get e (S.off e (fun us n q => by rw [d] at q; cases q) (fun q => by rw [d] at q; cases q)), d, r⟩
theorem Start.mod (S : Start P w K cs a vs ns z) (hg : z.heap.Ns mainGlobals mg) (hb : z.heap.Ns builtinsNs mb) (hbb : ∀ y : Str, y ≠ "__name__" → mb y = bootBuiltins y) (lim : z.heap.NoLimit) : L2.Mod K mg (hidT z.heap (trackd K cs a vs ns)) :=
  ⟨S.kin, S.ns_ hg, ⟨mb, S.ns_ hb, hbb⟩, by obtain ⟨mc, h1, h2⟩ := lim; exact ⟨mc, S.ns_ h1, h2⟩⟩
theorem Start.tabB (S : Start P w K cs a vs ns z) (hg : z.heap.Ns mainGlobals mg) (C : ∀ p ∈ cs, PySem.W.CodeHd z.heap p.1 p.2)
    (hm : ∃ (bm : Addr) (ob : Obj), mg "__builtins__" = some (.ref bm) ∧ bm ≠ builtinsNs ∧ z.heap.get? bm = some ob ∧ ob.cls = .type "module" ∧ ob.dict = some builtinsNs ∧ ob.data = .plain) : ∀ p ∈ cs, TabB (hidT z.heap (trackd K cs a vs ns)) mg p.1 p.2 := fun p hp => by
  have tp := S.hT p hp
  have gne : ∀ {b : Addr} {o : Obj}, z.heap.get? b = some o → (∀ es ep, o.data ≠ .dict es ep) → b ≠ mainGlobals := fun {b o} e d q => by
    obtain ⟨og, es, ep, eg, dg, _⟩ := hg
    rw [q, eg] at e
    cases e
    exact d es ep dg
  refine ⟨?_, ?_, fun q => gne tp (by intro es ep h; cases h) q.symm⟩
  · obtain ⟨o, us, file, tf, flags, tg, inF, text, tt, e1, r⟩ := C p hp
    refine ⟨o, us, file, tf, flags, tg, inF, text, tt, hidT_get e1 (S.off e1 (fun vs n q => ?_) fun q => ?_), r⟩
    · rw [r.2.1] at q
      cases q
    · rw [r.2.1] at q
      cases q
      have q2 := r.2.2.1
      simp at q2
  · obtain ⟨bm, ob, b1, b2, b3, b4, b5, b6⟩ := hm
    refine ⟨bm, ob, b1, b2, gne b3 (by intro es ep h; rw [b6] at h; cases h), fun q => ?_, hidT_get b3 (S.off b3 (fun vs n q => by rw [b6] at q; cases q) (fun q => by rw [b6] at q; cases q)), b4, b5, b6⟩
    rw [q, tp] at b3
    cases b3
    cases b6
theorem Start.env (S : Start P w K cs a vs ns z) (hg : z.heap.Ns mainGlobals mg) (hb : z.heap.Ns builtinsNs mb) (hbb : ∀ y : Str, y ≠ "__name__" → mb y = bootBuiltins y) (lim : z.heap.NoLimit) (gs : z.gens = #[]) : Env0 P w K mg (hidT z.heap (trackd K cs a vs ns)) callerA [] z (trackd K cs a vs ns) :=
  ⟨rfl, S.mod hg hb hbb lim, fun b o e => of_hidT e, Nat.le_of_eq (hidT_size _ _), trivial, fun b q => absurd (show b ∈ ([] : List Addr) from q) (by simp), S.ok, .of_eq gs⟩
theorem Start.sys (S : Start P w K cs a vs ns z) (h : SysB z.heap) : SysB (hidT z.heap (trackd K cs a vs ns)) := by
  obtain ⟨o, es, ep, e, d⟩ := h
  exact ⟨o, es, ep, hidT_get e (S.off e (fun us n q => by rw [d] at q; cases q) (fun q => by rw [d] at q; cases q)), d⟩
/-- the call of the law: it tells True, and what stood stands -/
theorem endG (S : Start P w K cs a vs ns z) (hg : z.heap.Ns mainGlobals mg) (hb : z.heap.Ns builtinsNs mb) (hbb : ∀ y : Str, y ≠ "__name__" → mb y = bootBuiltins y) (lim : z.heap.NoLimit) (gs : z.gens = #[]) (C : ∀ p ∈ cs, PySem.W.CodeHd z.heap p.1 p.2)
    (hm : ∃ (bm : Addr) (ob : Obj), mg "__builtins__" = some (.ref bm) ∧ bm ≠ builtinsNs ∧ z.heap.get? bm = some ob ∧ ob.cls = .type "module" ∧ ob.dict = some builtinsNs ∧ ob.data = .plain) (hr : Room k callerA) (hs : SysB z.heap)
    (F : ∀ base : Heap, K.In base → base.Ns mainGlobals mg → (∀ p ∈ cs, TabB base mg p.1 p.2) → SysB base → FnG P w K mg base k fa fd [x] sp) (bind : ∀ (t : Shared) (u : Value), BindsTo t fd ⟨[u], []⟩ [(x, u)])
    (ask : ∀ H : Hp, (∀ p ∈ cs, H p.2 = some (.tbl #[])) → SqL K H a (ns.map V.int) → sp [.ref a] H (fun v _ => v = .bl true) C8.E0) :
    codeAny (model P w) callerA (.call (.ref fa) ⟨[.ref a], []⟩) (fun r t => r = .ok (.ret (.bool true)) ∧ OldK z.heap t.heap ∧ t.os = z.os ∧ AllBare t.gens) z := by
  refine codeAny_mono ((F _ S.kin (S.ns_ hg) (S.tabB hg C hm) (S.sys hs)).run callerA [] z _ ⟨[.ref a], []⟩ [.ref a] [.ref a] _ rfl hr (S.env hg hb hbb lim gs) (bind z (.ref a)) (.cons rfl .nil) (ask _ S.at_tab S.sq)) fun r t h => ?_
  cases r with
  | error e => exact False.elim (show False from h)
  | ok fl =>
    cases fl with
    | next => exact False.elim h
    | brk => exact False.elim h
    | cont => exact False.elim h
    | ret u =>
      obtain ⟨v, H', os, bare, un, ok', ru, q⟩ := h
      have q : v = .bl true := q
      subst q
      obtain rfl : u = Value.bool true := ru
      have kept : ∀ b o, b ∉ cs.map (·.2) → z.heap.get? b = some o → t.heap.get? b = some o := fun b o nb e => by
        cases y : trackd K cs a vs ns b with
        | none => exact un.keep b o e y (by intro n; exact absurd (show b ∈ ([] : List Addr) from n) (by simp)) (by simp)
        | some u =>
          rcases S.cases y with ⟨hb, _⟩ | ⟨rfl, _, rfl⟩
          · exact absurd hb nb
          · obtain ⟨e2, _⟩ := ok' _ _ (un.frzs _ _ _ y)
            rw [S.ha] at e
            cases e
            exact e2
      have grow : ∀ p ∈ cs, ∃ more : Array Value, t.heap.get? p.2 = some { cls := .none, data := .fields more } := fun p hp => by
        obtain ⟨more, y⟩ := un.tbls p.2 #[] (S.at_tab p hp)
        exact ⟨_, ok' p.2 _ y⟩
      refine ⟨rfl, ⟨fun b o e => ?_, fun b o e => ?_⟩, os, bare⟩
      · by_cases hb : b ∈ cs.map (·.2)
        · obtain ⟨p, hp, rfl⟩ := List.mem_map.mp hb
          obtain ⟨more, hmo⟩ := grow p hp
          rw [S.hT p hp] at e
          cases e
          exact .inr (.inl ⟨((C p hp).tab (S.hT p hp)).isCodeTable, rfl, #[], more, rfl, by rw [Array.empty_append]; exact hmo⟩)
        · exact .inl (kept b o hb e)
      · by_cases hb : b ∈ cs.map (·.2)
        · obtain ⟨p, hp, rfl⟩ := List.mem_map.mp hb
          obtain ⟨more, hmo⟩ := grow p hp
          exact ⟨_, hmo⟩
        · exact ⟨o, kept b o hb e⟩
end
/-- what the head has to tell of the law at fa -/
structure LawG (l : PySem.W.OpenLaw) (w : World) (K : PySem.W.Frag) (k n : Nat) (x : Str) (mg : Str → Option Value) (fa : Addr) (h : Heap) (fd : FuncData) (cs : List (Addr × Addr)) (sp : Sp) : Prop where
  hT : ∀ p ∈ cs, h.get? p.2 = some { cls := .none, data := .fields #[] }
  nT : ∀ p ∈ cs, K.lookup p.2 = none
  C : ∀ p ∈ cs, PySem.W.CodeHd h p.1 p.2
  bind : ∀ (t : Shared) (u : Value), BindsTo t fd ⟨[u], []⟩ [(x, u)]
  ask : ∀ (H : Hp) (a : Addr) (ns : List Int), ns.length ≤ n → (∀ p ∈ cs, H p.2 = some (.tbl #[])) → SqL K H a (ns.map V.int) → sp [.ref a] H (fun v _ => v = .bl true) C8.E0
  F : ∀ base : Heap, K.In base → base.Ns mainGlobals mg → (∀ p ∈ cs, TabB base mg p.1 p.2) → SysB base → FnG l.prog w K mg base k fa fd [x] sp
theorem walkG {l : PySem.W.OpenLaw} {n k : Nat} {q : Program} {loose : List Str} {XP : (Str → Option Value) → Heap → Prop} {YP : World → Heap → Prop} {d : DefRec} {K : Params → PySem.W.Frag} {x : Str} (hn : l.most = some n) (hn2 : n ≤ sizeLine) (hdf : d.params.defaults = []) (hr : Room k callerA) (hi : importsNone q = true)
    (hY : ∀ (w : World) (h : Heap), YP w h → (K w.params).In h) (G : ∀ (w : World) (mg : Str → Option Value) (fa : Addr) (h : Heap), YP w h → (K w.params).In h → h.Ns mainGlobals mg → mg d.name = some (.ref fa) → ∃ fd cs sp, LawG l w (K w.params) k n x mg fa h fd cs sp) :
    PySem.W.WalkO q loose XP YP l.row.toRowW d [] (fun f vs => PySem.call f vs) := by
  refine Att.attach_callB hn hdf fun w s₀ s₁ mg mb fa o pm cd doc a vs ns T Y ho hd hcd hmg hobj hints hlen hbits hgen => ?_
  have KX := hY w _ Y
  obtain ⟨fd, cs, sp, L⟩ := G w mg fa _ Y KX T.T.g hmg
  exact endG ⟨KX, L.hT, L.nT, hobj, hints, Nat.le_trans hlen hn2⟩ T.T.g T.T.b T.T.builtins T.T.nolimit hgen L.C T.T.bmain hr (by obtain ⟨mm, ⟨o, es, ep, e, d, _⟩, _⟩ := (T.T.seer hi).mods; exact ⟨o, es, ep, e, d⟩) L.F L.bind (fun H h1 h2 => L.ask H a ns hlen h1 h2)
end NX

set_option Elab.async false
set_option linter.all false
set_option maxRecDepth 100000
set_option maxHeartbeats 4000000
/-! A rule of my own: C.m(k=e, ..), m a classmethod, by keywords alone. -/
namespace NX
open PySem PySem.Spec PyProof.Rows L2
section
variable {X : Cx} {CX : CXT} {k : Nat} {C p g : Addr} {mc : Value} {sp : Sp} {E : XK} {o : Expr} {kws : List Keyword} {m : Str} {pos apos : Pos} {ta : TE} {t : TA} {pl : Sem Bool} {fd : FuncData} {ps ks : List Str}
theorem pe_cmethK (he : PE X o ta) (r : ClX.CRead X.K C mc) (c : ClX.CMet X.K C mc m p g) (F : FnOk X.prog X.w X.K X.mg X.base CX k g fd ps sp) (hb : ∀ (s : Shared) (us : List Value), us.length + 1 = ps.length → BindsTo s fd ⟨[.ref C], ks.zip us⟩ (ps.zip (.ref C :: us)))
    (hr : Room k X.A) (hx : Passes CX X E) (ha : PK X kws t) (hall : (backToKw pos (keywordEach kws X.env)).all (·.1.isSome) = true := by rfl) (hks : (backToKw pos (keywordEach kws X.env)).filterMap (·.1) = ks := by rfl)
    (hpl : ((backTo pos (starEach [] X.env)).any (·.1) || (backToKw pos (keywordEach kws X.env)).any (·.1.isNone)) = false := by rfl)
    (ht : eval (.Call (.Attribute o m apos) [] kws pos) X.env = (do
      let ov ← eval o X.env
      standAt apos.atName
      let (f, first) ← holding [ov] (getMethod ov m pl)
      callWith pos f first (backTo pos (starEach [] X.env)) (backToKw pos (keywordEach kws X.env))) := by rfl) :
    PE X (.Call (.Attribute o m apos) [] kws pos) (ClX.tCMeth C sp E ta t) := by
  refine ⟨fun pins s σ H Q I h => PySem.W.methodCall_KW (pl := pl) (thn (he.run pins s σ H _ I h) fun u s1 ⟨x, H1, I1, rx, ex, q⟩ => ?_) ht⟩
  subst ex
  obtain rfl : u = Value.ref C := rx
  refine ClX.getmethcm_ok I1 r c fun s2 I2 => ?_
  refine PySem.W.callWith_of hpl (PySem.W.keeps_M (K := X.K) (self := .ref C) c.fi) (PyProof.Rows.evalArgs_kw2_nil hall (thn (ha.run pos _ s2 σ H1 _ I2 q) fun us s3 ⟨vs, H2, I3, rv, q2⟩ => ⟨⟨ClX.pin_at I3, I3.kIn⟩, ?_⟩))
  rw [hks]
  have r2 : Vals (V.ref C :: vs) (Value.ref C :: us) := .cons rfl rv
  have hl : us.length + 1 = ps.length := by
    have z := F.len _ _ _ _ q2
    rw [← z, r2.length]
    rfl
  have z : wpAny (model X.prog X.w) X.A (call (.ref s1.heap.objs.size) ([] ++ []) (ks.zip us)) (EP X ((s1.heap.objs.size, PySem.W.methodObj (.ref g) (.ref C)) :: pins) σ Q) X.xe s3 := by
    refine wpAny_call (PySem.W.method_call (ClX.pin_at I3) (codeAny_mono (F.run X.A X.stack s3 H2 ⟨[.ref C], ks.zip us⟩ (.ref C :: us) (.ref C :: vs) Q E hr I3.env0 (hb s3 us hl) r2 q2) fun r s' hq => ?_))
    cases r with
    | error er => exact hx _ σ H2 s3 er s' I3 hq
    | ok fl =>
      cases fl with
      | ret w => exact I3.after hq
      | next => exact False.elim hq
      | brk => exact False.elim hq
      | cont => exact False.elim hq
  exact thn z fun _ _ y => ClX.unpinE y
end
end NX

set_option Elab.async false
set_option linter.all false
set_option maxRecDepth 100000
set_option maxHeartbeats 4000000
/-! Rules of my own: == and != of an object whose class has an own equality; any answer, any other side. -/
namespace NX
open PySem PySem.Spec PyProof.Rows L2
/-- what the class at C says of == and != -/
structure EqC (K : PySem.W.Frag) (C f : Addr) : Prop where
  cl : Cls K C
  eq : PySem.W.findIn K (.ref C) "__eq__" = some (some (.ref f))
  ne : PySem.W.findIn K (.ref C) "__ne__" = some (some (.builtin "object.__ne__"))
  fn : PySem.W.isFn K (.ref f) = true
  ob : PySem.W.mroIn K C (.type "object") = some true
section
variable {X : Cx} {n : Nat} {f : Addr} {fd : FuncData} {ps : List Str} {sp : Sp} {CX : CXT} {E : XK}
/-- the own equality is called by the machine -/
theorem run_own (F : FnOk X.prog X.w X.K X.mg X.base CX n f fd ps sp) (hb : Binds X.K fd ps []) (hx : Passes CX X E) {A : Around} {pins : List (Addr × Obj)} {σ : L2.St} {H : Hp} {s : Shared} {x y : V} {u v : Value} {Q : VK}
    (sb : Sub X n A) (I : Inv X pins σ H s) (rx : RelV x u) (ry : RelV y v) (q : sp [x, y] H Q E) : wpAny (model X.prog X.w) A (call (.ref f) [u, v]) (EP X pins σ Q) X.xe s := by
  have e := I.env0
  have e0 : Env0 X.prog X.w X.K X.mg X.base A X.stack s H := ⟨by rw [sb.fr]; exact e.frames, e.mod, e.bs, e.bsz, e.funs, e.frf, e.hok, e.bare⟩
  have hl : [u, v].length = ps.length := (F.len _ _ _ _ q)
  have r2 : Vals [x, y] [u, v] := .cons rx (.cons ry .nil)
  refine wpAny_call (codeAny_mono (F.run A X.stack s H ⟨[u, v], []⟩ [u, v] [x, y] Q E sb.room e0 (by
    have z := hb s [u, v] I.kIn (by simpa using hl)
    simpa using z) r2 q) fun r s' hq => ?_)
  cases r with
  | error er => exact hx pins σ H s er s' I hq
  | ok fl =>
    cases fl with
    | ret w => exact I.after hq
    | next => exact False.elim hq
    | brk => exact False.elim hq
    | cont => exact False.elim hq
def rOwn (K : PySem.W.Frag) (f : Addr) (sp : Sp) (E : XK) (neg : Bool) : R2 := fun x y H Q => ∃ (a C dx : Addr) (fs : List (Str × V)) (tb : Value), x = .ref a ∧ H a = some (.ins C dx fs) ∧ EqC K C f ∧ PySem.W.notFirst K C tb = true ∧ TyX K H y tb ∧
  sp [x, y] H (fun v H' => ∃ b, v = .bl b ∧ Q (.bl (if neg then !b else b)) H') E
theorem op_eqOwn (F : FnOk X.prog X.w X.K X.mg X.base CX n f fd ps sp) (hb : Binds X.K fd ps []) (hx : Passes CX X E) (hr : Room n X.A) : OpR X (compareOp .Eq) (rOwn X.K f sp E false) := by
  intro pins s σ H x y u v Q I rx ry h
  obtain ⟨a, C, dx, fs, tb, rfl, ha, T, nf, ty, q⟩ := h
  obtain rfl : u = Value.ref a := rx
  obtain ⟨mA, O, _⟩ := ins_get I.hok ha
  obtain ⟨od, J, _⟩ := O.look
  obtain ⟨m, fr⟩ := I.fr
  obtain ⟨P, Z, p, _⟩ := kit_of I ry ty
  show wpAny (model X.prog X.w) X.A (richCompare .Eq (.ref a) v) (EP X pins σ Q) X.xe s
  refine PySem.W.cmp_K (op := .Eq) (tb := tb) hr.units0 fr I.ok.mod.kin J (Z.ty _ _ I.kIn p) nf T.eq T.fn ?_
  refine wpAny_mono (run_own (x := .ref a) F hb hx ⟨hr, rfl⟩ I rfl ry q) (fun r s' hq => ?_) fun _ _ z => z
  obtain ⟨w, H', I', rw', b, rfl, q'⟩ := hq
  obtain rfl : r = Value.bool b := rw'
  exact ⟨.bl b, H', I', rfl, q'⟩
end
end NX
namespace NX
open PySem PySem.W PyProof.Rows Builtin
section
variable {prog : Program} {w : World} {A : Around} {E : Value → Shared → Prop} {s : Shared} {K : Frag} {x C f : Addr} {ox : Obj} {od : Option Obj} {b tb : Value}
/-- object.__ne__ found by the class is bound and called -/
theorem bound_ne {M : Model} {args : List Value} {Q : Option Value → Shared → Prop} (X : K.In s.heap) (I : InstAt s.heap x ox C od) (hs : findIn K (.ref C) "__ne__" = some (some (.builtin "object.__ne__")))
    (h : wpAny M A (call (.builtin "object.__ne__") (.ref x :: args)) (fun v => Q (some v)) E s) : wpAny M A (callSpecialIfBound? (.ref x) "__ne__" args) Q E s := by
  simp only [callSpecialIfBound?, bindSpecialIfBound?]
  refine wpAny_holding (wpAny_bind (wpAny_bind (wpAny_bind (I.type.here ((looks_findIn X hs).here ?_)))))
  simp only [F.cmp_object.ne.bind]
  have last : wpAny M A (call (.builtin "object.__ne__") ([.ref x] ++ args) >>= fun v => pure (some v)) Q E s := wpAny_bind (wpAny_mono h (fun v s' q => wpAny_pure q) fun _ _ q => q)
  refine wpAny_bind (wpAny_askSetting (wpAny_ite ?_))
  split
  · exact wpAny_bind (wpAny_pure (wpAny_pure last))
  · exact wpAny_tryCatch (wpAny_bind (wpAny_pure (wpAny_pure last)))
/-- .. and asks the own equality, whose answer it turns -/
theorem call_ne {Q : Value → Shared → Prop} (hu : A.units + 1 < cLine) (X : K.In s.heap) (I : InstAt s.heap x ox C od) (he : findIn K (.ref C) "__eq__" = some (some (.ref f))) (hf : isFn K (.ref f) = true) (ho : mroIn K C (.type "object") = some true)
    (h : wpAny (model prog w) A.in1 (call (.ref f) [.ref x, b]) (fun v s' => ∃ k, v = .bool k ∧ Q (.bool (!k)) s') E s) : wpAny (model prog w) A (call (.builtin "object.__ne__") [.ref x, b]) Q E s := by
  obtain ⟨hp, g, d, t, os⟩ := s
  have sub : Looks (model prog w) hp (isInstance (.ref x) (.type "object")) true := I.type.andThen (looks_mroIn X ho)
  refine wpAny_call (codeAny_call_builtin F.cmp_object.ne.plain F.cmpEntry_ne (@check_slot (model prog w) _ _ ⟨hp, g, d, t, os⟩ "object.__ne__" "object" "__ne__" (.ref x) [b] [] _ F.cmpKind_ne F.cmpSplit_ne sub (F.cmpArgs_ne _ _) ?_))
  unfold Builtin.«object.__ne__»
  repeat (first
    | with_reducible refine wpAny_cRoomFor (show A.in1.units < cLine from hu) ?_
    | (refine wpAny_bind (m := callSpecialIfBound? (.ref x) (Str.ofString "__eq__") [b]) (ifBound_K X I he hf (wpAny_mono h (fun r s' hr => ?_) fun _ _ e => e)))
    | wp_step)
  obtain ⟨k, rfl, q⟩ := hr
  exact wpAny_bind (wpAny_truthy_bool (wpAny_pure q))
/-- x != b -/
theorem rich_ne {Q : Value → Shared → Prop} (hu : A.units + 1 < cLine) (X : K.In s.heap) (I : InstAt s.heap x ox C od) (hb : Looks (model prog w) s.heap (typeOf b) tb) (hn : notFirst K C tb = true) (hs : findIn K (.ref C) "__ne__" = some (some (.builtin "object.__ne__")))
    (he : findIn K (.ref C) "__eq__" = some (some (.ref f))) (hf : isFn K (.ref f) = true) (ho : mroIn K C (.type "object") = some true)
    (h : wpAny (model prog w) A.in1 (call (.ref f) [.ref x, b]) (fun v s' => ∃ k, v = .bool k ∧ Q (.bool (!k)) s') E s) : wpAny (model prog w) A (richCompare .NotEq (.ref x) b) Q E s := by
  have one : wpAny (model prog w) A (tryCompare (.ref x) "__ne__" b) (fun r s' => ∃ k, r = some (.bool k) ∧ Q (.bool k) s') E s := by
    unfold tryCompare
    refine wpAny_bind (bound_ne X I hs (call_ne (Q := fun v s' => ∃ k, v = .bool k ∧ Q (.bool k) s') hu X I he hf ho (wpAny_mono h (fun v s' ⟨k, e, q⟩ => ⟨k, e, _, rfl, q⟩) fun _ _ e => e) |> fun z => wpAny_mono z (fun v s' ⟨k, e, q⟩ => ?_) fun _ _ e => e))
    subst e
    exact wpAny_pure ⟨k, rfl, q⟩
  unfold richCompare
  simp only [oneThing_ref]
  refine wpAny_holding (wpAny_bind (wpAny_cRoomFor (Nat.lt_of_succ_lt hu) ?_))
  rw [cmpInfo_NotEq]
  dsimp only
  refine wpAny_bind (I.type.here (wpAny_bind (hb.here ?_)))
  split
  · rename_i q
    have e : subIn K tb (.ref C) = some false := by
      rcases Bool.or_eq_true_iff.mp hn with e | e
      · rw [beq_iff_eq.mp e] at q
        simp at q
      · exact beq_iff_eq.mp e
    refine wpAny_bind ((looks_subIn X e).here ?_)
    simp only [Bool.false_eq_true, if_false]
    refine wpAny_bind (wpAny_mono one (fun r s' ⟨k, z, hq⟩ => ?_) fun _ _ e => e)
    subst z
    exact wpAny_pure hq
  · refine wpAny_bind (wpAny_pure ?_)
    simp only [Bool.false_eq_true, if_false]
    refine wpAny_bind (wpAny_mono one (fun r s' ⟨k, z, hq⟩ => ?_) fun _ _ e => e)
    subst z
    exact wpAny_pure hq
end
end NX
namespace NX
open PySem PySem.Spec PyProof.Rows L2
section
variable {X : Cx} {n : Nat} {f : Addr} {fd : FuncData} {ps : List Str} {sp : Sp} {CX : CXT} {E : XK}
theorem op_neOwn (F : FnOk X.prog X.w X.K X.mg X.base CX n f fd ps sp) (hb : Binds X.K fd ps []) (hx : Passes CX X E) (hr : Room (n + 1) X.A) : OpR X (compareOp .NotEq) (rOwn X.K f sp E true) := by
  intro pins s σ H x y u v Q I rx ry h
  obtain ⟨a, C, dx, fs, tb, rfl, ha, T, nf, ty, q⟩ := h
  obtain rfl : u = Value.ref a := rx
  obtain ⟨mA, O, _⟩ := ins_get I.hok ha
  obtain ⟨od, J, _⟩ := O.look
  obtain ⟨P, Z, p, _⟩ := kit_of I ry ty
  show wpAny (model X.prog X.w) X.A (richCompare .NotEq (.ref a) v) (EP X pins σ Q) X.xe s
  refine rich_ne (hu_of hr) I.kIn J (Z.ty _ _ I.kIn p) nf T.ne T.eq T.fn T.ob (wpAny_mono (run_own (x := .ref a) F hb hx ⟨hr.in1, rfl⟩ I rfl ry q) (fun r s' hq => ?_) fun _ _ z => z)
  obtain ⟨w, H', I', rw', b, rfl, q'⟩ := hq
  obtain rfl : r = Value.bool b := rw'
  exact ⟨b, rfl, .bl (!b), H', I', rfl, q'⟩
end
end NX

set_option Elab.async false
set_option linter.all false
set_option maxRecDepth 100000
set_option maxHeartbeats 4000000
/-! What the head tells of classes, errors and defs, in bundles. -/
namespace NX
open PySem L2 LamX PySem.Spec PyProof.Rows
section
variable {K : PySem.W.Frag}
theorem kit_self {C : Addr} : PySem.W.kitOne K (.ref C) (.ref C) = some true := by
  unfold PySem.W.kitOne
  rw [if_pos (beq_self_eq_true _)]
theorem kitCls_of {t : Value} {D : Addr} {b : Bool} (i : PySem.W.isClsIn K D = true) (ty : PySem.W.typeIn K (.ref D) = some (.type "type")) (s : PySem.W.subIn K t (.ref D) = some b) : PySem.W.kitCls K t (.ref D) = some b := by
  have e : ((PySem.W.clsIn K D).isSome && PySem.W.typeIn K (.ref D) == some (.type "type")) = true := by
    have i' : (PySem.W.clsIn K D).isSome = true := i
    rw [i', ty] <;> rfl
  show (if ((PySem.W.clsIn K D).isSome && PySem.W.typeIn K (.ref D) == some (.type "type")) = true then PySem.W.subIn K t (.ref D) else none) = some b
  rw [if_pos e]
  exact s
theorem kit_of {t : Value} {D : Addr} {b : Bool} (ne : (t == .ref D) = false) (i : PySem.W.isClsIn K D = true) (ty : PySem.W.typeIn K (.ref D) = some (.type "type")) (s : PySem.W.subIn K t (.ref D) = some b) : PySem.W.kitOne K t (.ref D) = some b := by
  unfold PySem.W.kitOne
  rw [if_neg (by rw [ne]; exact Bool.false_ne_true)]
  exact kitCls_of i ty s
theorem kit_ref {C D : Addr} {b : Bool} (ne : decide (C = D) = false) (i : PySem.W.isClsIn K D = true) (ty : PySem.W.typeIn K (.ref D) = some (.type "type")) (s : PySem.W.subIn K (.ref C) (.ref D) = some b) : PySem.W.kitOne K (.ref C) (.ref D) = some b :=
  kit_of (by
    have n : C ≠ D := of_decide_eq_false ne
    cases q : ((.ref C : Value) == .ref D) with
    | false => rfl
    | true =>
      have z : (Value.ref C) = .ref D := eq_of_beq q
      cases z
      exact absurd rfl n) i ty s
theorem kit_tyr {T : String} {D : Addr} {b : Bool} (i : PySem.W.isClsIn K D = true) (ty : PySem.W.typeIn K (.ref D) = some (.type "type")) (s : PySem.W.subIn K (.type T) (.ref D) = some b) : PySem.W.kitOne K (.type T) (.ref D) = some b :=
  kit_of (by
    cases q : ((.type T : Value) == .ref D) with
    | false => rfl
    | true =>
      have z : (Value.type T) = .ref D := eq_of_beq q
      cases z) i ty s
theorem kit_rty {T : String} {C : Addr} {b : Bool} (m : PySem.W.kitMeta T = true) (s : PySem.W.subIn K (.ref C) (.type T) = some b) : PySem.W.kitOne K (.ref C) (.type T) = some b := by
  have ne : ((.ref C : Value) == .type T) = false := by
    cases q : ((.ref C : Value) == .type T) with
    | false => rfl
    | true =>
      have z : (Value.ref C) = .type T := eq_of_beq q
      cases z
  unfold PySem.W.kitOne
  rw [if_neg (by rw [ne]; exact Bool.false_ne_true)]
  show (if PySem.W.kitMeta T = true then PySem.W.subIn K (.ref C) (.type T) else none) = some b
  rw [if_pos m]
  exact s
theorem exm_of {C S : Addr} {b : Bool} (h1 : PySem.W.subIn K (.ref S) (.type "BaseException") = some true) (i : PySem.W.isClsIn K S = true) (ty : PySem.W.typeIn K (.ref S) = some (.type "type")) (s : PySem.W.subIn K (.ref C) (.ref S) = some b) : PySem.W.exmOne K (.ref C) (.ref S) = some b := by
  have e1 : (PySem.W.subIn K (.ref S) (.type "BaseException") == some true) = true := by rw [h1] <;> rfl
  show (if (PySem.W.subIn K (.ref S) (.type "BaseException") == some true) = true then PySem.W.kitCls K (.ref C) (.ref S) else none) = some b
  rw [if_pos e1]
  exact kitCls_of i ty s
/-- a def as it stands in the written part -/
structure FnF (K : PySem.W.Frag) (x q : Str) (st : Stmt) (f : Addr) : Prop where
  ex : ∃ fd, Fun K x q st f fd
theorem fnF {x q : Str} {st : Stmt} {f : Addr} {oc : Value} {od an : Option Addr} {osl : Array (Option Value)} {kV doc pm cdv ct : Value} (l : K.lookup f = some ⟨oc, od, .func (PySem.W.fnOf x q (defArgs st) (defBody st) (defScope st) .none kV doc pm an cdv ct), osl⟩)
    (c : PySem.W.codeIn K cdv q = true) (k : PySem.W.keepIn K (.ref f) = true) : FnF K x q st f := ⟨⟨_, fun_mk l c k⟩⟩
/-- a def of ours, with its code object -/
structure FunC (K : PySem.W.Frag) (x : Str) (st : Stmt) (f : Addr) (fd : FuncData) (c : Addr) : Prop where
  ex : ∃ oc od kV doc pm an ct osl, fd = PySem.W.fnOf x x (defArgs st) (defBody st) (defScope st) .none kV doc pm an (.ref c) ct ∧ K.lookup f = some ⟨oc, od, .func fd, osl⟩ ∧ PySem.W.codeIn K (.ref c) x = true
  kp : PySem.W.keepIn K (.ref f) = true
/-- .. and the table of that -/
structure FnT (K : PySem.W.Frag) (x : Str) (st : Stmt) (f c Pc : Addr) : Prop where
  ex : ∃ fd, FunC K x st f fd c
  hd : PySem.W.codeHdIn K c Pc = true
theorem fnT {x : Str} {st : Stmt} {f c Pc : Addr} {oc e1 : Value} {od an e2 : Option Addr} {osl sl : Array (Option Value)} {kV doc pm ct : Value} {vs : Array Value}
    (l : K.lookup f = some ⟨oc, od, .func (PySem.W.fnOf x x (defArgs st) (defBody st) (defScope st) .none kV doc pm an (.ref c) ct), osl⟩)
    (cd : PySem.W.codeIn K (.ref c) x = true) (k : PySem.W.keepIn K (.ref f) = true) (lc : K.lookup c = some ⟨e1, e2, .fields vs, sl⟩) (h11 : vs[11]? = some (.ref Pc)) (hd : PySem.W.codeHdIn K c Pc = true) : FnT K x st f c Pc :=
  ⟨⟨_, ⟨oc, od, kV, doc, pm, an, ct, osl, rfl, l, cd⟩, k⟩, hd⟩
end
theorem FunC.binds {K : PySem.W.Frag} {x : Str} {st : Stmt} {f c : Addr} {fd : FuncData} {ps : List Str} (F : FunC K x st f fd c) (hb : ∀ (kV doc pm : Value) (an : Option Addr) (ct : Value) (us : List Value), us.length = ps.length → bindArgs (PySem.W.fnOf x x (defArgs st) (defBody st) (defScope st) .none kV doc pm an (.ref c) ct) ⟨us, []⟩ = pure (ps.zip us)) : Binds K fd ps [] := by
  obtain ⟨oc, od, kV, doc, pm, an, ct, osl, rfl, lk, hcd⟩ := F.ex
  exact .all fun us hl => hb kV doc pm an ct us hl
/-- an error of ours, which keeps the field y -/
structure ErrF (K : PySem.W.Frag) (x y : Str) (C fI CS : Addr) : Prop where
  g : PySem.W.nsIn K mainGlobals x = some (some (.ref C))
  i : PySem.W.findIn K (.ref C) "__init__" = some (some (.ref fI))
  t : PySem.W.typeIn K (.ref fI) = some (.type "function")
  cls : ∃ nm q N bs sn sub ab col dd k0 k1 k2 k3 k5, K.lookup C = some (excClassObj nm q C N bs [.ref CS, .type "ValueError", .type "Exception", .type "BaseException", .type "object"] true sn sub ab col dd k0 k1 k2 k3 k5 "ValueError.__new__")
  sa : PySem.W.findIn K (.ref C) "__setattr__" = some (some (.builtin "object.__setattr__"))
  ex : PySem.W.subIn K (.ref C) (.type "BaseException") = some true
  ty : PySem.W.typeIn K (.ref C) = some (.type "type")
  kp : PySem.W.keepIn K (.ref C) = true
  v : PySem.W.findIn K (.ref C) y = some none
  ga : PySem.W.findIn K (.ref C) "__getattribute__" = some (some (.builtin "BaseException.__getattribute__"))
  gg : PySem.W.findIn K (.ref C) "__getattr__" = some none
  hd : PySem.W.hasDictIn K C = true
  cl : PySem.W.findIn K (.ref C) "__class__" = some (some (.builtin "object.__class__"))
  ob : PySem.W.mroIn K C (.type "object") = some true
  ic : PySem.W.isClsIn K C = true
  sS : PySem.W.subIn K (.ref C) (.ref CS) = some true
  sV : PySem.W.subIn K (.ref C) (.type "ValueError") = some true
theorem refs5 (CS : Addr) : PySem.HandSPX.refsVE [.ref CS, .type "ValueError", .type "Exception", .type "BaseException", .type "object"] = true := by
  show PySem.HandSPX.refsVE [.type "ValueError", .type "Exception", .type "BaseException", .type "object"] = true
  decide +kernel
/-- what is asked of the base of the errors, and of isinstance -/
structure BaseF (K : PySem.W.Frag) (CS : Addr) : Prop where
  g : PySem.W.nsIn K mainGlobals "StowError" = some (some (.ref CS))
  sB : PySem.W.subIn K (.ref CS) (.type "BaseException") = some true
  sI : PySem.W.isClsIn K CS = true
  sT : PySem.W.typeIn K (.ref CS) = some (.type "type")
  hn : PySem.W.specialIn K (.builtin "object.__class__") "__get__" = some (some (.builtin "getset_descriptor.__get__"))
  ht : PySem.W.takesIn K (.builtin "object.__class__") = some true
/-- a class of ours, made by an __init__ -/
structure ClsF (K : PySem.W.Frag) (x : Str) (C fI : Addr) : Prop where
  g : PySem.W.nsIn K mainGlobals x = some (some (.ref C))
  pg : PySem.W.plainGet K C Str.empty = true
  hd : PySem.W.hasDictIn K C = true
  po : PySem.W.plainOver K C = true
  sa : PySem.W.findIn K (.ref C) "__setattr__" = some (some (.builtin "object.__setattr__"))
  mkC : PySem.W.makesIn K C = true
  ini : PySem.W.findIn K (.ref C) "__init__" = some (some (.ref fI))
  ifn : PySem.W.isFn K (.ref fI) = true
  kp : PySem.W.keepIn K (.ref C) = true
theorem ClsF.cls {K : PySem.W.Frag} {x : Str} {C fI : Addr} (F : ClsF K x C fI) : Cls K C := ⟨F.pg, F.hd, F.po, F.sa⟩
theorem ClsF.mak {K : PySem.W.Frag} {x : Str} {C fI : Addr} (F : ClsF K x C fI) : Mk K C fI := ⟨F.mkC, F.ini, F.ifn, F.kp⟩
/-- a classmethod read off a class -/
structure CmF (K : PySem.W.Frag) (C : Addr) (m : Str) (p g : Addr) : Prop where
  at_ : PySem.W.findCls K (.ref C) (.type "type") m = some (.get (.builtin "classmethod.__get__") (.ref p) .none (.ref C))
  rc : ∃ rest, PySem.W.recIn K p "classmethod" = some (.ref g :: rest)
  fi : PySem.W.fnIn K g = true
structure RdF (K : PySem.W.Frag) (C : Addr) : Prop where
  rd : PySem.W.readsIn K C (.type "type") = true
  ga : PySem.W.specialIn K (.ref C) "__getattribute__" = some (some (.builtin "type.__getattribute__"))
section
variable {P : Program} {w : World} {K : PySem.W.Frag} {mg : Str → Option Value} {base h : Heap}
theorem ErrF.O {x y : Str} {C fI CS : Addr} (E : ErrF K x y C fI CS) : OexC K C := by
  obtain ⟨nm, q, N, bs, sn, sub, ab, col, dd, k0, k1, k2, k3, k5, e⟩ := E.cls
  exact ⟨⟨nm, q, N, bs, _, sn, sub, ab, col, dd, k0, k1, k2, k3, k5, e, refs5 CS⟩, E.sa, E.ex, E.ty, E.kp⟩
theorem ErrF.ec {x y : Str} {C fI CS : Addr} (E : ErrF K x y C fI CS) (B : BaseF K CS) : ExcC K C := ⟨E.ga, E.gg, E.ex, E.hd, E.cl, B.hn, B.ht, E.ob⟩
theorem ErrF.xf {x y : Str} {C fI CS : Addr} (E : ErrF K x y C fI CS) : XfC K C := ⟨E.ga, E.gg, E.ex, E.hd⟩
theorem ErrF.exm {x y : Str} {C fI CS : Addr} (E : ErrF K x y C fI CS) (B : BaseF K CS) : PySem.W.exmOne K (.ref C) (.ref CS) = some true := exm_of B.sB B.sI B.sT E.sS
theorem ErrF.ve {x y : Str} {C fI CS : Addr} (E : ErrF K x y C fI CS) : PySem.W.kitOne K (.ref C) (.type "ValueError") = some true := kit_rty (by decide +kernel) E.sV
/-- the tables of the lambdas: by the code objects of the defs that hold them -/
structure TbF (h : Heap) (K : PySem.W.Frag) (c p : Addr) : Prop where
  hd : PySem.W.CodeHd h c p
  n : K.lookup p = none
end
end NX

set_option Elab.async false
set_option linter.all false
set_option maxRecDepth 100000
set_option maxHeartbeats 4000000
/-! The head by one run in the kernel: the written part is what the end's heap holds at told addresses; what is asked of it is one Bool. -/
namespace HK
open PySem L2 LamX PySem.Spec PyProof.Rows NX
abbrev Fg := PySem.W.Frag
/-! ### addresses by names -/
/-- what the module's name x holds -/
abbrev g (x : Str) : Fg → Addr := fun K => He.ga K x
/-- what the class at C holds under m -/
abbrev m (C : Fg → Addr) (x : Str) : Fg → Addr := fun K => He.ma K (C K) x
/-- the def within a property, a classmethod -/
def inner (T : String) (p : Fg → Addr) : Fg → Addr := fun K => match PySem.W.recIn K (p K) T with
  | some (.ref a :: _) => a
  | _ => 0
/-- the classmethod object that the class at C holds under m -/
def cmO (C : Fg → Addr) (x : Str) : Fg → Addr := fun K => match PySem.W.findCls K (.ref (C K)) (.type "type") x with
  | some (.get _ (.ref p) _ _) => p
  | _ => 0
def codeAt (f : Fg → Addr) : Fg → Addr := fun K => match K.lookup (f K) with
  | some ⟨_, _, .func fd, _⟩ => (match fd.code with
    | .ref c => c
    | _ => 0)
  | _ => 0
def tabAt (f : Fg → Addr) : Fg → Addr := fun K => He.tabOf K (codeAt f K)
/-! ### defs -/
structure Df where
  at_ : Fg → Addr
  name : Str
  qual : Str
  params : Arguments
  body : List Stmt
  scope : Scope
  dfl : List He.Dv := []
  kwd : List (Str × He.Dv) := []
abbrev dOf (a : Fg → Addr) (x q : Str) (st : Stmt) : Df := ⟨a, x, q, defArgs st, defBody st, defScope st, [], []⟩
def fnW (K : Fg) (a : Addr) : He.FnW := match K.lookup a with
  | some ⟨_, _, .func fd, _⟩ => some (fd.name, fd.qualname, fd.params, fd.body, fd.scope, fd.globals, fd.closure, fd.builtins)
  | _ => none
def Df.val (d : Df) : He.FnW := some (d.name, d.qual, d.params, .stmts d.body, d.scope, mainGlobals, [], builtinsNs)
def Df.dvs (K : Fg) (d : Df) : List V := d.dfl.map (He.Dv.v K)
def Df.kws (K : Fg) (d : Df) : List (Str × V) := d.kwd.map fun q => (q.1, q.2.v K)
def Df.ok (K : Fg) (d : Df) : Bool := PySem.W.keepIn K (.ref (d.at_ K)) && (match K.lookup (d.at_ K) with
  | some ⟨_, _, .func fd, _⟩ => PySem.W.codeIn K fd.code d.qual && (He.dflB K fd.defaults (d.dvs K) && He.kwdB K fd.kwdefaults (d.kws K))
  | _ => false)
theorem Df.funD {K : Fg} {d : Df} (e : fnW K (d.at_ K) = d.val) (c : d.ok K = true) : ∃ fd, FunD K d.name d.qual d.params d.body d.scope (d.dvs K) (d.kws K) (d.at_ K) fd := by
  obtain ⟨kp, c2⟩ := He.ba c
  unfold fnW at e
  cases q : K.lookup (d.at_ K) with
  | none =>
    rw [q] at c2
    cases c2
  | some o =>
    obtain ⟨oc, od, dt, osl⟩ := o
    rw [q] at c2 e
    cases dt with
    | func fd =>
      obtain ⟨n1, n2, n3, n4, n5, n6, n7, n8, n9, n10, n11, n12, n13, n14, n15⟩ := fd
      have e2 : (some (n1, n2, n3, n4, n5, n6, n7, n15) : He.FnW) = some (d.name, d.qual, d.params, .stmts d.body, d.scope, mainGlobals, [], builtinsNs) := e
      simp only [Option.some.injEq, Prod.mk.injEq] at e2
      obtain ⟨h1, h2, h3, h4, h5, h6, h7, h8⟩ := e2
      subst h1 h2 h3 h4 h5 h6 h7 h8
      have c3 : (PySem.W.codeIn K n13 d.qual && (He.dflB K n8 (d.dvs K) && He.kwdB K n9 (d.kws K))) = true := c2
      obtain ⟨k1, k2⟩ := He.ba c3
      obtain ⟨k3, k4⟩ := He.ba k2
      exact ⟨_, ⟨oc, od, n8, n9, n10, n11, n12, n13, n14, osl, rfl, q, k1, He.dflB_ok k3, He.kwdB_ok k4⟩, kp⟩
    | _ => cases c2
/-! ### the Hook -/
/-- what is told of the written part K of the heap h -/
structure Says (fn : List Df) (tf : List (Fg → Addr)) (ex : Fg → List Bool) (h : Heap) (K : Fg) : Prop where
  fns : (fn.map fun d => fnW K (d.at_ K)) = fn.map Df.val
  fok : ∀ d ∈ fn, d.ok K = true
  more : (ex K).all id = true
  hd : ∀ f ∈ tf, PySem.W.codeHdIn K (codeAt f K) (tabAt f K) = true
  out : ∀ f ∈ tf, K.lookup (tabAt f K) = none
  empty : ∀ f ∈ tf, h.get? (tabAt f K) = some { cls := .none, data := .fields #[] }
def tabsB (gt : Addr → Option Obj) (tf : List (Fg → Addr)) (K : Fg) : Bool := tf.all fun f => PySem.W.codeHdIn K (codeAt f K) (tabAt f K) && (match gt (tabAt f K) with
  | some o => He.emptyTab o
  | none => false)
abbrev Al : Type := List He.FnW × Bool
def obsK (fn : List Df) (tf : List (Fg → Addr)) (ex : Fg → List Bool) (gt : Addr → Option Obj) (K : Fg) : Al := (fn.map fun d => fnW K (d.at_ K), (fn.all fun d => d.ok K) && ((ex K).all id && tabsB gt tf K))
/-- a list made of its items, before it is looked at -/
def frL {α β : Type} : List α → (List α → β) → β
  | [], k => k []
  | x :: r, k => frL r fun r => k (x :: r)
theorem frL_eq {α β : Type} : ∀ (l : List α) (k : List α → β), frL l k = k l
  | [], _ => rfl
  | x :: r, k => by
    show frL r (fun r => k (x :: r)) = _
    rw [frL_eq r]
def obs (as : List Addr) (fn : List Df) (tf : List (Fg → Addr)) (ex : Fg → List Bool) (gt : Addr → Option Obj) : Al := frL (He.frT gt as) fun K => obsK fn tf ex gt K
def val (fn : List Df) : Al := (fn.map Df.val, true)
theorem says_of {as : List Addr} {fn : List Df} {tf : List (Fg → Addr)} {ex : Fg → List Bool} {h : Heap} (e : obs as fn tf ex h.get? = val fn) : Says fn tf ex h (He.frT h.get? as) := by
  unfold obs at e
  rw [frL_eq] at e
  generalize hK : He.frT h.get? as = K at e
  have e1 : (fn.map fun d => fnW K (d.at_ K)) = fn.map Df.val := congrArg (fun z : Al => z.1) e
  have e2 : ((fn.all fun d => d.ok K) && ((ex K).all id && tabsB h.get? tf K)) = true := congrArg (fun z : Al => z.2) e
  obtain ⟨h1, h2⟩ := He.ba e2
  obtain ⟨h3, h4⟩ := He.ba h2
  have key : ∀ f ∈ tf, PySem.W.codeHdIn K (codeAt f K) (tabAt f K) = true ∧ ∃ o, h.get? (tabAt f K) = some o ∧ He.emptyTab o = true := fun p hp => by
    obtain ⟨h5, h6⟩ := He.ba (List.all_eq_true.mp h4 p hp)
    refine ⟨h5, ?_⟩
    cases q : h.get? (tabAt p K) with
    | none =>
      rw [q] at h6
      cases h6
    | some o =>
      rw [q] at h6
      exact ⟨o, rfl, h6⟩
  refine ⟨e1, fun d hd => List.all_eq_true.mp h1 d hd, h3, fun p hp => (key p hp).1, fun p hp => ?_, fun p hp => ?_⟩
  · obtain ⟨_, o, q, z⟩ := key p hp
    have r := He.frT_none (as := as) q z
    rw [hK] at r
    exact r
  · obtain ⟨_, o, q, z⟩ := key p hp
    rw [q, He.emptyTab_eq z]
def hook (as : List Addr) (fn : List Df) (tf : List (Fg → Addr)) (ex : Fg → List Bool) : PySem.W.Hook where
  α := Al
  obs := fun s => obs as fn tf ex s.heap.get?
  val := fun _ => val fn
  says := fun _ h => ∃ K : Fg, K.In h ∧ Says fn tf ex h K
  of := fun _ _ e => ⟨_, He.frT_in, says_of e⟩
  keeps := fun _ _ _ ⟨K, hK, c⟩ k => ⟨K, PySem.W.Frag.In.keeps hK k, ⟨c.fns, c.fok, c.more, c.hd, c.out, fun p hp => k _ _ (c.empty p hp)⟩⟩
theorem obs_eq {as : List Addr} {fn : List Df} {tf : List (Fg → Addr)} {ex : Fg → List Bool} (s : PySem.W.SharedT) : obs as fn tf ex (HandSHeadRun.getT s) = (hook as fn tf ex).obs s.abs := by
  have e : HandSHeadRun.getT s = s.abs.heap.get? := funext (HandSHeadRun.getT_eq s)
  rw [e] <;> rfl
section
variable {fn : List Df} {tf : List (Fg → Addr)} {ex : Fg → List Bool} {h : Heap} {K : Fg}
theorem Says.def_ (c : Says fn tf ex h K) (i : Nat) {d : Df} (hi : fn[i]? = some d := by rfl) : ∃ fd, FunD K d.name d.qual d.params d.body d.scope (d.dvs K) (d.kws K) (d.at_ K) fd := by
  have e2 : (fn.map fun d => fnW K (d.at_ K))[i]? = (fn.map Df.val)[i]? := by rw [c.fns]
  rw [List.getElem?_map, List.getElem?_map, hi] at e2
  exact Df.funD (Option.some.inj e2) (c.fok d (List.mem_of_getElem? hi))
/-- a def without defaults -/
theorem fnF_of {x q : Str} {st : Stmt} {f : Addr} (h : ∃ fd, FunD K x q (defArgs st) (defBody st) (defScope st) [] [] f fd) : FnF K x q st f := by
  obtain ⟨fd, F⟩ := h
  obtain ⟨oc, od, dV, kV, doc, pm, an, cdv, ct, osl, rfl, lk, hcd, hd, _⟩ := F.ex
  rcases hd with ⟨_, rfl⟩ | ⟨n, _⟩
  · exact fnF lk hcd F.kp
  · exact absurd rfl n
theorem fnT_of {x : Str} {st : Stmt} {f : Addr} (h : ∃ fd, FunD K x x (defArgs st) (defBody st) (defScope st) [] [] f fd) (a : Fg → Addr) (ha : a K = f) (hd : PySem.W.codeHdIn K (codeAt a K) (tabAt a K) = true) : FnT K x st f (codeAt a K) (tabAt a K) := by
  obtain ⟨fd, F⟩ := h
  obtain ⟨oc, od, dV, kV, doc, pm, an, cdv, ct, osl, rfl, lk, hcd, hdd, _⟩ := F.ex
  rcases hdd with ⟨_, rfl⟩ | ⟨n, _⟩
  · obtain ⟨c, rfl⟩ := He.codeIn_ref hcd
    have e : codeAt a K = c := by
      unfold codeAt
      rw [ha, lk]
    refine ⟨⟨_, ⟨oc, od, kV, doc, pm, an, ct, osl, ?_, lk, ?_⟩, F.kp⟩, hd⟩
    · rw [e]
    · rw [e]
      exact hcd
  · exact absurd rfl n
theorem Says.at_ (c : Says fn tf ex h K) (i : Nat) {b : Bool} (hi : (ex K)[i]? = some b := by rfl) : b = true := List.all_eq_true.mp c.more b (List.mem_of_getElem? hi)
end
/-! ### facts as Bools -/
section
variable {K : Fg}
def eqV (a b : Option (Option Value)) : Bool := decide (a = b)
theorem eqV_ok {a b : Option (Option Value)} (h : eqV a b = true) : a = b := of_decide_eq_true h
def eqB (a b : Option Bool) : Bool := decide (a = b)
theorem eqB_ok {a b : Option Bool} (h : eqB a b = true) : a = b := of_decide_eq_true h
def eqT (a b : Option Value) : Bool := decide (a = b)
theorem eqT_ok {a b : Option Value} (h : eqT a b = true) : a = b := of_decide_eq_true h
theorem notB_ok {b : Bool} (h : (!b) = true) : b = false := by
  cases b with
  | false => rfl
  | true => cases h
/-- a constant that is a text, an int -/
def strB (K : Fg) (x z : Str) : Bool := match PySem.W.nsIn K mainGlobals x with
  | some (some (.str y _)) => decide (y = z)
  | _ => false
theorem strB_ok {x z : Str} (h : strB K x z = true) : ∃ t, PySem.W.nsIn K mainGlobals x = some (some (.str z t)) := by
  unfold strB at h
  split at h
  · rename_i y t q
    rw [of_decide_eq_true h] at q
    exact ⟨t, q⟩
  · cases h
def intB (K : Fg) (x : Str) (i : Int) : Bool := match PySem.W.nsIn K mainGlobals x with
  | some (some (.int j _)) => decide (j = i)
  | _ => false
theorem intB_ok {x : Str} {i : Int} (h : intB K x i = true) : ∃ t, PySem.W.nsIn K mainGlobals x = some (some (.int i t)) := by
  unfold intB at h
  split at h
  · rename_i y t q
    rw [of_decide_eq_true h] at q
    exact ⟨t, q⟩
  · cases h
/-- an error class over the base CS -/
def errC (K : Fg) (C CS : Addr) : Bool := match K.lookup C with
  | some ⟨.type T, _, .cls cd, sl⟩ => decide (T = "type") && (decide (cd.mro = [.ref C, .ref CS, .type "ValueError", .type "Exception", .type "BaseException", .type "object"]) && (cd.hasDict && (!cd.hasDel && (match sl.toList with
    | [_, _, _, _, some (.builtin n), _] => decide (n = "ValueError.__new__")
    | _ => false))))
  | _ => false
theorem errC_ok {C CS : Addr} (h : errC K C CS = true) : ∃ nm q N bs sn sub ab col dd k0 k1 k2 k3 k5, K.lookup C = some (excClassObj nm q C N bs [.ref CS, .type "ValueError", .type "Exception", .type "BaseException", .type "object"] true sn sub ab col dd k0 k1 k2 k3 k5 "ValueError.__new__") := by
  unfold errC at h
  split at h
  · rename_i T dd cd sl q
    obtain ⟨h1, h⟩ := He.ba h
    obtain ⟨h2, h⟩ := He.ba h
    obtain ⟨h3, h⟩ := He.ba h
    obtain ⟨h4, h5⟩ := He.ba h
    obtain ⟨nm, bs, mro, ns, qn, hd, sn, sub, ab, col, del⟩ := cd
    have e1 : T = "type" := of_decide_eq_true h1
    have e2 : mro = [.ref C, .ref CS, .type "ValueError", .type "Exception", .type "BaseException", .type "object"] := of_decide_eq_true h2
    have e3 : hd = true := h3
    have e4 : del = false := by
      cases del with
      | false => rfl
      | true => cases h4
    subst e1 e2 e3 e4
    obtain ⟨l⟩ := sl
    split at h5
    · rename_i k0 k1 k2 k3 n k5 hl
      have e5 : n = "ValueError.__new__" := of_decide_eq_true h5
      have hl' : l = [k0, k1, k2, k3, some (.builtin n), k5] := hl
      subst e5 hl'
      exact ⟨nm, qn, ns, bs, sn, sub, ab, col, dd, k0, k1, k2, k3, k5, q⟩
    · cases h5
  · cases h
/-- an error of ours: the class x, its field y -/
def errB (K : Fg) (x y : Str) (C fI CS : Addr) : List Bool :=
  [eqV (PySem.W.nsIn K mainGlobals x) (some (some (.ref C))), eqV (PySem.W.findIn K (.ref C) "__init__") (some (some (.ref fI))), eqT (PySem.W.typeIn K (.ref fI)) (some (.type "function")), errC K C CS,
   eqV (PySem.W.findIn K (.ref C) "__setattr__") (some (some (.builtin "object.__setattr__"))), eqB (PySem.W.subIn K (.ref C) (.type "BaseException")) (some true), eqT (PySem.W.typeIn K (.ref C)) (some (.type "type")), PySem.W.keepIn K (.ref C),
   eqV (PySem.W.findIn K (.ref C) y) (some none), eqV (PySem.W.findIn K (.ref C) "__getattribute__") (some (some (.builtin "BaseException.__getattribute__"))), eqV (PySem.W.findIn K (.ref C) "__getattr__") (some none), PySem.W.hasDictIn K C,
   eqV (PySem.W.findIn K (.ref C) "__class__") (some (some (.builtin "object.__class__"))), eqB (PySem.W.mroIn K C (.type "object")) (some true), PySem.W.isClsIn K C, eqB (PySem.W.subIn K (.ref C) (.ref CS)) (some true), eqB (PySem.W.subIn K (.ref C) (.type "ValueError")) (some true)]
theorem all_at {l : List Bool} (h : l.all id = true) (i : Nat) {b : Bool} (hi : l[i]? = some b := by rfl) : b = true := List.all_eq_true.mp h b (List.mem_of_getElem? hi)
theorem errB_ok {x y : Str} {C fI CS : Addr} (h : (errB K x y C fI CS).all id = true) : ErrF K x y C fI CS :=
  ⟨eqV_ok (all_at h 0), eqV_ok (all_at h 1), eqT_ok (all_at h 2), errC_ok (all_at h 3), eqV_ok (all_at h 4), eqB_ok (all_at h 5), eqT_ok (all_at h 6), all_at h 7, eqV_ok (all_at h 8), eqV_ok (all_at h 9), eqV_ok (all_at h 10), all_at h 11, eqV_ok (all_at h 12), eqB_ok (all_at h 13), all_at h 14, eqB_ok (all_at h 15), eqB_ok (all_at h 16)⟩
def baseB (K : Fg) (CS : Addr) : List Bool :=
  [eqV (PySem.W.nsIn K mainGlobals "StowError") (some (some (.ref CS))), eqB (PySem.W.subIn K (.ref CS) (.type "BaseException")) (some true), PySem.W.isClsIn K CS, eqT (PySem.W.typeIn K (.ref CS)) (some (.type "type")),
   eqV (PySem.W.specialIn K (.builtin "object.__class__") "__get__") (some (some (.builtin "getset_descriptor.__get__"))), eqB (PySem.W.takesIn K (.builtin "object.__class__")) (some true)]
theorem baseB_ok {CS : Addr} (h : (baseB K CS).all id = true) : BaseF K CS := ⟨eqV_ok (all_at h 0), eqB_ok (all_at h 1), all_at h 2, eqT_ok (all_at h 3), eqV_ok (all_at h 4), eqB_ok (all_at h 5)⟩
def clsB (K : Fg) (x : Str) (C fI : Addr) : List Bool :=
  [eqV (PySem.W.nsIn K mainGlobals x) (some (some (.ref C))), PySem.W.plainGet K C Str.empty, PySem.W.hasDictIn K C, PySem.W.plainOver K C, eqV (PySem.W.findIn K (.ref C) "__setattr__") (some (some (.builtin "object.__setattr__"))), PySem.W.makesIn K C,
   eqV (PySem.W.findIn K (.ref C) "__init__") (some (some (.ref fI))), PySem.W.isFn K (.ref fI), PySem.W.keepIn K (.ref C)]
theorem clsB_ok {x : Str} {C fI : Addr} (h : (clsB K x C fI).all id = true) : ClsF K x C fI := ⟨eqV_ok (all_at h 0), all_at h 1, all_at h 2, all_at h 3, eqV_ok (all_at h 4), all_at h 5, eqV_ok (all_at h 6), all_at h 7, all_at h 8⟩
/-- a record's first -/
def recB (K : Fg) (p : Addr) (T : String) (gt : Addr) : Bool := match PySem.W.recIn K p T with
  | some (.ref a :: _) => decide (a = gt)
  | _ => false
theorem recB_ok {p gt : Addr} {T : String} (h : recB K p T gt = true) : ∃ rest, PySem.W.recIn K p T = some (.ref gt :: rest) := by
  unfold recB at h
  split at h
  · rename_i a r q
    rw [of_decide_eq_true h] at q
    exact ⟨r, q⟩
  · cases h
def getB (K : Fg) (C : Addr) (x : Str) (p : Addr) : Bool := match PySem.W.findCls K (.ref C) (.type "type") x with
  | some (.get gg pp ob c) => decide (gg = .builtin "classmethod.__get__") && (decide (pp = .ref p) && (decide (ob = .none) && decide (c = .ref C)))
  | _ => false
theorem getB_ok {C p : Addr} {x : Str} (h : getB K C x p = true) : PySem.W.findCls K (.ref C) (.type "type") x = some (.get (.builtin "classmethod.__get__") (.ref p) .none (.ref C)) := by
  unfold getB at h
  split at h
  · rename_i gg pp ob c q
    obtain ⟨h1, h⟩ := He.ba h
    obtain ⟨h2, h⟩ := He.ba h
    obtain ⟨h3, h4⟩ := He.ba h
    rw [q, of_decide_eq_true h1, of_decide_eq_true h2, of_decide_eq_true h3, of_decide_eq_true h4]
  · cases h
def cmB (K : Fg) (C : Addr) (x : Str) (p gt : Addr) : List Bool := [getB K C x p, recB K p "classmethod" gt, PySem.W.fnIn K gt]
theorem cmB_ok {C p gt : Addr} {x : Str} (h : (cmB K C x p gt).all id = true) : CmF K C x p gt := ⟨getB_ok (all_at h 0), recB_ok (all_at h 1), all_at h 2⟩
def rdB (K : Fg) (C : Addr) : List Bool := [PySem.W.readsIn K C (.type "type"), eqV (PySem.W.specialIn K (.ref C) "__getattribute__") (some (some (.builtin "type.__getattribute__")))]
theorem rdB_ok {C : Addr} (h : (rdB K C).all id = true) : RdF K C := ⟨all_at h 0, eqV_ok (all_at h 1)⟩
/-- a class's constant that is an int, read off the class -/
def cvalI (K : Fg) (C : Addr) (x : Str) (i : Int) : Bool := match PySem.W.findCls K (.ref C) (.type "type") x with
  | some (.val (.int j _)) => decide (j = i)
  | _ => false
theorem cvalI_ok {C : Addr} {x : Str} {i : Int} (h : cvalI K C x i = true) : ∃ t, PySem.W.findCls K (.ref C) (.type "type") x = some (.val (.int i t)) := by
  unfold cvalI at h
  split at h
  · rename_i j t q
    rw [of_decide_eq_true h] at q
    exact ⟨t, q⟩
  · cases h
end
/-! ### the end -/
theorem walkGE {l : PySem.W.OpenLaw} {n k : Nat} {q : Program} {loose : List Str} {XP : (Str → Option Value) → Heap → Prop} {YP : World → Heap → Prop} {d : DefRec} {x : Str} (hn : l.most = some n) (hn2 : n ≤ sizeLine) (hdf : d.params.defaults = []) (hr : Room k callerA) (hi : importsNone q = true)
    (G : ∀ (w : World) (mg : Str → Option Value) (fa : Addr) (h : Heap), YP w h → h.Ns mainGlobals mg → mg d.name = some (.ref fa) → ∃ K : Fg, K.In h ∧ ∃ fd cs sp, LawG l w K k n x mg fa h fd cs sp) :
    PySem.W.WalkO q loose XP YP l.row.toRowW d [] (fun f vs => PySem.call f vs) := by
  refine Att.attach_callB hn hdf fun w s₀ s₁ mg mb fa o pm cd doc a vs ns T Y ho hd hcd hmg hobj hints hlen hbits hgen => ?_
  obtain ⟨K, KX, fd, cs, sp, L⟩ := G w mg fa _ Y T.T.g hmg
  exact endG ⟨KX, L.hT, L.nT, hobj, hints, Nat.le_trans hlen hn2⟩ T.T.g T.T.b T.T.builtins T.T.nolimit hgen L.C T.T.bmain hr (by obtain ⟨mm, ⟨o, es, ep, e, d, _⟩, _⟩ := (T.T.seer hi).mods; exact ⟨o, es, ep, e, d⟩) L.F L.bind (fun H h1 h2 => L.ask H a ns hlen h1 h2)
end HK

set_option Elab.async false
set_option linter.all false
set_option maxRecDepth 100000
set_option maxHeartbeats 0
namespace K95H
open PySem PySem.W PySem.Calls PyProof.Rows NX L2
def top (i : Nat) : Stmt := PySem.Challenge.pw_loopstow_k95_plan_texts_refused.main.body.getD i (.Pass ⟨0, 0, 0, 0⟩)
/-- a class's word -/
def conB (K : HK.Fg) (C : Addr) (wd : PySem.Str) : Bool := match PySem.W.findIn K (.ref C) "WORD" with
  | some (some (.str z t)) => decide (z = wd) && (HK.eqV (PySem.W.specialIn K (.str z t) "__get__") (some none) && (match PySem.W.findCls K (.ref C) (.type "type") "WORD" with
    | some (.val (.str y u)) => decide (y = z) && decide (u = t)
    | _ => false))
  | _ => false
theorem conB_ok {K : HK.Fg} {C : Addr} {wd : PySem.Str} (h : conB K C wd = true) : ∃ t, PySem.W.findIn K (.ref C) "WORD" = some (some (.str wd t)) ∧ PySem.W.specialIn K (.str wd t) "__get__" = some none ∧ PySem.W.findCls K (.ref C) (.type "type") "WORD" = some (.val (.str wd t)) := by
  unfold conB at h
  split at h
  · rename_i z t q
    obtain ⟨h1, h2⟩ := He.ba h
    obtain ⟨h3, h4⟩ := He.ba h2
    have e := of_decide_eq_true h1
    subst e
    split at h4
    · rename_i y u q2
      obtain ⟨h5, h6⟩ := He.ba h4
      have e1 := of_decide_eq_true h5
      have e2 := of_decide_eq_true h6
      subst e1 e2
      exact ⟨_, q, HK.eqV_ok h3, q2⟩
    · cases h4
  · cases h
def a_CS : HK.Fg → Addr := HK.g "StowError"
def a_CN : HK.Fg → Addr := HK.g "BadName"
def a_CM : HK.Fg → Addr := HK.g "BadMove"
def a_CT : HK.Fg → Addr := HK.g "BadText"
def a_CMv : HK.Fg → Addr := HK.g "Move"
def a_pRd : HK.Fg → Addr := HK.cmO (HK.g "Move") "read"
def a_cLo : HK.Fg → Addr := HK.g "Load"
def a_cAg : HK.Fg → Addr := HK.g "Again"
def a_cSt : HK.Fg → Addr := HK.g "Store"
def a_cFo : HK.Fg → Addr := HK.g "Forget"
def a_fEN : HK.Fg → Addr := HK.m (HK.g "BadName") "__init__"
def a_fEM : HK.Fg → Addr := HK.m (HK.g "BadMove") "__init__"
def a_fET : HK.Fg → Addr := HK.m (HK.g "BadText") "__init__"
def a_fI : HK.Fg → Addr := HK.m (HK.g "Move") "__init__"
def a_fSt : HK.Fg → Addr := HK.m (HK.g "Move") "__str__"
def a_fRd : HK.Fg → Addr := HK.inner "classmethod" (HK.cmO (HK.g "Move") "read")
def a_fIs : HK.Fg → Addr := HK.g "is_name"
def a_fRow : HK.Fg → Addr := HK.g "row_line"
def a_fShow : HK.Fg → Addr := HK.g "show_plan"
def a_fRR : HK.Fg → Addr := HK.g "read_row"
def a_fRP : HK.Fg → Addr := HK.g "read_plan"
def a_fPen : HK.Fg → Addr := HK.g "_law_pen"
def a_fDraw : HK.Fg → Addr := HK.g "_law_draw"
def a_fPick : HK.Fg → Addr := HK.g "_law_pick"
def a_fLIs : HK.Fg → Addr := HK.g "_law_is_name"
def a_fBe : HK.Fg → Addr := HK.g "_law_bent"
def a_fRF : HK.Fg → Addr := HK.g "_law_row_fault"
def a_fFa : HK.Fg → Addr := HK.g "_law_fault"
def a_fHeard : HK.Fg → Addr := HK.g "_law_heard"
def a_fLaw : HK.Fg → Addr := HK.g "law"
def a_cLaw : HK.Fg → Addr := HK.codeAt (HK.g "law")
def a_pLaw : HK.Fg → Addr := HK.tabAt (HK.g "law")
def fns : List HK.Df := [HK.dOf a_fEN "__init__" "BadName.__init__" (L2.inClass (top 3) 0),
  HK.dOf a_fEM "__init__" "BadMove.__init__" (L2.inClass (top 4) 0),
  HK.dOf a_fET "__init__" "BadText.__init__" (L2.inClass (top 5) 0),
  HK.dOf a_fI "__init__" "Move.__init__" (L2.inClass (top 11) 1),
  HK.dOf a_fSt "__str__" "Move.__str__" (L2.inClass (top 11) 4),
  HK.dOf a_fRd "read" "Move.read" (L2.inClass (top 11) 2),
  HK.dOf a_fIs "is_name" "is_name" (top 9),
  HK.dOf a_fRow "row_line" "row_line" (top 19),
  HK.dOf a_fShow "show_plan" "show_plan" (top 18),
  HK.dOf a_fRR "read_row" "read_row" (top 22),
  HK.dOf a_fRP "read_plan" "read_plan" (top 21),
  HK.dOf a_fPen "_law_pen" "_law_pen" (top 24),
  HK.dOf a_fDraw "_law_draw" "_law_draw" (top 25),
  HK.dOf a_fPick "_law_pick" "_law_pick" (top 26),
  HK.dOf a_fLIs "_law_is_name" "_law_is_name" (top 27),
  HK.dOf a_fBe "_law_bent" "_law_bent" (top 28),
  HK.dOf a_fRF "_law_row_fault" "_law_row_fault" (top 29),
  HK.dOf a_fFa "_law_fault" "_law_fault" (top 30),
  HK.dOf a_fHeard "_law_heard" "_law_heard" (top 31),
  HK.dOf a_fLaw "law" "law" (top 32)]
def tf : List (HK.Fg → Addr) := [a_fLaw]
def ex (K : HK.Fg) : List Bool := [HK.eqV (PySem.W.nsIn K mainGlobals "int") (some none),
  HK.eqV (PySem.W.nsIn K mainGlobals "len") (some none),
  HK.eqV (PySem.W.nsIn K mainGlobals "abs") (some none),
  HK.eqV (PySem.W.nsIn K mainGlobals "list") (some none),
  HK.eqV (PySem.W.nsIn K mainGlobals "str") (some none),
  HK.eqV (PySem.W.nsIn K mainGlobals "tuple") (some none),
  HK.eqV (PySem.W.nsIn K mainGlobals "isinstance") (some none),
  HK.eqV (PySem.W.nsIn K mainGlobals "repr") (some none),
  HK.eqV (PySem.W.nsIn K mainGlobals "range") (some none),
  HK.eqV (PySem.W.nsIn K mainGlobals "enumerate") (some none),
  HK.eqV (PySem.W.nsIn K mainGlobals "ValueError") (some none),
  HK.strB K "LETTERS" "abcdefghijklmnopqrstuvwxyz",
  HK.intB K "MOST_LETTERS" 6,
  (HK.baseB K (a_CS K)).all id,
  (HK.errB K "BadName" "value" (a_CN K) (a_fEN K) (a_CS K)).all id,
  (HK.errB K "BadMove" "value" (a_CM K) (a_fEM K) (a_CS K)).all id,
  (HK.errB K "BadText" "line" (a_CT K) (a_fET K) (a_CS K)).all id,
  HK.eqV (PySem.W.findIn K (.ref (a_CT K)) "word") (some none),
  HK.eqB (PySem.W.kitOne K (.ref (a_CT K)) (.ref (a_CS K))) (some true),
  HK.eqV (PySem.W.nsIn K mainGlobals "Move") (some (some (.ref (a_CMv K)))),
  (HK.rdB K (a_CMv K)).all id,
  (HK.cmB K (a_CMv K) "read" (a_pRd K) (a_fRd K)).all id,
  (HK.clsB K "Load" (a_cLo K) (a_fI K)).all id,
  conB K (a_cLo K) "load",
  HK.eqV (PySem.W.findIn K (.ref (a_cLo K)) "word") (some none),
  HK.eqV (PySem.W.findIn K (.ref (a_cLo K)) "name") (some none),
  (HK.rdB K (a_cLo K)).all id,
  HK.eqV (PySem.W.findIn K (.ref (a_cLo K)) "__str__") (some (some (.ref (a_fSt K)))),
  (HK.clsB K "Again" (a_cAg K) (a_fI K)).all id,
  conB K (a_cAg K) "again",
  HK.eqV (PySem.W.findIn K (.ref (a_cAg K)) "word") (some none),
  HK.eqV (PySem.W.findIn K (.ref (a_cAg K)) "name") (some none),
  (HK.rdB K (a_cAg K)).all id,
  HK.eqV (PySem.W.findIn K (.ref (a_cAg K)) "__str__") (some (some (.ref (a_fSt K)))),
  (HK.clsB K "Store" (a_cSt K) (a_fI K)).all id,
  conB K (a_cSt K) "store",
  HK.eqV (PySem.W.findIn K (.ref (a_cSt K)) "word") (some none),
  HK.eqV (PySem.W.findIn K (.ref (a_cSt K)) "name") (some none),
  (HK.rdB K (a_cSt K)).all id,
  HK.eqV (PySem.W.findIn K (.ref (a_cSt K)) "__str__") (some (some (.ref (a_fSt K)))),
  (HK.clsB K "Forget" (a_cFo K) (a_fI K)).all id,
  conB K (a_cFo K) "forget",
  HK.eqV (PySem.W.findIn K (.ref (a_cFo K)) "word") (some none),
  HK.eqV (PySem.W.findIn K (.ref (a_cFo K)) "name") (some none),
  (HK.rdB K (a_cFo K)).all id,
  HK.eqV (PySem.W.findIn K (.ref (a_cFo K)) "__str__") (some (some (.ref (a_fSt K)))),
  (PySem.W.isFn K (.ref (a_fSt K))),
  HK.eqV (PySem.W.nsIn K mainGlobals "is_name") (some (some (.ref (a_fIs K)))),
  HK.eqV (PySem.W.nsIn K mainGlobals "row_line") (some (some (.ref (a_fRow K)))),
  HK.eqV (PySem.W.nsIn K mainGlobals "show_plan") (some (some (.ref (a_fShow K)))),
  HK.eqV (PySem.W.nsIn K mainGlobals "read_row") (some (some (.ref (a_fRR K)))),
  HK.eqV (PySem.W.nsIn K mainGlobals "read_plan") (some (some (.ref (a_fRP K)))),
  HK.eqV (PySem.W.nsIn K mainGlobals "_law_pen") (some (some (.ref (a_fPen K)))),
  HK.eqV (PySem.W.nsIn K mainGlobals "_law_draw") (some (some (.ref (a_fDraw K)))),
  HK.eqV (PySem.W.nsIn K mainGlobals "_law_pick") (some (some (.ref (a_fPick K)))),
  HK.eqV (PySem.W.nsIn K mainGlobals "_law_is_name") (some (some (.ref (a_fLIs K)))),
  HK.eqV (PySem.W.nsIn K mainGlobals "_law_bent") (some (some (.ref (a_fBe K)))),
  HK.eqV (PySem.W.nsIn K mainGlobals "_law_row_fault") (some (some (.ref (a_fRF K)))),
  HK.eqV (PySem.W.nsIn K mainGlobals "_law_fault") (some (some (.ref (a_fFa K)))),
  HK.eqV (PySem.W.nsIn K mainGlobals "_law_heard") (some (some (.ref (a_fHeard K)))),
  HK.eqV (PySem.W.nsIn K mainGlobals "law") (some (some (.ref (a_fLaw K))))]
def as_ : List Addr := [3, 2, 6, 4, 21, 38, 58, 77, 96, 105, 146, 160, 172, 184, 196, 208, 215, 220, 225, 232, 239, 246, 253, 258, 265, 272, 279, 286, 293, 0, 20, 37, 57, 76, 95, 104, 145, 159, 171, 183, 195, 207, 214, 219, 224, 231, 238, 245, 252, 257, 264, 271, 278, 285, 292, 15, 16, 17, 18, 19, 35, 36, 39, 55, 56, 74, 75, 93, 94, 99, 100, 101, 102, 103, 119, 128, 136, 143, 144, 147, 148, 158, 170, 182, 194, 206, 211, 212, 213, 216, 217, 218, 221, 222, 223, 226, 227, 228, 229, 230, 233, 234, 235, 236, 237, 240, 241, 242, 243, 244, 247, 248, 249, 250, 251, 254, 255, 256, 259, 260, 261, 262, 263, 266, 267, 268, 269, 270, 273, 274, 275, 276, 277, 280, 281, 282, 283, 284, 287, 288, 289, 290, 291, 34, 54, 73, 92, 118, 126, 127, 135, 142, 29, 30, 31, 32, 33, 49, 50, 51, 52, 53, 68, 69, 70, 71, 72, 87, 88, 89, 90, 91, 113, 114, 115, 116, 117, 125, 129, 130, 131, 132, 133, 134, 137, 138, 139, 140, 141, 120, 121, 122, 123, 124]
abbrev R : OpenRow := OpenLaw.row PySem.Challenge.rw_loopstow_k95_plan_texts_refused
def loose : List PySem.Str := (["_wall", "StowError", "BadName", "BadMove", "BadText", "LETTERS", "MOST_LETTERS", "is_name", "Move", "Bring", "Load", "Again", "Store", "Forget", "show_plan", "row_line", "read_plan", "read_row", "_law_pen", "_law_draw", "_law_pick", "_law_is_name", "_law_bent", "_law_row_fault", "_law_fault", "_law_heard"] : List PySem.Str)
abbrev hk : Hook := HK.hook as_ fns tf ex
def ob (s : SharedT) : HK.Al := HK.obs as_ fns tf ex (HandSHeadRun.getT s)
theorem run (w : World) : HandSHeadRun.RunEq R (view R.prog [32]) hk ob 20000 loose w := by
  intro os
  kernel_rfl
end K95H
set_option Elab.async false
set_option linter.all false
set_option maxRecDepth 100000
set_option maxHeartbeats 4000000
namespace K95
open PySem L2
def top (i : Nat) : Stmt := PySem.Challenge.pw_loopstow_k95_plan_texts_refused.main.body.getD i (.Pass ⟨0, 0, 0, 0⟩)
abbrev sPen : Stmt := top 24
abbrev sDraw : Stmt := top 25
abbrev sPick : Stmt := top 26
/-- the pen's dict -/
def pd (c : Addr) (r s n : Int) : List (Key × V) := [(.inr "cells", .ref c), (.inr "rest", .int r), (.inr "seed", .int s), (.inr "count", .int n)]
theorem put_r (c : Addr) (r s n x : Int) : putK (pd c r s n) (.inr (Str.ofString "rest")) (.int x) = pd c x s n := by rfl
theorem put_s (c : Addr) (r s n x : Int) : putK (pd c r s n) (.inr (Str.ofString "seed")) (.int x) = pd c r x n := by rfl
theorem put_n (c : Addr) (r s n x : Int) : putK (pd c r s n) (.inr (Str.ofString "count")) (.int x) = pd c r s x := by rfl
theorem val_c (c : Addr) (r s n : Int) : valV (pd c r s n) (.inr (Str.ofString "cells")) = some (.ref c) := by rfl
theorem val_r (c : Addr) (r s n : Int) : valV (pd c r s n) (.inr (Str.ofString "rest")) = some (.int r) := by rfl
theorem val_s (c : Addr) (r s n : Int) : valV (pd c r s n) (.inr (Str.ofString "seed")) = some (.int s) := by rfl
theorem val_n (c : Addr) (r s n : Int) : valV (pd c r s n) (.inr (Str.ofString "count")) = some (.int n) := by rfl
theorem pd_len {c : Addr} {r s n : Int} : (pd c r s n).length < sizeLine := by show 4 < sizeLine; decide
/-- the pen at p: its cells at c, what is left of a cell, the seed, how many draws were made without a cell -/
structure Pen (H : Hp) (p c : Addr) (ns : List Int) (r s n : Int) : Prop where
  hp : H p = some (.dK (pd c r s n))
  hc : H c = some (.lst (ns.map V.int))
  lr : 0 ≤ r
  ls : 0 ≤ s
  lt : s < 2147483587
  ln : 0 ≤ n
theorem Pen.ne {H : Hp} {p c : Addr} {ns : List Int} {r s n : Int} (P : Pen H p c ns r s n) : c ≠ p := fun e => by
  have h1 := P.hp
  rw [← e, P.hc] at h1
  injection h1 with h
  cases h
/-- all but what stands at p and c is as it was -/
def But (p c : Addr) (H H' : Hp) : Prop := ∀ b o, H b = some o → b ≠ p → b ≠ c → H' b = some o
/-- what a draw leaves -/
def Drawn (H : Hp) (p c : Addr) (m : Int) (H' : Hp) : Prop := ∃ ns r s n, Pen H' p c ns r s n ∧ n ≤ m ∧ But p c H H'
def spDraw : Sp := fun vs H Q _ => ∃ (p c : Addr) (ns : List Int) (r s n many : Int), vs = [.ref p, .int many] ∧ Pen H p c ns r s n ∧ n ≤ 1000000 ∧ 1 ≤ many ∧ many < 1000000000 ∧
  ∀ d H', 0 ≤ d → d < many → Drawn H p c (n + 1) H' → Q (.int d) H'
theorem scDraw : FnScope ["_law_pen_here", "_law_many", "_law_cell", "_law_digit"] ["_law_pen_here", "_law_many"] (defScope sDraw) := ⟨rfl, rfl, rfl, by decide +kernel, rfl, by decide +kernel, by decide +kernel⟩
theorem dpInts {K : PySem.W.Frag} {H : Hp} : ∀ ns : List Int, DpAll K H (ns.map V.int) (ns.map PyData.int)
  | [] => .nil
  | n :: r => .cons (.int n) (dpInts r)
structure TxtB (mg : Str → Option Value) : Prop where
  bint : mg "int" = none
  blen : mg "len" = none
  babs : mg "abs" = none
  blist : mg "list" = none
  bstr : mg "str" = none
  btuple : mg "tuple" = none
  bisinstance : mg "isinstance" = none
  brepr : mg "repr" = none
  brange : mg "range" = none
  benumerate : mg "enumerate" = none
  bVE : mg "ValueError" = none
section
variable {P : Program} {w : World} {K : PySem.W.Frag} {mg : Str → Option Value} {base : Heap}
theorem get_r {H : Hp} {p c : Addr} {ns : List Int} {r s n : Int} (P : Pen H p c ns r s n) : DGet H p (.str (Str.ofString "rest")) (some (.int r)) := DGet.k (k := .inr (Str.ofString "rest")) P.hp
theorem get_s {H : Hp} {p c : Addr} {ns : List Int} {r s n : Int} (P : Pen H p c ns r s n) : DGet H p (.str (Str.ofString "seed")) (some (.int s)) := DGet.k (k := .inr (Str.ofString "seed")) P.hp
theorem get_n {H : Hp} {p c : Addr} {ns : List Int} {r s n : Int} (P : Pen H p c ns r s n) : DGet H p (.str (Str.ofString "count")) (some (.int n)) := DGet.k (k := .inr (Str.ofString "count")) P.hp
theorem get_c {H : Hp} {p c : Addr} {ns : List Int} {r s n : Int} (P : Pen H p c ns r s n) : DGet H p (.str (Str.ofString "cells")) (some (.ref c)) := DGet.k (k := .inr (Str.ofString "cells")) P.hp
theorem ok_draw {f : Addr} {fd : FuncData} (F : Fun K "_law_draw" "_law_draw" sDraw f fd) (T : TxtB mg) : FnOk P w K mg base CX0 1 f fd ["_law_pen_here", "_law_many"] spDraw := by
  refine F.ok scDraw (fun vs H Q E h => ?_) (fun cdv A outer s H vs Q E hr h => ?_)
  · obtain ⟨p, c, ns, r, s, n, m, rfl, _⟩ := h
    rfl
  · obtain ⟨p, c, ns, r, sd, n, many, rfl, Pn, hn, hm1, hm2, k⟩ := h
    have hu := hu_of hr
    refine ⟨_, (C8.pss_cut (ps_if (PW.pt (pw_and (pt_cmpR op_eq (pe_dget hu (pv 0) pe_str (fun _ _ => rfl)) pe_int (nomark _)) (pw_and1 (pt_cmpR (op_neD hr.units) (pe_dget hu (pv 0) pe_str (fun _ _ => rfl)) (pe_lst pa_nil) (nomark _))))) (pss_cons (ps_set (i := 2) scDraw.nd rfl (Or.inl rfl) (pe_callB call_abs (by rfl) T.babs (by decide +kernel) (pa_cons (pe_callTy call_int1 (by rfl) T.bint (by decide +kernel) (pa_cons (pe_bm PySem.F.plainAttrs_list PySem.F.slot_list_pop PySem.F.type_list_pop mt_popAt (pe_dget hu (pv 0) pe_str (fun _ _ => rfl)) (pa_cons pe_int pa_nil)) pa_nil)) pa_nil)))
      (pss_cons (ps_dput hu (pv 0) pe_str (pv 2) rfl)
      (pss_one (ps_dput hu (pv 0) pe_str (pe_op op_mod (pe_callTy call_int1 (by rfl) T.bint (by decide +kernel) (pa_cons (pe_op op_add (pe_op op_mul (pe_callTy call_int1 (by rfl) T.bint (by decide +kernel) (pa_cons (pe_dget hu (pv 0) pe_str (fun _ _ => rfl)) pa_nil)) pe_int) (pv 2)) pa_nil)) pe_int) rfl)))) pss_nil)
      (pss_cons (ps_if (pt_cmpR op_gt (pe_dget hu (pv 0) pe_str (fun _ _ => rfl)) pe_int (nomark _)) (pss_cons (ps_set (i := 3) scDraw.nd rfl (Or.inl rfl) (pe_op op_mod (pe_callTy call_int1 (by rfl) T.bint (by decide +kernel) (pa_cons (pe_dget hu (pv 0) pe_str (fun _ _ => rfl)) pa_nil)) (pv 1)))
      (pss_cons (ps_dput hu (pv 0) pe_str (pe_op op_fdiv (pe_callTy call_int1 (by rfl) T.bint (by decide +kernel) (pa_cons (pe_dget hu (pv 0) pe_str (fun _ _ => rfl)) pa_nil)) (pv 1)) rfl)
      (pss_one (ps_ret (pv 3))))) pss_nil)
      (pss_cons (ps_dput hu (pv 0) pe_str (pe_op op_add (pe_callTy call_int1 (by rfl) T.bint (by decide +kernel) (pa_cons (pe_dget hu (pv 0) pe_str (fun _ _ => rfl)) pa_nil)) pe_int) rfl)
      (pss_cons (ps_dput hu (pv 0) pe_str (pe_op op_mod (pe_callTy call_int1 (by rfl) T.bint (by decide +kernel) (pa_cons (pe_op op_add (pe_op op_mul (pe_callTy call_int1 (by rfl) T.bint (by decide +kernel) (pa_cons (pe_dget hu (pv 0) pe_str (fun _ _ => rfl)) pa_nil)) pe_int) (pe_op op_mul pe_int (pe_callTy call_int1 (by rfl) T.bint (by decide +kernel) (pa_cons (pe_dget hu (pv 0) pe_str (fun _ _ => rfl)) pa_nil)))) pa_nil)) pe_int) rfl)
      (pss_one (ps_ret (pe_op op_mod (pe_callTy call_int1 (by rfl) T.bint (by decide +kernel) (pa_cons (pe_op op_fdiv (pe_callTy call_int1 (by rfl) T.bint (by decide +kernel) (pa_cons (pe_dget hu (pv 0) pe_str (fun _ _ => rfl)) pa_nil)) pe_int) pa_nil)) (pv 1)))))))), ?_⟩
    refine ⟨fun σ H' => ∃ (v2 v3 : Option V) (ns' : List Int) (r' s' : Int), σ = [some (.ref p), some (.int many), v2, v3] ∧ Pen H' p c ns' r' s' n ∧ But p c H H', ?_, ?_⟩
    · refine ⟨_, rfl, p, _, rfl, get_r Pn, rfl, _, rfl, ite2 (fun h0 => ?_) (fun h0 => iteF ⟨none, none, ns, r, sd, rfl, Pn, fun b o h _ _ => h⟩)⟩
      refine ⟨_, rfl, p, _, rfl, get_c Pn, by decide, fun l hl => ?_⟩
      have npl : p ≠ l := ne_of_none Pn.hp hl
      have ncl : c ≠ l := ne_of_none Pn.hc hl
      have P2 : Pen (upd H l (.lst [])) p c ns r sd n := ⟨by rw [upd_ne npl]; exact Pn.hp, by rw [upd_ne ncl]; exact Pn.hc, Pn.lr, Pn.ls, Pn.lt, Pn.ln⟩
      have B2 : But p c H (upd H l (.lst [])) := fun b o hb _ _ => by rw [upd_ne (ne_of_none hb hl)]; exact hb
      refine ⟨_, _, .lst (SqL.of P2.hc) (dpInts ns), .lst (SqL.of upd_same) .nil, PySem.W.ke_shaped_ints ns, by decide +kernel, _, rfl, ?_⟩
      cases ns with
      | nil => exact iteF ⟨none, none, [], r, sd, rfl, P2, B2⟩
      | cons n0 nr =>
        refine iteT ?_
        have tyL : ∀ {H2 : Hp}, H2 c = some (.lst ((n0 :: nr).map V.int)) → tyV K "list" (.ref c) H2 := fun h => .inl ⟨rfl, _, SqL.of h⟩
        refine ⟨_, rfl, p, _, rfl, get_c P2, tyL P2.hc, c, _, 0, 0, .int n0, rfl, rfl, P2.hc, by decide, by decide, ?_, rfl, .inl ⟨n0, rfl, n0, rfl, ?_⟩⟩
        · show seqIndex? 0 ((n0 :: nr).map V.int).length = some 0
          rw [List.length_map, List.length_cons]
          unfold seqIndex?
          simp
          try omega
        have P3 : Pen (upd (upd H l (.lst [])) c (.lst (((n0 :: nr).map V.int).eraseIdx 0))) p c nr r sd n := ⟨by rw [upd_ne Pn.ne.symm]; exact P2.hp, upd_same, Pn.lr, Pn.ls, Pn.lt, Pn.ln⟩
        have B3 : But p c H (upd (upd H l (.lst [])) c (.lst (((n0 :: nr).map V.int).eraseIdx 0))) := fun b o hb n1 n2 => by rw [upd_ne n2]; exact B2 b o hb n1 n2
        have hab : (0 : Int) ≤ if n0 < 0 then -n0 else n0 := by split <;> omega
        clear B2 P2
        generalize (upd (upd H l (.lst [])) c (.lst (((n0 :: nr).map V.int).eraseIdx 0))) = G3 at *
        refine ⟨_, rfl, _, rfl, p, _, rfl, DPut.k (k := .inr (Str.ofString "rest")) P3.hp pd_len, ?_⟩
        rw [put_r]
        have P4 : Pen (upd G3 p (.dK (pd c (if n0 < 0 then -n0 else n0) sd n))) p c nr (if n0 < 0 then -n0 else n0) sd n := ⟨upd_same, by rw [upd_ne Pn.ne]; exact P3.hc, hab, Pn.ls, Pn.lt, Pn.ln⟩
        have B4 : But p c H (upd G3 p (.dK (pd c (if n0 < 0 then -n0 else n0) sd n))) := fun b o hb n1 n2 => by rw [upd_ne n1]; exact B3 b o hb n1 n2
        generalize (upd G3 p (.dK (pd c (if n0 < 0 then -n0 else n0) sd n))) = G4 at *
        refine ⟨_, rfl, p, _, rfl, get_s P4, .inl ⟨sd, rfl, sd, 41, rfl, rfl, .inr ⟨by decide, by decide⟩, _, rfl, _, _, rfl, rfl, .inl ⟨_, rfl, _, _, rfl, rfl, (by show (0 : Int) < 2147483587; decide), _, rfl, p, _, rfl, DPut.k (k := .inr (Str.ofString "seed")) P4.hp pd_len, ?_⟩⟩⟩
        rw [put_s]
        exact ⟨_, none, nr, _, _, rfl, ⟨upd_same, by rw [upd_ne Pn.ne]; exact P4.hc, hab, Int.emod_nonneg _ (by decide), Int.emod_lt_of_pos _ (by decide), Pn.ln⟩, fun b o hb n1 n2 => by rw [upd_ne n1]; exact B4 b o hb n1 n2⟩
    · rintro σ' H' ⟨v2, v3, ns', r', s', rfl, P2, B2⟩
      refine ⟨_, rfl, p, _, rfl, get_r P2, _, _, rfl, rfl, _, rfl, ite2 (fun h0 => ?_) (fun h0 => ?_)⟩
      · have h0 := of_decide_eq_true h0
        refine ⟨_, rfl, p, _, rfl, get_r P2, .inl ⟨r', rfl, _, rfl, r', many, rfl, rfl, (by show 0 < many; omega), ?_⟩⟩
        refine ⟨_, rfl, p, _, rfl, get_r P2, .inl ⟨r', rfl, _, rfl, r', many, rfl, rfl, ⟨by omega, by omega⟩, ?_⟩⟩
        refine ⟨_, rfl, p, _, rfl, DPut.k (k := .inr (Str.ofString "rest")) P2.hp pd_len, _, rfl, ?_⟩
        rw [put_r]
        exact k _ _ (Int.emod_nonneg _ (by omega)) (Int.emod_lt_of_pos _ (by omega)) ⟨ns', r' / many, s', n, ⟨upd_same, by rw [upd_ne Pn.ne]; exact P2.hc, Int.ediv_nonneg P2.lr (by omega), P2.ls, P2.lt, P2.ln⟩, by omega, fun b o hb n1 n2 => by rw [upd_ne n1]; exact B2 b o hb n1 n2⟩
      · have ls := P2.ls
        have lt := P2.lt
        have ln := P2.ln
        refine ⟨_, rfl, p, _, rfl, get_n P2, .inl ⟨n, rfl, _, _, rfl, rfl, _, rfl, p, _, rfl, DPut.k (k := .inr (Str.ofString "count")) P2.hp pd_len, ?_⟩⟩
        rw [put_n]
        have P3 : Pen (upd H' p (.dK (pd c r' s' (n + 1)))) p c ns' r' s' (n + 1) := ⟨upd_same, by rw [upd_ne Pn.ne]; exact P2.hc, P2.lr, P2.ls, P2.lt, by omega⟩
        have B3 : But p c H (upd H' p (.dK (pd c r' s' (n + 1)))) := fun b o hb n1 n2 => by rw [upd_ne n1]; exact B2 b o hb n1 n2
        generalize (upd H' p (.dK (pd c r' s' (n + 1)))) = G3 at *
        refine ⟨_, rfl, p, _, rfl, get_s P3, .inl ⟨s', rfl, s', 69621, rfl, rfl, .inr ⟨by decide, by decide⟩, ?_⟩⟩
        refine ⟨_, rfl, p, _, rfl, get_n P3, .inl ⟨_, rfl, 30011, _, rfl, rfl, .inl ⟨by decide, by decide⟩, ?_⟩⟩
        refine ⟨_, _, rfl, rfl, .inl ⟨_, rfl, _, _, rfl, rfl, (by show (0 : Int) < 2147483587; decide), _, rfl, p, _, rfl, DPut.k (k := .inr (Str.ofString "seed")) P3.hp pd_len, ?_⟩⟩
        rw [put_s]
        obtain ⟨M, hM⟩ : ∃ M : Int, M = (s' * 69621 + 30011 * (n + 1)) % 2147483587 := ⟨_, rfl⟩
        have m3 : 0 ≤ M := by rw [hM]; exact Int.emod_nonneg _ (by decide)
        have m4 : M < 2147483587 := by rw [hM]; exact Int.emod_lt_of_pos _ (by decide)
        rw [← hM]
        have P4 : Pen (upd G3 p (.dK (pd c r' M (n + 1)))) p c ns' r' M (n + 1) := ⟨upd_same, by rw [upd_ne Pn.ne]; exact P3.hc, P2.lr, m3, m4, by omega⟩
        have B4 : But p c H (upd G3 p (.dK (pd c r' M (n + 1)))) := fun b o hb n1 n2 => by rw [upd_ne n1]; exact B3 b o hb n1 n2
        generalize (upd G3 p (.dK (pd c r' M (n + 1)))) = G4 at *
        refine ⟨_, rfl, p, _, rfl, get_s P4, .inl ⟨M, rfl, M, 64, rfl, rfl, ⟨by decide, by decide⟩, .inl ⟨_, rfl, _, rfl, _, many, rfl, rfl, (by show 0 < many; omega), ?_⟩⟩⟩
        exact k _ _ (Int.emod_nonneg _ (by omega)) (Int.emod_lt_of_pos _ (by omega)) ⟨ns', r', M, n + 1, P4, by omega, B4⟩
end
end K95

set_option Elab.async false
set_option linter.all false
set_option maxRecDepth 100000
set_option maxHeartbeats 4000000
namespace K95
open PySem L2
theorem But.seq {K : PySem.W.Frag} {H H' : Hp} {p c a : Addr} {xs : List V} (B : But p c H H') (n : a ≠ p) (m : a ≠ c) (h : SqL K H a xs) : SqL K H' a xs := by
  rcases h with (h | ⟨o, h⟩) | h
  · exact .inl (.inl (B _ _ h n m))
  · exact .inl (.inr ⟨o, B _ _ h n m⟩)
  · exact .inr h
theorem But.trans {p c : Addr} {H H1 H2 : Hp} (a : But p c H H1) (b : But p c H1 H2) : But p c H H2 := fun d o h n m => b d o (a d o h n m) n m
theorem But.refl {p c : Addr} {H : Hp} : But p c H H := fun _ _ h _ _ => h
theorem But.same {p c : Addr} {H H1 : Hp} (s : Same H H1) : But p c H H1 := fun b o h _ _ => s b o h
theorem Same.new {a : Addr} {H : Hp} {o : HO} (h : H a = none) : Same H (upd H a o) := fun b u e => by rw [upd_ne (ne_of_none e h)]; exact e
theorem Pen.same {H H' : Hp} {p c : Addr} {ns : List Int} {r s n : Int} (P : Pen H p c ns r s n) (e : Same H H') : Pen H' p c ns r s n := ⟨e _ _ P.hp, e _ _ P.hc, P.lr, P.ls, P.lt, P.ln⟩
def spPen (K : PySem.W.Frag) : Sp := fun vs H Q _ => ∃ (a : Addr) (ns : List Int), vs = [.ref a] ∧ SqL K H a (ns.map V.int) ∧ ∀ (p c : Addr) (ms : List Int) (H' : Hp), H p = none → H c = none → Pen H' p c ms 0 29 0 → Same H H' → Q (.ref p) H'
theorem scPen : FnScope ["_law_script"] ["_law_script"] (defScope sPen) := ⟨rfl, rfl, rfl, by decide +kernel, rfl, by decide +kernel, by decide +kernel⟩
def spPick (K : PySem.W.Frag) : Sp := fun vs H Q _ => ∃ (p c : Addr) (ns : List Int) (r s n : Int) (a : Addr) (xs : List V), vs = [.ref p, .ref a] ∧ Pen H p c ns r s n ∧ n ≤ 1000000 ∧ SqL K H a xs ∧ a ≠ p ∧ a ≠ c ∧ 0 < xs.length ∧ xs.length < 1000 ∧
  ∀ v H', v ∈ xs → Drawn H p c (n + 1) H' → Q v H'
theorem scPick : FnScope ["_law_pen_here", "_law_some"] ["_law_pen_here", "_law_some"] (defScope sPick) := ⟨rfl, rfl, rfl, by decide +kernel, rfl, by decide +kernel, by decide +kernel⟩
def cutM (ns : List Int) : List Int := (ns.drop (HT.sIx ns.length 0 none)).take (HT.sIx ns.length ns.length (some 60) - HT.sIx ns.length 0 none)
section
variable {P : Program} {w : World} {K : PySem.W.Frag} {mg : Str → Option Value} {base : Heap}
theorem ok_pen {f : Addr} {fd : FuncData} (F : Fun K "_law_pen" "_law_pen" sPen f fd) (T : TxtB mg) : FnOk P w K mg base CX0 1 f fd ["_law_script"] (spPen K) := by
  refine F.ok scPen (fun vs H Q E h => ?_) (fun cdv A outer s H vs Q E hr h => ?_)
  · obtain ⟨a, ns, rfl, _⟩ := h
    rfl
  · obtain ⟨a, ns, rfl, hS, k⟩ := h
    refine ⟨_, (pss_one (ps_ret (pe_disp (pps_cons pe_str (pe_callTy call_list_of (by rfl) T.blist (by decide +kernel) (pa_cons (pe_slice sl_list (pv 0) po_none (po_some pe_int)) pa_nil)) (pps_cons pe_str pe_int (pps_cons pe_str pe_int (pps_cons pe_str pe_int pps_nil)))) rfl rfl (by intro h; cases h) (by decide)))), ?_⟩
    intro p hp
    have s0 : Same H (upd H p (.dK [])) := Same.new hp
    have sq : SqL K (upd H p (.dK [])) a (ns.map V.int) := by
      rcases hS with (h | ⟨o, h⟩) | h
      · exact .inl (.inl (s0 _ _ h))
      · exact .inl (.inr ⟨o, s0 _ _ h⟩)
      · exact .inr h
    refine ⟨_, rfl, _, rfl, a, ns.map V.int, rfl, sq, fun d hd => ⟨d, _, rfl, .inl (SqL.of upd_same), fun c hc => ?_⟩⟩
    have s1 := s0.trans (Same.new (o := .lst (cutV (ns.map V.int) none (some 60))) hd)
    have s2 := s1.trans (Same.new (o := .lst (cutV (ns.map V.int) none (some 60))) hc)
    have n1 : p ≠ d := ne_of_none upd_same hd
    have n2 : p ≠ c := ne_of_none (by rw [upd_ne n1]; exact upd_same) hc
    have e : cutV (ns.map V.int) none (some 60) = (cutM ns).map V.int := by
      unfold cutV cutM
      rw [← List.map_drop, ← List.map_take, List.length_map]
    refine ⟨by rw [upd_ne n2, upd_ne n1]; exact upd_same, pd c 0 29 0, rfl, by show 4 ≤ 15; decide, ?_⟩
    have hm : mergeK [] (pd c 0 29 0) = pd c 0 29 0 := rfl
    rw [hm]
    refine k p c (cutM ns) _ hp (s1.free hc) ⟨upd_same, ?_, Int.le_refl _, by decide, by decide, Int.le_refl _⟩ (fun b o hb => ?_)
    · rw [upd_ne n2.symm, upd_same, e]
    · rw [upd_ne (ne_of_none hb hp)]
      exact s2 b o hb
theorem ok_pick {f : Addr} {fd : FuncData} (F : Fun K "_law_pick" "_law_pick" sPick f fd) (T : TxtB mg) (cDraw : C8.Cal P w K mg base 1 "_law_draw" spDraw []) : FnOk P w K mg base CX0 2 f fd ["_law_pen_here", "_law_some"] (spPick K) := by
  refine F.ok scPick (fun vs H Q E h => ?_) (fun cdv A outer s H vs Q E hr h => ?_)
  · obtain ⟨p, c, ns, r, s, n, a, xs, rfl, _⟩ := h
    rfl
  · obtain ⟨p, c, ns, r, sd, n, a, xs, rfl, Pn, hn, hS, h1, h2, h3, h4, k⟩ := h
    refine ⟨_, (pss_one (ps_ret (pe_ix ix_list (pv 1) (C8.pe_c cDraw hr (by decide) rfl (pa_cons (pv 0) (pa_cons (pe_callB call_len_seq (by rfl) T.blen (by decide +kernel) (pa_cons (pv 1) pa_nil)) pa_nil))) (fun _ _ => rfl)))), ?_⟩
    refine ⟨_, rfl, _, rfl, _, rfl, a, xs, rfl, .inl hS, ?_⟩
    refine ⟨p, c, ns, r, sd, n, _, rfl, Pn, hn, by omega, by omega, fun d H' d0 d1 hD => ?_⟩
    obtain ⟨_, _, _, _, _, _, hB⟩ := id hD
    obtain ⟨j, rfl⟩ := Int.eq_ofNat_of_zero_le d0
    have hj : j < xs.length := by omega
    exact ⟨a, xs, _, xs[j], rfl, rfl, hB.seq h1 h2 hS, atI_nat (List.getElem?_eq_getElem hj), k _ _ (List.getElem_mem hj) hD⟩
end
end K95

set_option linter.all false
namespace NX
open PySem PySem.Builtin PySem.Builtin.Str
theorem tw_all {p : Nat → Bool} : ∀ {l : List Nat}, l.all p = true → l.takeWhile p = l
  | [], _ => rfl
  | c :: r, h => by
    rw [List.all_cons, Bool.and_eq_true] at h
    rw [List.takeWhile_cons, if_pos h.1, tw_all h.2]
theorem tw_lt {p : Nat → Bool} {l : List Nat} (h : l.all p = false) : (l.takeWhile p).length < l.length := by
  induction l with
  | nil => simp at h
  | cons c r ih =>
    rw [List.all_cons] at h
    rw [List.takeWhile_cons]
    by_cases hc : p c = true
    · rw [if_pos hc, List.length_cons, List.length_cons]
      rw [hc, Bool.true_and] at h
      have := ih h
      omega
    · rw [if_neg hc]
      simp
theorem drop_all {p : Nat → Bool} {l : List Nat} (h : l.all p = false) : (l.drop (l.takeWhile p).length).all p = false := by
  induction l with
  | nil => simp at h
  | cons c r ih =>
    rw [List.all_cons] at h
    rw [List.takeWhile_cons]
    by_cases hc : p c = true
    · rw [if_pos hc, List.length_cons, List.drop_succ_cons]
      rw [hc, Bool.true_and] at h
      exact ih h
    · rw [if_neg hc]
      simp [hc]
theorem strip_empty (x y : Str) : (Txt.stripChars x y = ("" : Str)) ↔ x.cps.toList.all y.cps.contains = true := by
  have len : x.length = x.cps.toList.length := by show x.cps.size = _; simp
  have empty : ∀ {z : Str}, z = ("" : Str) ↔ z.cps.toList = [] := fun {z} => by
    constructor
    · intro e
      rw [e]
      decide +kernel
    · intro e
      obtain ⟨⟨l⟩⟩ := z
      have e' : l = [] := e
      subst e'
      decide +kernel
  unfold Txt.stripChars Txt.stripBy stripSame stripped stripLo stripHi
  simp only [if_true]
  cases ha : x.cps.toList.all y.cps.contains with
  | true =>
    rw [tw_all ha]
    refine ⟨fun _ => rfl, fun _ => ?_⟩
    split
    · rename_i q
      rw [Bool.and_eq_true, beq_iff_eq] at q
      exact empty.mpr (List.length_eq_zero_iff.mp q.1)
    · refine empty.mpr ?_
      simp [strSub, len]
  | false =>
    refine ⟨fun e => ?_, fun e => by cases e⟩
    exfalso
    have h1 := tw_lt ha
    have h2 : (((x.cps.toList.drop (x.cps.toList.takeWhile y.cps.contains).length).reverse).takeWhile y.cps.contains).length < (x.cps.toList.drop (x.cps.toList.takeWhile y.cps.contains).length).length := by
      have := tw_lt (p := y.cps.contains) (l := (x.cps.toList.drop (x.cps.toList.takeWhile y.cps.contains).length).reverse) (by rw [List.all_reverse]; exact drop_all ha)
      rwa [List.length_reverse] at this
    rw [List.length_drop] at h2
    split at e
    · rw [empty] at e
      rw [e] at ha
      cases ha
    · rw [empty] at e
      have q := congrArg List.length e
      simp [strSub] at q
      rw [len] at q
      simp at q h1 h2
      omega
/-- a small letter -/
def lett (c : Nat) : Bool := decide (97 ≤ c) && decide (c ≤ 122)
theorem letters_list : ("abcdefghijklmnopqrstuvwxyz" : Str).cps.toList = List.range' 97 26 := by decide +kernel
theorem letters_mem (c : Nat) : c ∈ ("abcdefghijklmnopqrstuvwxyz" : Str).cps.toList ↔ lett c = true := by
  rw [letters_list, List.mem_range'_1]
  unfold lett
  rw [Bool.and_eq_true, decide_eq_true_eq, decide_eq_true_eq]
  omega
theorem letters_has (c : Nat) : ("abcdefghijklmnopqrstuvwxyz" : Str).cps.contains c = lett c := by
  rw [Bool.eq_iff_iff, Array.contains_iff_mem, ← Array.mem_toList_iff]
  exact letters_mem c
/-- is it a name -/
def nm (z : Str) : Bool := decide (1 ≤ z.length) && (decide (z.length ≤ 6) && z.cps.toList.all lett)
theorem strip_nm (z : Str) : decide (Txt.stripChars z ("abcdefghijklmnopqrstuvwxyz" : Str) = ("" : Str)) = z.cps.toList.all lett := by
  rw [Bool.eq_iff_iff, decide_eq_true_eq, strip_empty]
  have e : ("abcdefghijklmnopqrstuvwxyz" : Str).cps.contains = lett := funext letters_has
  rw [e]
end NX

set_option Elab.async false
set_option linter.all false
set_option maxRecDepth 100000
set_option maxHeartbeats 4000000
/-! A rule of my own: «a, *b = xs», xs a list. -/
namespace NX
open PySem PySem.Spec PyProof.Rows L2
def gStar (K : PySem.W.Frag) (t : TGs) : TG := fun v σ H Q => ∃ (a : Addr) (x : V) (rest : List V), v = .ref a ∧ SqL K H a (x :: rest) ∧ rest.length < 16384 ∧ ∀ D, H D = none → t [x, .ref D] σ (upd H D (.lst rest)) Q
section
variable {X : Cx} {e1 e2 : Expr} {k : Nat} {pos sp : Pos} {t : TGs}
theorem pg_star (hc : X.calm = true) (h : PGs X [e1, e2] t) (hm : (assignEach [e1, .Starred e2 sp] X.env).map (·.2) = (assignEach [e1, e2] X.env).map (·.2) := by rfl) (hl : (assignEach [e1, .Starred e2 sp] X.env).length = 2 := by rfl)
    (hi : (assignEach [e1, .Starred e2 sp] X.env).findIdx? (·.1) = some 1 := by rfl) : PG X (.Tuple [e1, .Starred e2 sp] k pos) (gStar X.K t) := by
  refine ⟨fun pins s σ H v u Q I r hw => ?_⟩
  obtain ⟨a, x, rest, rfl, hq, hz, hw⟩ := hw
  cases r
  obtain ⟨its, rv, pl, _⟩ := I.list hq
  cases rv with
  | @cons _ u1 _ us ra rr =>
    have hlen : rest.length = us.length := Paired.length rr
    have ll := pl.isList
    have hlt : a ≠ s.heap.objs.size := by
      obtain ⟨o, ho, _⟩ := id ll
      exact Nat.ne_of_lt (Heap.lt_size ho)
    rw [PyProof.Rows.assign_Tuple]
    refine wpAny_bind (wpAny_standAt ?_)
    unfold unpack
    rw [hl, hi, hm]
    -- one is drawn, the others are collected, a new list is made of them
    have items : ∀ {R : List Value → Shared → Prop}, (∀ (h2 : Heap) tk, (∀ b o, s.heap.get? b = some o → h2.get? b = some o) → R [u1, .ref h2.objs.size] { s with heap := h2.push { cls := .type "list", data := .seq us.toArray }, toks := tk }) →
        wpAny (model X.prog X.w) X.A (unpackItems (.ref a) 2 (some 1)) R X.xe s := fun {R} hR => by
      unfold unpackItems
      refine wpAny_bind ?_
      unfold notIterableAtAll
      refine wpAny_bind (wpAny_specialOf ll.typeIs slot_list_iter.lookup (wpAny_pure ?_))
      simp only [Bool.false_eq_true, if_false]
      refine wpAny_bind (wpAny_holding (wpAny_pyIter_list ll ?_))
      refine wpAny_bind (wpAny_holding (PySem.W.kun_draw hlt 1 0 _ _ ⟨_, Heap.get?_push_size _ rfl, rfl, rfl⟩ (ll.push _) (by simp) fun h1 it1 sb1 => ?_))
      have l1 : h1.IsList a (u1 :: us).toArray := (ll.push _).extBut sb1.extBut hlt
      obtain ⟨oi, hoi, _⟩ := id it1
      obtain ⟨ol, hol, _⟩ := id l1
      have k1 : ∀ b o, s.heap.get? b = some o → h1.get? b = some o := fun b o e => sb1.extBut b o (Nat.ne_of_lt (Heap.lt_size e)) (Heap.get?_push_of_some _ e)
      show wpAny _ _ (if [u1].length < 1 then _ else _) _ _ _
      rw [if_neg (by simp)]
      refine wpAny_bind (wpAny_holding (PySem.W.kun_collect (s := { s with heap := h1 }) (T := "list_iterator") (.inr (.inr (.inl rfl))) (Walks.list (A := X.A.in1) (I.ok.hd hc) s.heap.objs.size a hlt (u1 :: us).toArray) (fun j u st => st.1.typeIs) (k := 1) (by simp) ⟨it1, l1⟩ (Heap.lt_size hoi) (Heap.lt_size hol) (fun h2 tk k2 => ?_) (by rw [sizeLine_eq]; simp; omega)))
      have e0 : (u1 :: us).toArray.toList.drop 1 = us := by simp
      rw [e0]
      show wpAny _ _ (if us.length < 2 - 1 - 1 then _ else _) _ _ _
      rw [if_neg (by omega)]
      have e1 : us.take (us.length - (2 - 1 - 1)) = us := by simp
      have e2 : us.drop (us.length - (2 - 1 - 1)) = [] := by simp
      have K2 : ∀ b o, s.heap.get? b = some o → h2.get? b = some o := fun b o e => k2 b o (Nat.ne_of_lt (Heap.lt_size e)) (k1 b o e)
      refine wpAny_bind (wpAny_newList (s := { s with heap := h2, toks := tk }) (wpAny_pure ?_) (by rw [e1, sizeLine_eq]; omega))
      have q := hR h2 tk K2
      rw [e1, e2]
      exact q
    refine wpAny_bind (wpAny_holding (items fun h2 tk kp => ?_))
    have I2 : Inv X pins σ H { s with heap := h2, toks := tk } := I.kept kp
    have hn : H h2.objs.size = none := I2.hok.fresh (Nat.le_refl _)
    have J : Inv X pins σ (upd H h2.objs.size (.lst rest)) { s with heap := h2.push { cls := .type "list", data := .seq us.toArray }, toks := tk } :=
      I2.laid (t' := tk) (h' := h2.push { cls := .type "list", data := .seq us.toArray }) (fun b o e => Heap.get?_push_of_some _ e) (Nat.le_refl _) ⟨by rw [sizeLine_eq]; omega, us, 0, rr, Heap.get?_push_size _ rfl⟩
    exact h.run pins _ σ _ [x, .ref h2.objs.size] [u1, .ref h2.objs.size] Q J (.cons ra (.cons rfl .nil)) (hw _ hn)
end
end NX

set_option Elab.async false
set_option linter.all false
set_option maxRecDepth 100000
set_option maxHeartbeats 4000000
namespace K95
open PySem L2 NX
abbrev sIs : Stmt := top 9
theorem scIs : FnScope ["value"] ["value"] (defScope sIs) := ⟨rfl, rfl, rfl, by decide +kernel, rfl, by decide +kernel, by decide +kernel⟩
/-- no text -/
def NoStr (K : PySem.W.Frag) (H : Hp) (x : V) : Prop := ∃ t, TyX K H x t ∧ PySem.W.kitOne K t (.type "str") = some false
def spIs (K : PySem.W.Frag) : Sp := fun vs H Q _ => ∃ x, vs = [x] ∧ ((∃ z, x = .str z ∧ z.length ≤ 1000 ∧ Q (.bl (nm z)) H) ∨ (NoStr K H x ∧ Q (.bl false) H))
structure TxtN (mg : Str → Option Value) : Prop where
  gLet : ∃ t, mg "LETTERS" = some (.str "abcdefghijklmnopqrstuvwxyz" t)
  gMost : ∃ t, mg "MOST_LETTERS" = some (.int 6 t)
section
variable {P : Program} {w : World} {K : PySem.W.Frag} {mg : Str → Option Value} {base : Heap}
theorem ok_is {f : Addr} {fd : FuncData} (F : Fun K "is_name" "is_name" sIs f fd) (T : TxtB mg) (N : TxtN mg) : FnOk P w K mg base CX0 1 f fd ["value"] (spIs K) := by
  refine F.ok scIs (fun vs H Q E h => ?_) (fun cdv A outer s H vs Q E hr h => ?_)
  · obtain ⟨x, rfl, _⟩ := h
    rfl
  · obtain ⟨x, rfl, h⟩ := h
    obtain ⟨t1, gL⟩ := N.gLet
    obtain ⟨t2, gM⟩ := N.gMost
    refine ⟨_, (pss_one (ps_ret (pe_and (pe_callB call_isi (by rfl) T.bisinstance (by decide +kernel) (pa_cons (pv 0) (pa_cons (pe_bltn (v := .ty "str") (by rfl) T.bstr (by decide +kernel) rfl) pa_nil))) (pe_and (pe_chain op_le op_le pe_int (pe_callB call_len_str (by rfl) T.blen (by decide +kernel) (pa_cons (pv 0) pa_nil)) (pe_glob (v := .int 6) rfl gM ⟨_, rfl⟩)) (pe_one (pe_cmpR op_eq (pe_bm PySem.F.plainAttrs_str PySem.F.slot_str_strip PySem.F.type_str_strip mt_stripChars (pv 0) (pa_cons (pe_glob (v := .str "abcdefghijklmnopqrstuvwxyz") rfl gL ⟨_, rfl⟩) pa_nil)) pe_str (nomark _))))))), ?_⟩
    rcases h with ⟨z, rfl, hz, q⟩ | ⟨⟨t, ty, k⟩, q⟩
    · refine ⟨_, rfl, _, _, _, _, true, rfl, .ty "str", .base (.str z), kit_ty (by decide +kernel), true, rfl, iteT ?_⟩
      refine ⟨_, rfl, z, rfl, Nat.le_of_lt (small1000 hz), 1, _, rfl, rfl, _, rfl, ite2 (fun h1 => ?_) (fun h1 => ?_)⟩
      · refine ⟨_, 6, rfl, rfl, _, rfl, ite2 (fun h2 => ?_) (fun h2 => ?_)⟩
        · have e : ∀ b : Bool, b = nm z → Q (.bl b) H := fun b e => by rw [e]; exact q
          refine ⟨_, rfl, rfl, z, _, rfl, rfl, Nat.le_trans hz (by decide), by rfl, e _ ?_⟩
          have e1 := of_decide_eq_true h1
          have e2 := of_decide_eq_true h2
          have g : decide (V.str (Txt.stripChars z (Str.ofString "abcdefghijklmnopqrstuvwxyz")) = V.str (Str.ofString "")) = decide (Txt.stripChars z ("abcdefghijklmnopqrstuvwxyz" : Str) = ("" : Str)) := by
            rw [Bool.eq_iff_iff, decide_eq_true_eq, decide_eq_true_eq]
            exact ⟨fun h => by injection h, fun h => by rw [← h]⟩
          rw [g, strip_nm]
          unfold nm
          rw [decide_eq_true (by omega : 1 ≤ z.length), decide_eq_true (by omega : z.length ≤ 6)]
          rfl
        · have e1 : ¬ (z.length ≤ 6) := fun h => h2 (decide_eq_true (by omega))
          have e : nm z = false := by unfold nm; rw [decide_eq_false e1]; simp
          rw [e] at q
          exact q
      · have e1 : ¬ (1 ≤ z.length) := fun h => h1 (decide_eq_true (by omega))
        have e : nm z = false := by unfold nm; rw [decide_eq_false e1]; simp
        rw [e] at q
        exact ⟨false, rfl, iteF q⟩
    · exact ⟨_, rfl, _, _, _, _, false, rfl, .ty "str", ty, k, false, rfl, iteF q⟩
end
end K95

set_option Elab.async false
set_option linter.all false
set_option maxRecDepth 100000
set_option maxHeartbeats 4000000
namespace K95
open PySem L2 NX
abbrev sErrN : Stmt := inClass (top 3) 0
abbrev sErrM : Stmt := inClass (top 4) 0
abbrev sInit : Stmt := inClass (top 11) 1
/-- what stood stands, and an error's dict at d is new -/
def Told (H : Hp) (d : Addr) (v : V) (H' : Hp) : Prop := Same H H' ∧ H d = none ∧ H' d = some (.xd [("value", v)])
def spErr (K : PySem.W.Frag) : Sp := fun vs H Q _ => ∃ (a C : Addr) (v : V), vs = [.ref a, v] ∧ OexC K C ∧ PySem.W.findIn K (.ref C) "value" = some none ∧ H a = some (exo a C none) ∧
  ∀ dx, H dx = none → dx ≠ a → Q .non (upd (upd H dx (exd dx [("value", v)])) a (exo a C (some dx)))
theorem scErrN : FnScope ["self", "value"] ["self", "value"] (defScope sErrN) := ⟨rfl, rfl, rfl, by decide +kernel, rfl, by decide +kernel, by decide +kernel⟩
theorem scErrM : FnScope ["self", "value"] ["self", "value"] (defScope sErrM) := ⟨rfl, rfl, rfl, by decide +kernel, rfl, by decide +kernel, by decide +kernel⟩
theorem scInit : FnScope ["self", "name"] ["self", "name"] (defScope sInit) := ⟨rfl, rfl, rfl, by decide +kernel, rfl, by decide +kernel, by decide +kernel⟩
/-- a name, or something that is none -/
def IsNm (K : PySem.W.Frag) (H : Hp) (v : V) (z : Str) : Prop := v = .str z ∧ z.length ≤ 1000 ∧ nm z = true
def NoNm (K : PySem.W.Frag) (H : Hp) (v : V) : Prop := (∃ z, v = .str z ∧ z.length ≤ 1000 ∧ nm z = false) ∨ NoStr K H v
/-- an object of a class of moves at x, with its word and its name -/
def spInit (K : PySem.W.Frag) (CN : Addr) : Sp := fun vs H Q E => ∃ (x C dx : Addr) (wd : Str) (u : Value) (v : V), vs = [.ref x, v] ∧ Cls K C ∧ Con K C "WORD" (.str wd) u ∧ NoAttr K C "word" ∧ NoAttr K C "name" ∧ H x = some (.ins C dx []) ∧
  ((∃ z, IsNm K H v z ∧ Q .non (upd (upd H x (.ins C dx [("word", .str wd)])) x (.ins C dx [("word", .str wd), ("name", .str z)]))) ∨ (NoNm K H v ∧ ∀ d H', Told H d v H' → E (.ref CN) (some d) H'))
section
variable {P : Program} {w : World} {K : PySem.W.Frag} {mg : Str → Option Value} {base : Heap}
theorem ok_errN {f : Addr} {fd : FuncData} (F : Fun K "__init__" "BadName.__init__" sErrN f fd) : FnOk P w K mg base CX0 1 f fd ["self", "value"] (spErr K) := by
  refine F.ok scErrN (fun vs H Q E h => ?_) (fun cdv A outer s H vs Q E hr h => ?_)
  · obtain ⟨a, C, v, rfl, _⟩ := h
    rfl
  · obtain ⟨a, C, v, rfl, T, hf, ha, k⟩ := h
    refine ⟨_, (pss_one (ps_ost (pv 0) (pv 1))), ?_⟩
    exact ⟨_, rfl, _, rfl, a, C, rfl, T, hf, .inl ⟨ha, fun dx h1 h2 => k dx h1 h2⟩⟩
theorem ok_errM {f : Addr} {fd : FuncData} (F : Fun K "__init__" "BadMove.__init__" sErrM f fd) : FnOk P w K mg base CX0 1 f fd ["self", "value"] (spErr K) := by
  refine F.ok scErrM (fun vs H Q E h => ?_) (fun cdv A outer s H vs Q E hr h => ?_)
  · obtain ⟨a, C, v, rfl, _⟩ := h
    rfl
  · obtain ⟨a, C, v, rfl, T, hf, ha, k⟩ := h
    refine ⟨_, (pss_one (ps_ost (pv 0) (pv 1))), ?_⟩
    exact ⟨_, rfl, _, rfl, a, C, rfl, T, hf, .inl ⟨ha, fun dx h1 h2 => k dx h1 h2⟩⟩
/-- an error class of ours, with its __init__ -/
structure ErrC (P : Program) (w : World) (K : PySem.W.Frag) (mg : Str → Option Value) (base : Heap) (x : Str) (C fI : Addr) : Prop where
  O : OexC K C
  i : PySem.W.findIn K (.ref C) "__init__" = some (some (.ref fI))
  t : PySem.W.typeIn K (.ref fI) = some (.type "function")
  ok : ∃ fd, FnOk P w K mg base CX0 1 fI fd ["self", "value"] (spErr K) ∧ Binds K fd ["self", "value"] []
  g : mg x = some (.ref C)
  v : PySem.W.findIn K (.ref C) "value" = some none
/-- what making an error of ours asks -/
theorem mkO_of {H : Hp} {C : Addr} {v : V} {Q : XK} (O : OexC K C) (hv : PySem.W.findIn K (.ref C) "value" = some none) (k : ∀ d H', Told H d v H' → Q (.ref C) (some d) H') :
    [v].length ≤ 1000 ∧ ∀ a : Addr, H a = none → spErr K (.ref a :: ([v] ++ [])) (upd H a (exo a C none)) (fun x H2 => x = .non ∧ ∃ (d : Addr) (fs : List (Str × V)), H2 a = some (exo a C (some d)) ∧ H2 d = some (exd d fs) ∧ H d = none ∧ Q (.ref C) (some d) (upd (L2.del H2 a) d (.xd fs))) (fun _ _ _ => False) := by
  refine ⟨by show 1 ≤ 1000; decide, fun a ha => ⟨a, C, v, rfl, O, hv, upd_same, fun d hd hne => ?_⟩⟩
  have hd' : H d = none := by rw [upd_ne hne] at hd; exact hd
  refine ⟨rfl, d, [("value", v)], upd_same, by rw [upd_ne hne]; exact upd_same, hd', k d _ ⟨fun b o hb => ?_, hd', upd_same⟩⟩
  have n1 : b ≠ d := fun e => by rw [e, hd'] at hb; cases hb
  have n2 : b ≠ a := fun e => by rw [e, ha] at hb; cases hb
  rw [upd_ne n1]
  unfold L2.del
  rw [if_neg n2, upd_ne n2, upd_ne n1, upd_ne n2]
  exact hb
theorem ok_init {CN fI : Addr} {f : Addr} {fd : FuncData} (F : Fun K "__init__" "Move.__init__" sInit f fd) (cIs : C8.Cal P w K mg base 1 "is_name" (spIs K) []) (B : ErrC P w K mg base "BadName" CN fI) : FnOk P w K mg base (CX P w) 3 f fd ["self", "name"] (spInit K CN) := by
  obtain ⟨fde, Fe, hbe⟩ := B.ok
  refine F.okX scInit (fun vs H Q E h => ?_) (fun cdv A outer s H vs Q E hr h => ?_)
  · obtain ⟨x, C, dx, wd, u, v, rfl, _⟩ := h
    rfl
  · obtain ⟨x, C, dx, wd, u, v, rfl, hC, hW, h1, h2, hx, h⟩ := h
    refine ⟨_, (pss_cons (ps_if (pt_not (pt_val (C8.pe_c cIs hr (by decide) rfl (pa_cons (pv 1) pa_nil)))) (pss_one (ps_raise rfl (takes_of rfl rfl rfl rfl) (pmk_oex (ds := []) (dvs := []) B.O B.i B.t Fe hr hbe .nil pass0 rfl B.g (pa_cons (pv 1) pa_nil)))) pss_nil)
      (pss_cons (ps_fld (pv 0) (pe_con (pv 0) rfl) rfl) (pss_one (ps_fld (pv 0) (pv 1) rfl)))), ?_⟩
    rcases h with ⟨z, ⟨rfl, hz, hn⟩, q⟩ | ⟨h, q⟩
    · refine ⟨_, rfl, _, rfl, .inl ⟨z, rfl, hz, ?_⟩⟩
      rw [hn]
      refine ⟨_, rfl, iteF ?_⟩
      refine ⟨_, rfl, x, C, dx, [], _, u, rfl, hx, hC, hW, rfl, _, rfl, x, C, dx, [], rfl, hx, hC, h1, by decide, ?_⟩
      refine ⟨_, rfl, _, rfl, x, C, dx, _, rfl, upd_same, hC, h2, by show 1 < 1000; decide, q⟩
    · refine ⟨_, rfl, _, rfl, ?_⟩
      rcases h with ⟨z, rfl, hz, hn⟩ | h
      · refine .inl ⟨z, rfl, hz, ?_⟩
        rw [hn]
        exact ⟨_, rfl, iteT ⟨_, rfl, mkO_of B.O B.v q⟩⟩
      · exact .inr ⟨h, _, rfl, iteT ⟨_, rfl, mkO_of B.O B.v q⟩⟩
end
end K95

set_option Elab.async false
set_option linter.all false
set_option maxRecDepth 100000
set_option maxHeartbeats 4000000
namespace K95
open PySem L2 NX
abbrev sRead : Stmt := inClass (top 11) 2
theorem scRead : FnScope ["cls", "text", "word", "names"] ["cls", "text"] (defScope sRead) := ⟨rfl, rfl, rfl, by decide +kernel, rfl, by decide +kernel, by decide +kernel⟩
/-- the four classes of moves -/
structure M4 where
  l : Addr
  a : Addr
  s : Addr
  f : Addr
def M4.of (m : M4) (wd : Str) : Addr := if wd = "load" then m.l else if wd = "again" then m.a else if wd = "store" then m.s else m.f
def isW (wd : Str) : Bool := decide (wd = "load") || (decide (wd = "again") || (decide (wd = "store") || decide (wd = "forget")))
structure MoveC (K : PySem.W.Frag) (mg : Str → Option Value) (fI : Addr) (x : Str) (C : Addr) (wd : Str) : Prop where
  cl : Cls K C
  con : ∃ u, Con K C "WORD" (.str wd) u
  nw : NoAttr K C "word"
  nn : NoAttr K C "name"
  mak : Mk K C fI
  g : mg x = some (.ref C)
  rd : ∃ mc u, ClX.CRead K C mc ∧ ClX.CVal K C mc "WORD" (.str wd) u
structure Mvs (K : PySem.W.Frag) (mg : Str → Option Value) (fI : Addr) (m : M4) : Prop where
  L : MoveC K mg fI "Load" m.l "load"
  A : MoveC K mg fI "Again" m.a "again"
  S : MoveC K mg fI "Store" m.s "store"
  F : MoveC K mg fI "Forget" m.f "forget"
/-- a move at x, new -/
def Made (m : M4) (H : Hp) (x dx : Addr) (wd n : Str) (H' : Hp) : Prop := Same H H' ∧ H x = none ∧ H' x = some (.ins (m.of wd) dx [("word", .str wd), ("name", .str n)])
theorem sameNone {H H' : Hp} {d : Addr} (s : Same H H') (h : H' d = none) : H d = none := by
  cases e : H d with
  | none => rfl
  | some o => rw [s d o e] at h; cases h
theorem Told.old {H H1 H' : Hp} {d : Addr} {v : V} (s : Same H H1) (t : Told H1 d v H') : Told H d v H' := ⟨s.trans t.1, sameNone s t.2.1, t.2.2⟩
theorem Made.old {m : M4} {H H1 H' : Hp} {x dx : Addr} {wd n : Str} (s : Same H H1) (t : Made m H1 x dx wd n H') : Made m H x dx wd n H' := ⟨s.trans t.1, sameNone s t.2.1, t.2.2⟩
/-- making a move of a name: what pe_make asks -/
theorem made_of {K : PySem.W.Frag} {mg : Str → Option Value} {fI CN : Addr} {m : M4} {x : Str} {C : Addr} {wd n : Str} {H : Hp} {Q : VK} {E : XK} (M : MoveC K mg fI x C wd) (hC : m.of wd = C) (hl : n.length ≤ 1000) (hn : nm n = true)
    (q : ∀ y dy H', Made m H y dy wd n H' → Q (.ref y) H') :
    ∀ y dy : Addr, H y = none → H dy = none → dy ≠ y → spInit K CN (.ref y :: ([.str n] ++ [])) (upd (upd H dy (.own y)) y (.ins C dy [])) (fun v H2 => v = .non ∧ Q (.ref y) H2) E := by
  intro y dy h1 h2 h3
  obtain ⟨u, hu⟩ := M.con
  refine ⟨y, C, dy, wd, u, .str n, rfl, M.cl, hu, M.nw, M.nn, upd_same, .inl ⟨n, ⟨rfl, hl, hn⟩, rfl, q y dy _ ⟨fun b o hb => ?_, h1, ?_⟩⟩⟩
  · have n1 : b ≠ y := fun e => by rw [e, h1] at hb; cases hb
    have n2 : b ≠ dy := fun e => by rw [e, h2] at hb; cases hb
    rw [upd_ne n1, upd_ne n1, upd_ne n1, upd_ne n2]
    exact hb
  · rw [hC]
    exact upd_same
def Parse (z wd n : Str) : Prop := Txt.split z " " = [wd, n] ∧ isW wd = true ∧ nm n = true
def NoMove (K : PySem.W.Frag) (H : Hp) (v : V) : Prop := (∃ z, v = .str z ∧ z.length ≤ 1000 ∧ ∀ wd n, ¬ Parse z wd n) ∨ NoStr K H v
def spRead (K : PySem.W.Frag) (m : M4) (CM : Addr) : Sp := fun vs H Q E => ∃ (c : Addr) (v : V), vs = [.ref c, v] ∧
  ((∃ z wd n, v = .str z ∧ z.length ≤ 1000 ∧ Parse z wd n ∧ ∀ x dx H', Made m H x dx wd n H' → Q (.ref x) H') ∨ (NoMove K H v ∧ ∀ d H', Told H d v H' → E (.ref CM) (some d) H'))
section
variable {P : Program} {w : World} {K : PySem.W.Frag} {mg : Str → Option Value} {base : Heap}
theorem ok_read {CN CM fI fN fM : Addr} {fdi : FuncData} {m : M4} {f : Addr} {fd : FuncData} (F : Fun K "read" "Move.read" sRead f fd) (T : TxtB mg) (cIs : C8.Cal P w K mg base 1 "is_name" (spIs K) []) (B : ErrC P w K mg base "BadMove" CM fM)
    (I : FnOk P w K mg base (CX P w) 3 fI fdi ["self", "name"] (spInit K CN)) (hbi : Binds K fdi ["self", "name"] []) (M : Mvs K mg fI m) : FnOk P w K mg base (CX P w) 5 f fd ["cls", "text"] (spRead K m CM) := by
  obtain ⟨fde, Fe, hbe⟩ := B.ok
  obtain ⟨ML, MA, MS, MF⟩ := M
  obtain ⟨CL, CA, CS, CF⟩ := m
  refine F.okX scRead (fun vs H Q E h => ?_) (fun cdv A outer s H vs Q E hr h => ?_)
  · obtain ⟨c, v, rfl, _⟩ := h
    rfl
  · obtain ⟨c, v, rfl, h⟩ := h
    refine ⟨_, (pss_cons (ps_if (pt_not (pt_val (pe_callB call_isi (by rfl) T.bisinstance (by decide +kernel) (pa_cons (pv 1) (pa_cons (pe_bltn (v := .ty "str") (by rfl) T.bstr (by decide +kernel) rfl) pa_nil))))) (pss_one (ps_raise rfl (takes_of rfl rfl rfl rfl) (pmk_oex (ds := []) (dvs := []) B.O B.i B.t Fe (hr.mono (by decide)) hbe .nil pass0 rfl B.g (pa_cons (pv 1) pa_nil)))) pss_nil)
      (pss_cons (ps_asg (pe_split (pv 1) pe_str) (pg_star rfl (pgs_cons (pg_name (i := 2) scRead.nd rfl (Or.inl rfl)) (pgs_cons (pg_name (i := 3) scRead.nd rfl (Or.inl rfl)) pgs_nil))))
      (pss_cons (ps_if (PW.pt (pw_or (pt_cmpR op_ne (pe_callB call_len_seq (by rfl) T.blen (by decide +kernel) (pa_cons (pv 3) pa_nil)) pe_int (nomark _)) (pw_or1 (pt_not (pt_val (C8.pe_c cIs hr (by decide) rfl (pa_cons (pe_ix ix_list (pv 3) pe_int (fun _ _ => rfl)) pa_nil))))))) (pss_one (ps_raise rfl (takes_of rfl rfl rfl rfl) (pmk_oex (ds := []) (dvs := []) B.O B.i B.t Fe (hr.mono (by decide)) hbe .nil pass0 rfl B.g (pa_cons (pv 1) pa_nil)))) pss_nil)
      (pss_cons (ps_if (pt_cmpR op_eq (pv 2) (ClX.pe_cval (C8.pe_gc (v := .ref CL) rfl ⟨_, ML.g, rfl⟩)) (nomark _)) (pss_one (ps_ret (pe_make (ds := []) (dvs := []) ML.mak I hr rfl ML.g hbi .nil passL (pa_cons (pe_ix ix_list (pv 3) pe_int (fun _ _ => rfl)) pa_nil)))) pss_nil)
      (pss_cons (ps_if (pt_cmpR op_eq (pv 2) (ClX.pe_cval (C8.pe_gc (v := .ref CA) rfl ⟨_, MA.g, rfl⟩)) (nomark _)) (pss_one (ps_ret (pe_make (ds := []) (dvs := []) MA.mak I hr rfl MA.g hbi .nil passL (pa_cons (pe_ix ix_list (pv 3) pe_int (fun _ _ => rfl)) pa_nil)))) pss_nil)
      (pss_cons (ps_if (pt_cmpR op_eq (pv 2) (ClX.pe_cval (C8.pe_gc (v := .ref CS) rfl ⟨_, MS.g, rfl⟩)) (nomark _)) (pss_one (ps_ret (pe_make (ds := []) (dvs := []) MS.mak I hr rfl MS.g hbi .nil passL (pa_cons (pe_ix ix_list (pv 3) pe_int (fun _ _ => rfl)) pa_nil)))) pss_nil)
      (pss_cons (ps_if (pt_cmpR op_eq (pv 2) (ClX.pe_cval (C8.pe_gc (v := .ref CF) rfl ⟨_, MF.g, rfl⟩)) (nomark _)) (pss_one (ps_ret (pe_make (ds := []) (dvs := []) MF.mak I hr rfl MF.g hbi .nil passL (pa_cons (pe_ix ix_list (pv 3) pe_int (fun _ _ => rfl)) pa_nil)))) pss_nil)
      (pss_one (ps_raise rfl (takes_of rfl rfl rfl rfl) (pmk_oex (ds := []) (dvs := []) B.O B.i B.t Fe (hr.mono (by decide)) hbe .nil pass0 rfl B.g (pa_cons (pv 1) pa_nil))))))))))), ?_⟩
    have hz : (∃ z, v = .str z ∧ z.length ≤ 1000 ∧ ((∃ wd n, Parse z wd n ∧ ∀ x dx H', Made ⟨CL, CA, CS, CF⟩ H x dx wd n H' → Q (.ref x) H') ∨ ((∀ wd n, ¬ Parse z wd n) ∧ ∀ d H', Told H d v H' → E (.ref CM) (some d) H'))) ∨ (NoStr K H v ∧ ∀ d H', Told H d v H' → E (.ref CM) (some d) H') := by
      rcases h with ⟨z, wd, n, e, hz, hp, q⟩ | ⟨⟨z, e, hz, hp⟩ | hs, q⟩
      · exact .inl ⟨z, e, hz, .inl ⟨wd, n, hp, q⟩⟩
      · exact .inl ⟨z, e, hz, .inr ⟨hp, q⟩⟩
      · exact .inr ⟨hs, q⟩
    rcases hz with ⟨z, rfl, hz, h⟩ | ⟨⟨t, ty, k⟩, q⟩
    · refine ⟨_, rfl, _, _, _, _, true, rfl, .ty "str", .base (.str z), kit_ty (by decide +kernel), true, rfl, iteF ?_⟩
      refine ⟨_, rfl, ⟨z, rfl⟩, z, _, rfl, rfl, by decide +kernel, Nat.le_trans (Nat.add_le_add_right hz 2) (by decide), fun p hp => ?_⟩
      have hpos := PyProof.Rows.split_pos z (Str.ofString " ")
      have hle := PyProof.Rows.split_le z (Str.ofString " ")
      have hsh : ∀ a, a ∈ Txt.split z (Str.ofString " ") → a.length ≤ 1000 := fun a ha => Nat.le_trans (PyProof.Rows.part_short ha) hz
      have s1 : Same H (upd H p (.lst ((Txt.split z (Str.ofString " ")).map V.str))) := Same.new hp
      obtain ⟨w0, rest, el⟩ : ∃ w0 rest, Txt.split z (Str.ofString " ") = w0 :: rest := by
        cases e : Txt.split z (Str.ofString " ") with
        | nil => rw [e] at hpos; cases hpos
        | cons a l => exact ⟨a, l, rfl⟩
      rw [el] at hle hsh s1
      rw [el]
      refine ⟨p, .str w0, rest.map V.str, rfl, SqL.of upd_same, ?_, fun D hD => ?_⟩
      · rw [List.length_map]
        simp only [List.length_cons] at hle
        omega
      have s2 : Same H (upd (upd H p (.lst ((w0 :: rest).map V.str))) D (.lst (rest.map V.str))) := s1.trans (Same.new hD)
      have bad : (∀ wd n, ¬ Parse z wd n) → ∀ d H', Told (upd (upd H p (.lst ((w0 :: rest).map V.str))) D (.lst (rest.map V.str))) d (.str z) H' → E (.ref CM) (some d) H' := fun hp d H' t => by
        rcases h with ⟨wd, n, h, _⟩ | ⟨_, q⟩
        · exact absurd h (hp wd n)
        · exact q d H' (t.old s2)
      refine ⟨_, _, rfl, _, _, rfl, rfl, _, rfl, D, _, rfl, .inl (SqL.of upd_same), rfl, _, rfl, ite2 (fun h1 => ?_) (fun h1 => ?_)⟩
      · have nl : rest.length ≠ 1 := fun e => by
          rw [List.length_map, e] at h1
          exact absurd h1 (by decide)
        refine ⟨_, rfl, mkO_of B.O B.v (bad fun wd n q => ?_)⟩
        have e := el.symm.trans q.1
        injection e with _ e
        rw [e] at nl
        exact nl rfl
      · obtain ⟨n, rfl⟩ : ∃ n, rest = [n] := by
          match rest, h1 with
          | [], h1 => exact absurd (by decide) h1
          | [n], h1 => exact ⟨n, rfl⟩
          | a :: b :: l, h1 =>
            refine absurd ?_ h1
            have n2 : ¬ (V.int ((List.map V.str (a :: b :: l)).length : Nat) = V.int 1) := fun e => by
              injection e with e
              rw [List.length_map] at e
              simp only [List.length_cons] at e
              omega
            rw [decide_eq_false n2]
            rfl
        have hln : n.length ≤ 1000 := hsh n (by simp)
        have good : isW w0 = true → nm n = true → ∀ x dx H', Made ⟨CL, CA, CS, CF⟩ (upd (upd H p (.lst ([w0, n].map V.str))) D (.lst ([n].map V.str))) x dx w0 n H' → Q (.ref x) H' := fun a b x dx H' t => by
          rcases h with ⟨wd, n', h, q⟩ | ⟨q, _⟩
          · have e := el.symm.trans h.1
            injection e with e1 e2
            injection e2 with e2
            rw [← e1, ← e2] at q
            exact q x dx H' (t.old s2)
          · exact absurd ⟨el, a, b⟩ (q w0 n)
        have badn : ¬ (isW w0 = true ∧ nm n = true) → ∀ wd n, ¬ Parse z wd n := fun h wd n' q => by
          have e := el.symm.trans q.1
          injection e with e1 e2
          injection e2 with e2
          rw [e1, e2] at h
          exact h q.2
        refine ⟨_, rfl, D, _, _, _, rfl, rfl, SqL.of upd_same, rfl, _, rfl, .inl ⟨n, rfl, hln, ?_⟩⟩
        cases hn : nm n with
        | false => exact ⟨_, rfl, iteT ⟨_, rfl, mkO_of B.O B.v (bad (badn fun q => by rw [hn] at q; cases q.2))⟩⟩
        | true =>
        refine ⟨_, rfl, iteF ?_⟩
        obtain ⟨mcL, uL, rL, vL⟩ := ML.rd
        refine ⟨_, rfl, _, mcL, _, uL, rfl, rL, vL, rfl, _, rfl, ite2 (fun h2 => ?_) (fun h2L => ?_)⟩
        · have e : w0 = Str.ofString "load" := by
            have e := of_decide_eq_true h2
            injection e
          refine ⟨_, rfl, D, _, _, _, rfl, rfl, SqL.of upd_same, rfl, made_of ML rfl hln hn fun y dy H' hm => ?_⟩
          rw [← e] at hm
          exact good (by rw [e]; decide +kernel) hn y dy H' hm
        obtain ⟨mcA, uA, rA, vA⟩ := MA.rd
        refine ⟨_, rfl, _, mcA, _, uA, rfl, rA, vA, rfl, _, rfl, ite2 (fun h2 => ?_) (fun h2A => ?_)⟩
        · have e : w0 = Str.ofString "again" := by
            have e := of_decide_eq_true h2
            injection e
          refine ⟨_, rfl, D, _, _, _, rfl, rfl, SqL.of upd_same, rfl, made_of MA rfl hln hn fun y dy H' hm => ?_⟩
          rw [← e] at hm
          exact good (by rw [e]; decide +kernel) hn y dy H' hm
        obtain ⟨mcS, uS, rS, vS⟩ := MS.rd
        refine ⟨_, rfl, _, mcS, _, uS, rfl, rS, vS, rfl, _, rfl, ite2 (fun h2 => ?_) (fun h2S => ?_)⟩
        · have e : w0 = Str.ofString "store" := by
            have e := of_decide_eq_true h2
            injection e
          refine ⟨_, rfl, D, _, _, _, rfl, rfl, SqL.of upd_same, rfl, made_of MS rfl hln hn fun y dy H' hm => ?_⟩
          rw [← e] at hm
          exact good (by rw [e]; decide +kernel) hn y dy H' hm
        obtain ⟨mcF, uF, rF, vF⟩ := MF.rd
        refine ⟨_, rfl, _, mcF, _, uF, rfl, rF, vF, rfl, _, rfl, ite2 (fun h2 => ?_) (fun h2F => ?_)⟩
        · have e : w0 = Str.ofString "forget" := by
            have e := of_decide_eq_true h2
            injection e
          refine ⟨_, rfl, D, _, _, _, rfl, rfl, SqL.of upd_same, rfl, made_of MF rfl hln hn fun y dy H' hm => ?_⟩
          rw [← e] at hm
          exact good (by rw [e]; decide +kernel) hn y dy H' hm
        have f : ∀ t : Str, ¬ decide (V.str w0 = V.str t) = true → decide (w0 = t) = false := fun t h => decide_eq_false fun e => h (decide_eq_true (by rw [e]))
        have hw : isW w0 = false := by
          unfold isW
          rw [f _ h2L, f _ h2A, f _ h2S, f _ h2F]
          rfl
        exact ⟨_, rfl, mkO_of B.O B.v (bad (badn fun q => by rw [hw] at q; cases q.1))⟩
    · refine ⟨_, rfl, _, _, _, _, false, rfl, .ty "str", ty, k, false, rfl, iteT ⟨_, rfl, mkO_of B.O B.v q⟩⟩
end
end K95

set_option Elab.async false
set_option linter.all false
set_option maxRecDepth 100000
set_option maxHeartbeats 4000000
/-! A rule of my own: str(x) of an object whose class has an own text. -/
namespace NX
open PySem PySem.Spec PyProof.Rows L2
section
variable {X : Cx} {n : Nat} {f : Addr} {fd : FuncData} {ps : List Str} {sp : Sp} {CX : CXT} {E : XK}
theorem run_own1 (F : FnOk X.prog X.w X.K X.mg X.base CX n f fd ps sp) (hb : Binds X.K fd ps []) (hx : Passes CX X E) {A : Around} {pins : List (Addr × Obj)} {σ : L2.St} {H : Hp} {s : Shared} {x : V} {u : Value} {Q : VK}
    (sb : Sub X n A) (I : Inv X pins σ H s) (rx : RelV x u) (q : sp [x] H Q E) : wpAny (model X.prog X.w) A (call (.ref f) [u]) (EP X pins σ Q) X.xe s := by
  have e := I.env0
  have e0 : Env0 X.prog X.w X.K X.mg X.base A X.stack s H := ⟨by rw [sb.fr]; exact e.frames, e.mod, e.bs, e.bsz, e.funs, e.frf, e.hok, e.bare⟩
  have hl : [u].length = ps.length := (F.len _ _ _ _ q)
  have r2 : Vals [x] [u] := .cons rx .nil
  refine wpAny_call (codeAny_mono (F.run A X.stack s H ⟨[u], []⟩ [u] [x] Q E sb.room e0 (by
    have z := hb s [u] I.kIn (by simpa using hl)
    simpa using z) r2 q) fun r s' hq => ?_)
  cases r with
  | error er => exact hx pins σ H s er s' I hq
  | ok fl =>
    cases fl with
    | ret w => exact I.after hq
    | next => exact False.elim hq
    | brk => exact False.elim hq
    | cont => exact False.elim hq
structure StrC (K : PySem.W.Frag) (C f : Addr) : Prop where
  st : PySem.W.findIn K (.ref C) "__str__" = some (some (.ref f))
  fn : PySem.W.isFn K (.ref f) = true
def rStrOwn (K : PySem.W.Frag) (f : Addr) (sp : Sp) (E : XK) : List V → Hp → VK → Prop := fun xs H Q => ∃ (a C dx : Addr) (fs : List (Str × V)), xs = [.ref a] ∧ H a = some (.ins C dx fs) ∧ StrC K C f ∧
  sp [.ref a] H (fun v H' => ∃ z, v = .str z ∧ Q (.str z) H') E
theorem call_strOwn (F : FnOk X.prog X.w X.K X.mg X.base CX n f fd ps sp) (hb : Binds X.K fd ps []) (hx : Passes CX X E) (hr : Room (n + 2) X.A) : CallR X (.type "str") (rStrOwn X.K f sp E) := by
  intro pins s σ H xs us Q I r h
  obtain ⟨a, C, dx, fs, rfl, ha, T, q⟩ := h
  obtain ⟨u, rfl, r1⟩ : ∃ u, us = [u] ∧ RelV (.ref a) u := by
    cases r with
    | cons r1 rn => cases rn; exact ⟨_, rfl, r1⟩
  obtain rfl : u = Value.ref a := r1
  obtain ⟨mA, O, _⟩ := ins_get I.hok ha
  obtain ⟨od, J, _⟩ := O.look
  refine PySem.W.kso_call hr.in1.in1.units0 I.kIn J T.st T.fn (wpAny_mono (run_own1 (x := .ref a) F hb hx ⟨hr.in1.in1, rfl⟩ I rfl q) (fun v s' hq => ?_) fun _ _ z => z)
  obtain ⟨w, H', I', rw', z, rfl, q'⟩ := hq
  obtain ⟨t, rfl⟩ := rw'
  exact ⟨.str z, H', I', ⟨t, rfl⟩, q'⟩
end
end NX

set_option Elab.async false
set_option linter.all false
set_option maxRecDepth 100000
set_option maxHeartbeats 4000000
namespace K95
open PySem L2 NX
abbrev sEqM : Stmt := inClass (top 11) 3
abbrev sStr : Stmt := inClass (top 11) 4
theorem scEqM : FnScope ["self", "other"] ["self", "other"] (defScope sEqM) := ⟨rfl, rfl, rfl, by decide +kernel, rfl, by decide +kernel, by decide +kernel⟩
theorem scStr : FnScope ["self"] ["self"] (defScope sStr) := ⟨rfl, rfl, rfl, by decide +kernel, rfl, by decide +kernel, by decide +kernel⟩
theorem tyOf_same {K : PySem.W.Frag} {H H' : Hp} {v : V} {t : Value} (s : Same H H') (h : TyOf K H v t) : TyOf K H' v t := by
  cases h with
  | non => exact .non
  | bl x => exact .bl x
  | int x => exact .int x
  | str x => exact .str x
  | flt x => exact .flt x
  | lst h => exact .lst (s _ _ h)
  | frz h => exact .frz (s _ _ h)
  | tup h => exact .tup (s _ _ h)
  | dK h => exact .dK (s _ _ h)
  | dT h => exact .dT (s _ _ h)
  | ins h a b c d e => exact .ins (s _ _ h) a b c d e
theorem tyX_same {K : PySem.W.Frag} {H H' : Hp} {v : V} {t : Value} (s : Same H H') (h : TyX K H v t) : TyX K H' v t := by
  cases h with
  | base h => exact .base (tyOf_same s h)
  | byt b => exact .byt b
  | set h => exact .set (s _ _ h)
  | kList a b => exact .kList a b
  | kTuple a b => exact .kTuple a b
  | kDict a b => exact .kDict a b
  | fTuple h => exact .fTuple (s _ _ h)
  | fDict h => exact .fDict (s _ _ h)
theorem NoStr.same {K : PySem.W.Frag} {H H' : Hp} {v : V} (s : Same H H') (h : NoStr K H v) : NoStr K H' v := by
  obtain ⟨t, a, b⟩ := h
  exact ⟨t, tyX_same s a, b⟩
theorem NoNm.same {K : PySem.W.Frag} {H H' : Hp} {v : V} (s : Same H H') (h : NoNm K H v) : NoNm K H' v := by
  rcases h with h | h
  · exact .inl h
  · exact .inr (NoStr.same s h)
theorem nm_len {n : Str} (h : nm n = true) : 1 ≤ n.length ∧ n.length ≤ 6 := by
  unfold nm at h
  rw [Bool.and_eq_true, Bool.and_eq_true, decide_eq_true_eq, decide_eq_true_eq] at h
  exact ⟨h.1, h.2.1⟩
theorem isW_cases {wd : Str} (h : isW wd = true) : wd = "load" ∨ wd = "again" ∨ wd = "store" ∨ wd = "forget" := by
  unfold isW at h
  rw [Bool.or_eq_true, Bool.or_eq_true, Bool.or_eq_true, decide_eq_true_eq, decide_eq_true_eq, decide_eq_true_eq, decide_eq_true_eq] at h
  exact h
theorem isW_len {wd : Str} (h : isW wd = true) : wd.length ≤ 6 := by
  rcases isW_cases h with e | e | e | e <;> subst e <;> decide +kernel
/-- what the classes of moves say of isinstance -/
structure KinC (K : PySem.W.Frag) (m : M4) (CMv : Addr) (wd : Str) : Prop where
  mv : PySem.W.kitOne K (.ref (m.of wd)) (.ref CMv) = some true
  cl : PySem.W.findIn K (.ref (m.of wd)) "__class__" = some (some (.builtin "object.__class__"))
  ob : PySem.W.mroIn K (m.of wd) (.type "object") = some true
structure KinK (K : PySem.W.Frag) (m : M4) (CMv : Addr) : Prop where
  sp : PySem.W.specialIn K (.builtin "object.__class__") "__get__" = some (some (.builtin "getset_descriptor.__get__"))
  tk : PySem.W.takesIn K (.builtin "object.__class__") = some true
  all : ∀ wd, isW wd = true → KinC K m CMv wd
/-- a move -/
def IsMove (m : M4) (H : Hp) (x : Addr) (wd n : Str) : Prop := ∃ dx, isW wd = true ∧ nm n = true ∧ H x = some (.ins (m.of wd) dx [("word", .str wd), ("name", .str n)])
theorem Made.is {m : M4} {H H' : Hp} {x dx : Addr} {wd n : Str} (h : Made m H x dx wd n H') (a : isW wd = true) (b : nm n = true) : IsMove m H' x wd n := ⟨dx, a, b, h.2.2⟩
theorem IsMove.same {m : M4} {H H' : Hp} {x : Addr} {wd n : Str} (s : Same H H') (h : IsMove m H x wd n) : IsMove m H' x wd n := by
  obtain ⟨dx, a, b, c⟩ := h
  exact ⟨dx, a, b, s _ _ c⟩
theorem Mvs.at_ {K : PySem.W.Frag} {mg : Str → Option Value} {fI : Addr} {m : M4} (M : Mvs K mg fI m) {wd : Str} (h : isW wd = true) : Cls K (m.of wd) ∧ NoAttr K (m.of wd) "word" ∧ NoAttr K (m.of wd) "name" := by
  rcases isW_cases h with e | e | e | e <;> subst e
  · exact ⟨M.L.cl, M.L.nw, M.L.nn⟩
  · exact ⟨M.A.cl, M.A.nw, M.A.nn⟩
  · exact ⟨M.S.cl, M.S.nw, M.S.nn⟩
  · exact ⟨M.F.cl, M.F.nw, M.F.nn⟩
theorem KinK.ty {K : PySem.W.Frag} {mg : Str → Option Value} {fI CMv : Addr} {m : M4} (k : KinK K m CMv) (M : Mvs K mg fI m) {H : Hp} {x : Addr} {wd n : Str} (h : IsMove m H x wd n) : TyX K H (.ref x) (.ref (m.of wd)) := by
  obtain ⟨dx, a, b, c⟩ := h
  exact .base (.ins c (M.at_ a).1 (k.all wd a).cl k.sp k.tk (k.all wd a).ob)
def tx (wd n : Str) : Str := Str.empty ++ wd ++ Str.ofString " " ++ n
def spStr (m : M4) : Sp := fun vs H Q _ => ∃ x wd n, vs = [.ref x] ∧ IsMove m H x wd n ∧ Q (.str (tx wd n)) H
def spEq (K : PySem.W.Frag) (m : M4) (CMv : Addr) : Sp := fun vs H Q _ => ∃ (x : Addr) (wd n : Str) (y : V), vs = [.ref x, y] ∧ IsMove m H x wd n ∧
  ((∃ x2 wd2 n2, y = .ref x2 ∧ IsMove m H x2 wd2 n2 ∧ Q (.bl (decide (wd = wd2) && decide (n = n2))) H) ∨ (∃ t, TyX K H y t ∧ PySem.W.kitOne K t (.ref CMv) = some false ∧ Q (.bl false) H))
/-- making a move of what is no name -/
theorem bad_of {K : PySem.W.Frag} {mg : Str → Option Value} {fI CN : Addr} {x : Str} {C : Addr} {wd : Str} {v : V} {H : Hp} {Q : VK} {E : XK} (M : MoveC K mg fI x C wd) (hn : NoNm K H v)
    (q : ∀ d H', Told H d v H' → E (.ref CN) (some d) H') :
    ∀ y dy : Addr, H y = none → H dy = none → dy ≠ y → spInit K CN (.ref y :: ([v] ++ [])) (upd (upd H dy (.own y)) y (.ins C dy [])) (fun v H2 => v = .non ∧ Q (.ref y) H2) E := by
  intro y dy h1 h2 h3
  obtain ⟨u, hu⟩ := M.con
  have s : Same H (upd (upd H dy (.own y)) y (.ins C dy [])) := (Same.new h2).trans (Same.new (by rw [upd_ne (Ne.symm h3)]; exact h1))
  exact ⟨y, C, dy, wd, u, v, rfl, M.cl, hu, M.nw, M.nn, upd_same, .inr ⟨hn.same s, fun d H' t => q d H' (t.old s)⟩⟩
theorem passOf {X : Cx} {E : XK} (tk : Takes X (fun cls d _ H => E cls d H)) : Passes (CX X.prog X.w) X E := fun pins σ H s e s' I h => passAt tk σ pins H s e s' I h
section
variable {P : Program} {w : World} {K : PySem.W.Frag} {mg : Str → Option Value} {base : Heap}
theorem ok_str {fI : Addr} {m : M4} {f : Addr} {fd : FuncData} (F : Fun K "__str__" "Move.__str__" sStr f fd) (M : Mvs K mg fI m) : FnOk P w K mg base CX0 1 f fd ["self"] (spStr m) := by
  refine F.ok scStr (fun vs H Q E h => ?_) (fun cdv A outer s H vs Q E hr h => ?_)
  · obtain ⟨x, wd, n, rfl, _⟩ := h
    rfl
  · obtain ⟨x, wd, n, rfl, ⟨dx, hw, hn, hx⟩, q⟩ := h
    obtain ⟨c1, c2, c3⟩ := M.at_ hw
    have l1 := isW_len hw
    have l2 := nm_len hn
    refine ⟨_, (pss_one (ps_ret (pe_joined (.cons (pe_fmt (pe_fld (pv 0) rfl)) (.cons pe_str (.cons (pe_fmt (pe_fld (pv 0) rfl)) .nil)))))), ?_⟩
    have e0 : (Str.empty : Str).length = 0 := by decide +kernel
    have e1 : (Str.ofString " ").length = 1 := by decide +kernel
    have e2 : (100 : Nat) ≤ sizeLine := by decide
    refine ⟨_, rfl, x, _, dx, _, _, rfl, hx, c1, c2, rfl, .inl ⟨wd, rfl, by omega, wd, rfl, ?_, ?_⟩⟩
    · rw [Str.length_append]
      omega
    refine ⟨_, rfl, ?_, _, rfl, x, _, dx, _, _, rfl, hx, c1, c3, rfl, .inl ⟨n, rfl, by omega, n, rfl, ?_, q⟩⟩
    · rw [Str.length_append, Str.length_append]
      omega
    · rw [Str.length_append, Str.length_append, Str.length_append]
      omega
theorem ok_eq {fI CMv : Addr} {m : M4} {f : Addr} {fd : FuncData} (F : Fun K "__eq__" "Move.__eq__" sEqM f fd) (T : TxtB mg) (M : Mvs K mg fI m) (k : KinK K m CMv) (gMv : mg "Move" = some (.ref CMv)) : FnOk P w K mg base CX0 1 f fd ["self", "other"] (spEq K m CMv) := by
  refine F.ok scEqM (fun vs H Q E h => ?_) (fun cdv A outer s H vs Q E hr h => ?_)
  · obtain ⟨x, wd, n, y, rfl, _⟩ := h
    rfl
  · obtain ⟨x, wd, n, y, rfl, ⟨dx, hw, hn, hx⟩, h⟩ := h
    obtain ⟨c1, c2, c3⟩ := M.at_ hw
    refine ⟨_, (pss_one (ps_ret (pe_and (pe_callB call_isi (by rfl) T.bisinstance (by decide +kernel) (pa_cons (pv 1) (pa_cons (C8.pe_gc (v := .ref CMv) rfl ⟨_, gMv, rfl⟩) pa_nil))) (pe_and (pe_cmpR op_eq (pe_fld (pv 0) rfl) (pe_fld (pv 1) rfl) (nomark _)) (pe_one (pe_cmpR op_eq (pe_fld (pv 0) rfl) (pe_fld (pv 1) rfl) (nomark _))))))), ?_⟩
    rcases h with ⟨x2, wd2, n2, rfl, h2, q⟩ | ⟨t, ty, kt, q⟩
    · have ty := k.ty M h2
      obtain ⟨dx2, hw2, hn2, hx2⟩ := h2
      obtain ⟨d1, d2, d3⟩ := M.at_ hw2
      refine ⟨_, rfl, _, _, _, _, true, rfl, .own CMv, ty, (k.all wd2 hw2).mv, true, rfl, iteT ?_⟩
      have e : ∀ a b : Str, decide (V.str a = V.str b) = decide (a = b) := fun a b => by
        rw [Bool.eq_iff_iff, decide_eq_true_eq, decide_eq_true_eq]
        exact ⟨fun h => by injection h, fun h => by rw [h]⟩
      refine ⟨_, rfl, x, _, dx, _, _, rfl, hx, c1, c2, rfl, _, rfl, x2, _, dx2, _, _, rfl, hx2, d1, d2, rfl, rfl, _, rfl, ite2 (fun h1 => ?_) (fun h1 => ?_)⟩
      · refine ⟨_, rfl, x, _, dx, _, _, rfl, hx, c1, c3, rfl, _, rfl, x2, _, dx2, _, _, rfl, hx2, d1, d3, rfl, rfl, ?_⟩
        rw [e] at h1 ⊢
        rw [h1] at q
        exact q
      · rw [e] at h1
        rw [Bool.eq_false_iff.mpr h1] at q
        exact q
    · exact ⟨_, rfl, _, _, _, _, false, rfl, .own CMv, ty, kt, false, rfl, iteF q⟩
end
end K95

set_option Elab.async false
set_option linter.all false
set_option maxRecDepth 100000
set_option maxHeartbeats 4000000
/-! The text of a plan. -/
namespace K95
open PySem L2 NX
abbrev sShow : Stmt := top 18
abbrev sRow : Stmt := top 19
theorem scShow : FnScope ["plan", "row"] ["plan"] (defScope sShow) := ⟨rfl, rfl, rfl, by decide +kernel, rfl, by decide +kernel, by decide +kernel⟩
theorem scRow : FnScope ["row", "move"] ["row"] (defScope sRow) := ⟨rfl, rfl, rfl, by decide +kernel, rfl, by decide +kernel, by decide +kernel⟩
/-- a walk over what is a list or a tuple -/
theorem pi_or {X : Cx} {tg l : Expr} {w1 w2 : TI} (h1 : PI X tg l w1) (h2 : PI X tg l w2) : PI X tg l (fun σ H R => w1 σ H R ∨ w2 σ H R) :=
  ⟨fun pins s σ H R I h => h.elim (h1.run pins s σ H R I) (h2.run pins s σ H R I)⟩
theorem sqL_same {K : PySem.W.Frag} {H H' : Hp} {a : Addr} {xs : List V} (s : Same H H') (h : SqL K H a xs) : SqL K H' a xs := by
  rcases h with (h | ⟨o, h⟩) | h
  · exact .inl (.inl (s _ _ h))
  · exact .inl (.inr ⟨o, s _ _ h⟩)
  · exact .inr h
theorem sqT_same {K : PySem.W.Frag} {H H' : Hp} {a : Addr} {xs : List V} (s : Same H H') (h : SqT K H a xs) : SqT K H' a xs := by
  rcases h with (h | ⟨o, h⟩) | h
  · exact .inl (.inl (s _ _ h))
  · exact .inl (.inr ⟨o, s _ _ h⟩)
  · exact .inr h
/-- a comprehension over what is a list or a tuple, item by item -/
theorem lc_either {K : PySem.W.Frag} {a : Addr} {xs : List V} {g : TG} {tt : TT} {te : TE} {vs : List Nat} {σ : St} {H1 : Hp} {D : Addr} {Qd : Hp → Prop} (Pv : Nat → Hp → Prop) (hS : SqL K H1 a xs ∨ SqT K H1 a xs) (h0 : Pv 0 (upd H1 D (.lst [])))
    (hk : ∀ i H, Pv i H → Same H1 H)
    (hs : ∀ i x H, xs[i]? = some x → Pv i H → g x (wipe σ vs) H fun σ2 H2 => wipe σ2 vs = wipe σ vs ∧ tt σ2 H2 fun b H3 =>
      if b = true then te σ2 H3 fun y H4 => ∃ acc, H4 D = some (.lst acc) ∧ acc.length < sizeLine ∧ Pv (i + 1) (upd H4 D (.lst (acc ++ [y]))) else Pv (i + 1) H3) (hd : ∀ H, Pv xs.length H → Qd H) :
    (∃ W : Nat → Nat → Hp → Prop, (∃ m, W 0 m (upd H1 D (.lst []))) ∧ ∀ i m H, W i m H →
      ((Itl K a).stop i H ∧ Qd H) ∨ ((Itl K a).go i H ∧ ∃ Nx : Hp → Prop, (∀ H', Nx H' → ∃ m', m' < m ∧ W (i + 1) m' H') ∧ ∀ x H', (Itl K a).yld i H x H' → g x (wipe σ vs) H' fun σ2 H2 => wipe σ2 vs = wipe σ vs ∧ tt σ2 H2 fun b H3 =>
        if b = true then te σ2 H3 fun y H4 => ∃ acc, H4 D = some (.lst acc) ∧ acc.length < sizeLine ∧ Nx (upd H4 D (.lst (acc ++ [y]))) else Nx H3)) ∨
    (∃ W : Nat → Nat → Hp → Prop, (∃ m, W 0 m (upd H1 D (.lst []))) ∧ ∀ i m H, W i m H →
      ((Itt K a).stop i H ∧ Qd H) ∨ ((Itt K a).go i H ∧ ∃ Nx : Hp → Prop, (∀ H', Nx H' → ∃ m', m' < m ∧ W (i + 1) m' H') ∧ ∀ x H', (Itt K a).yld i H x H' → g x (wipe σ vs) H' fun σ2 H2 => wipe σ2 vs = wipe σ vs ∧ tt σ2 H2 fun b H3 =>
        if b = true then te σ2 H3 fun y H4 => ∃ acc, H4 D = some (.lst acc) ∧ acc.length < sizeLine ∧ Nx (upd H4 D (.lst (acc ++ [y]))) else Nx H3)) := by
  rcases hS with h | h
  · exact .inl (lc_list (xs := xs) Pv h0 (fun i H _ p => sqL_same (hk i H p) h) hs hd)
  · exact .inr (lc_tup (xs := xs) Pv h0 (fun i H _ p => sqT_same (hk i H p) h) hs hd)
abbrev Ent := Str × Str
def okE (e : Ent) : Prop := isW e.1 = true ∧ nm e.2 = true
def txE (e : Ent) : Str := tx e.1 e.2
/-- a move, or the text of one -/
def Item (m : M4) (H : Hp) (v : V) (e : Ent) : Prop := okE e ∧ ((∃ x, v = .ref x ∧ IsMove m H x e.1 e.2) ∨ v = .str (txE e))
def rowT : List Ent → Str
  | [] => Str.ofString "-"
  | e :: r => Txt.join (Str.ofString ", ") ((e :: r).map txE)
structure RowAt (K : PySem.W.Frag) (m : M4) (H : Hp) (a : Addr) (es : List Ent) : Prop where
  ex : ∃ xs : List V, (SqL K H a xs ∨ SqT K H a xs) ∧ xs.length = es.length ∧ ∀ (i : Nat) (v : V) (e : Ent), xs[i]? = some v → es[i]? = some e → Item m H v e
  len : es.length ≤ 500
def spRow (K : PySem.W.Frag) (m : M4) : Sp := fun vs H Q _ => ∃ a es, vs = [.ref a] ∧ RowAt K m H a es ∧ ∀ H', Same H H' → Q (.str (rowT es)) H'
section
variable {P : Program} {w : World} {K : PySem.W.Frag} {mg : Str → Option Value} {base : Heap}
theorem txE_len {e : Ent} (h : okE e) : (txE e).length ≤ 13 := by
  have l1 := isW_len h.1
  have l2 := nm_len h.2
  have e0 : (Str.empty : Str).length = 0 := by decide +kernel
  have e1 : (Str.ofString " ").length = 1 := by decide +kernel
  unfold txE tx
  rw [Str.length_append, Str.length_append, Str.length_append]
  omega
theorem Item.same {m : M4} {H H' : Hp} {v : V} {e : Ent} (s : Same H H') (h : Item m H v e) : Item m H' v e := ⟨h.1, h.2.imp (fun ⟨x, a, b⟩ => ⟨x, a, b.same s⟩) id⟩
theorem sum_le : ∀ {es : List Ent}, (∀ e ∈ es, okE e) → ((es.map txE).map (·.length)).sum ≤ 13 * es.length
  | [], _ => by simp
  | e :: r, h => by
    have h1 := txE_len (h e List.mem_cons_self)
    have h2 := sum_le (es := r) fun x hx => h x (List.mem_cons_of_mem _ hx)
    simp only [List.map_cons, List.sum_cons, List.length_cons] at *
    omega
theorem join_ge (p x : Str) : ∀ r : List Str, x.length ≤ (Str.join p (x :: r)).length
  | [] => Nat.le_refl _
  | y :: r => by
    show x.length ≤ (x ++ p ++ Str.join p (y :: r)).length
    rw [Str.length_append, Str.length_append]
    omega
theorem join_le (p : Str) : ∀ ts : List Str, (Str.join p ts).length ≤ (ts.map (·.length)).sum + ts.length * p.length
  | [] => by
    show (Str.empty : Str).length ≤ _
    have e0 : (Str.empty : Str).length = 0 := by decide +kernel
    omega
  | [x] => by
    show x.length ≤ _
    simp only [List.map_cons, List.map_nil, List.sum_cons, List.sum_nil, List.length_cons, List.length_nil]
    omega
  | x :: y :: r => by
    have h := join_le p (y :: r)
    show (x ++ p ++ Str.join p (y :: r)).length ≤ _
    rw [Str.length_append, Str.length_append]
    simp only [List.map_cons, List.sum_cons, List.length_cons] at h ⊢
    have e : (r.length + 1 + 1) * p.length = (r.length + 1) * p.length + p.length := Nat.succ_mul _ _
    omega
theorem tx_pos {e : Ent} (h : okE e) : 1 ≤ (txE e).length := by
  have l2 := nm_len h.2
  unfold txE tx
  rw [Str.length_append, Str.length_append, Str.length_append]
  omega
theorem samePut {H H' : Hp} {D : Addr} {o : HO} (s : Same H H') (h : H D = none) : Same H (upd H' D o) := fun b u hb => by
  rw [upd_ne (ne_of_none hb h)]
  exact s b u hb
theorem ok_row {fSt : Addr} {fdSt : FuncData} {m : M4} {f : Addr} {fd : FuncData} (F : Fun K "row_line" "row_line" sRow f fd) (T : TxtB mg) (FSt : FnOk P w K mg base CX0 1 fSt fdSt ["self"] (spStr m)) (hbSt : Binds K fdSt ["self"] [])
    (cSt : ∀ wd, isW wd = true → NX.StrC K (m.of wd) fSt) : FnOk P w K mg base CX0 4 f fd ["row"] (spRow K m) := by
  refine F.ok scRow (fun vs H Q E h => ?_) (fun cdv A outer s H vs Q E hr h => ?_)
  · obtain ⟨a, es, rfl, _⟩ := h
    rfl
  · obtain ⟨a, es, rfl, ⟨⟨xs, hS, hl, hI⟩, h4⟩, k⟩ := h
    have hall : ∀ e ∈ es, okE e := fun e he => by
      obtain ⟨i, hi, rfl⟩ := List.mem_iff_getElem.mp he
      exact (hI i xs[i] es[i] (List.getElem?_eq_getElem (by omega)) (List.getElem?_eq_getElem hi)).1
    refine ⟨_, (pss_one (ps_ret (pe_orT (pe_join pe_str (pe_lc (own := [("move", 1)]) (g := gName 1) rfl scRow.nd (pi_or (pi_list (pv 0)) (pi_tup (pv 0))) (blkOk_by (own := [("move", 1)]) (N := ["row", "move"]) (sc := defScope sRow) (by decide +kernel)) (fun _ _ _ _ _ => (pg_name (i := 1) scRow.nd rfl (Or.inl rfl))) (fun _ _ _ _ _ => pts_nil) (fun _ _ _ _ _ => (pe_callTy (CallR.or SkE.call_str_str (show CallR _ (.type "str") (rStrOwn K fSt (spStr m) L2.E0) from call_strOwn FSt hbSt pass0 hr)) (by rfl) T.bstr (by decide +kernel) (pa_cons (pv 1) pa_nil))))) (pe_one pe_str)))), ?_⟩
    refine ⟨⟨_, rfl⟩, ?_⟩
    rcases hS with hS | hS
    · refine .inl ⟨_, rfl, a, rfl, ⟨xs, hS⟩, fun D hD => ?_⟩
      refine lc_list (xs := xs) (fun i H' => Same H H' ∧ H' D = some (.lst ((es.take i).map fun e => V.str (txE e)))) ⟨Same.new hD, upd_same⟩ (fun i H' _ p => sqL_same p.1 hS) ?_ ?_
      · intro i x H' hx hP
        obtain ⟨sP, dP⟩ := hP
        have hi : i < xs.length := (List.getElem?_eq_some_iff.mp hx).1
        have he : es[i]? = some (es[i]'(by omega)) := List.getElem?_eq_getElem (by omega)
        have it := (hI i x _ hx he).same sP
        have ha : ((es.take i).map fun e => V.str (txE e)).length < sizeLine := by
          rw [List.length_map, List.length_take]
          have : (16000000 : Nat) ≤ sizeLine := by decide
          omega
        have hn : (es.take i).map (fun e => V.str (txE e)) ++ [V.str (txE (es[i]'(by omega)))] = (es.take (i + 1)).map fun e => V.str (txE e) := by
          rw [List.take_add_one, he, List.map_append]
          rfl
        refine ⟨rfl, ?_⟩
        unfold tYes
        dsimp only
        rw [if_pos rfl]
        obtain ⟨ok, ⟨x', rfl, mv⟩ | rfl⟩ := it
        · obtain ⟨dx, hw, hn', hx'⟩ := id mv
          refine ⟨_, rfl, .inr ⟨x', _, dx, _, rfl, hx', cSt _ hw, x', _, _, rfl, mv, _, rfl, ?_⟩⟩
          exact ⟨_, dP, ha, samePut sP hD, by rw [upd_same]; exact congrArg (fun l => some (HO.lst l)) hn⟩
        · refine ⟨_, rfl, .inl ⟨_, rfl, ?_⟩⟩
          exact ⟨_, dP, ha, samePut sP hD, by rw [upd_same]; exact congrArg (fun l => some (HO.lst l)) hn⟩
      · intro H' hP
        obtain ⟨sP, dP⟩ := hP
        have e0 : es.take xs.length = es := by rw [hl, List.take_length]
        rw [e0] at dP
        have dP : H' D = some (.lst ((es.map txE).map V.str)) := by rw [List.map_map]; exact dP
        have e2 : (Str.ofString ", ").length = 2 := by decide +kernel
        have hsum := sum_le hall
        have hle := join_le (Str.ofString ", ") (es.map txE)
        rw [List.length_map, e2] at hle
        have hz : (16000000 : Nat) ≤ sizeLine := by decide
        refine ⟨_, D, es.map txE, rfl, rfl, .inl (SqL.of dP), by rw [List.length_map, e2]; omega, ?_⟩
        have hk := k H' sP
        rw [TL.join_eq]
        cases es with
        | nil => exact ⟨false, ⟨by show (Str.empty : Str).length ≤ sizeLine; decide, by rfl⟩, hk⟩
        | cons e r =>
          have h1 := tx_pos (hall e List.mem_cons_self)
          have h2 := join_ge (Str.ofString ", ") (txE e) (r.map txE)
          refine ⟨true, ⟨by omega, ?_⟩, ?_⟩
          · have h3 : ((Str.join (Str.ofString ", ") ((e :: r).map txE)).length : Int) ≠ 0 := by
              have : 1 ≤ (Str.join (Str.ofString ", ") ((e :: r).map txE)).length := Nat.le_trans h1 h2
              omega
            exact (bne_iff_ne.mpr h3).symm
          · have e3 : rowT (e :: r) = Str.join (Str.ofString ", ") ((e :: r).map txE) := TL.join_eq _ _
            rw [e3] at hk
            exact hk
    · refine .inr ⟨_, rfl, a, rfl, ⟨xs, hS⟩, fun D hD => ?_⟩
      refine lc_tup (xs := xs) (fun i H' => Same H H' ∧ H' D = some (.lst ((es.take i).map fun e => V.str (txE e)))) ⟨Same.new hD, upd_same⟩ (fun i H' _ p => sqT_same p.1 hS) ?_ ?_
      · intro i x H' hx hP
        obtain ⟨sP, dP⟩ := hP
        have hi : i < xs.length := (List.getElem?_eq_some_iff.mp hx).1
        have he : es[i]? = some (es[i]'(by omega)) := List.getElem?_eq_getElem (by omega)
        have it := (hI i x _ hx he).same sP
        have ha : ((es.take i).map fun e => V.str (txE e)).length < sizeLine := by
          rw [List.length_map, List.length_take]
          have : (16000000 : Nat) ≤ sizeLine := by decide
          omega
        have hn : (es.take i).map (fun e => V.str (txE e)) ++ [V.str (txE (es[i]'(by omega)))] = (es.take (i + 1)).map fun e => V.str (txE e) := by
          rw [List.take_add_one, he, List.map_append]
          rfl
        refine ⟨rfl, ?_⟩
        unfold tYes
        dsimp only
        rw [if_pos rfl]
        obtain ⟨ok, ⟨x', rfl, mv⟩ | rfl⟩ := it
        · obtain ⟨dx, hw, hn', hx'⟩ := id mv
          refine ⟨_, rfl, .inr ⟨x', _, dx, _, rfl, hx', cSt _ hw, x', _, _, rfl, mv, _, rfl, ?_⟩⟩
          exact ⟨_, dP, ha, samePut sP hD, by rw [upd_same]; exact congrArg (fun l => some (HO.lst l)) hn⟩
        · refine ⟨_, rfl, .inl ⟨_, rfl, ?_⟩⟩
          exact ⟨_, dP, ha, samePut sP hD, by rw [upd_same]; exact congrArg (fun l => some (HO.lst l)) hn⟩
      · intro H' hP
        obtain ⟨sP, dP⟩ := hP
        have e0 : es.take xs.length = es := by rw [hl, List.take_length]
        rw [e0] at dP
        have dP : H' D = some (.lst ((es.map txE).map V.str)) := by rw [List.map_map]; exact dP
        have e2 : (Str.ofString ", ").length = 2 := by decide +kernel
        have hsum := sum_le hall
        have hle := join_le (Str.ofString ", ") (es.map txE)
        rw [List.length_map, e2] at hle
        have hz : (16000000 : Nat) ≤ sizeLine := by decide
        refine ⟨_, D, es.map txE, rfl, rfl, .inl (SqL.of dP), by rw [List.length_map, e2]; omega, ?_⟩
        have hk := k H' sP
        rw [TL.join_eq]
        cases es with
        | nil => exact ⟨false, ⟨by show (Str.empty : Str).length ≤ sizeLine; decide, by rfl⟩, hk⟩
        | cons e r =>
          have h1 := tx_pos (hall e List.mem_cons_self)
          have h2 := join_ge (Str.ofString ", ") (txE e) (r.map txE)
          refine ⟨true, ⟨by omega, ?_⟩, ?_⟩
          · have h3 : ((Str.join (Str.ofString ", ") ((e :: r).map txE)).length : Int) ≠ 0 := by
              have : 1 ≤ (Str.join (Str.ofString ", ") ((e :: r).map txE)).length := Nat.le_trans h1 h2
              omega
            exact (bne_iff_ne.mpr h3).symm
          · have e3 : rowT (e :: r) = Str.join (Str.ofString ", ") ((e :: r).map txE) := TL.join_eq _ _
            rw [e3] at hk
            exact hk
/-- a plan: rows of moves or of texts of moves -/
structure PlanAt (K : PySem.W.Frag) (m : M4) (H : Hp) (a : Addr) (ess : List (List Ent)) : Prop where
  ex : ∃ xs : List V, (SqL K H a xs ∨ SqT K H a xs) ∧ xs.length = ess.length ∧ ∀ (i : Nat) (v : V) (es : List Ent), xs[i]? = some v → ess[i]? = some es → ∃ b, v = .ref b ∧ RowAt K m H b es
  len : ess.length ≤ 1001
def planT (ess : List (List Ent)) : Str := Str.join (Str.ofString "\n") (ess.map rowT)
def spShow (K : PySem.W.Frag) (m : M4) : Sp := fun vs H Q _ => ∃ a ess, vs = [.ref a] ∧ PlanAt K m H a ess ∧ ∀ H', Same H H' → Q (.str (planT ess)) H'
theorem RowAt.same {K : PySem.W.Frag} {m : M4} {H H' : Hp} {a : Addr} {es : List Ent} (s : Same H H') (h : RowAt K m H a es) : RowAt K m H' a es := by
  obtain ⟨⟨xs, hS, hl, hI⟩, h4⟩ := h
  exact ⟨⟨xs, hS.imp (sqL_same s) (sqT_same s), hl, fun i v e h1 h2 => (hI i v e h1 h2).same s⟩, h4⟩
theorem RowAt.all {K : PySem.W.Frag} {m : M4} {H : Hp} {a : Addr} {es : List Ent} (h : RowAt K m H a es) : ∀ e ∈ es, okE e := by
  obtain ⟨⟨xs, hS, hl, hI⟩, h4⟩ := h
  intro e he
  obtain ⟨i, hi, rfl⟩ := List.mem_iff_getElem.mp he
  exact (hI i xs[i] es[i] (List.getElem?_eq_getElem (by omega)) (List.getElem?_eq_getElem hi)).1
theorem rowT_le {es : List Ent} (h : ∀ e ∈ es, okE e) (h4 : es.length ≤ 500) : (rowT es).length ≤ 7500 := by
  cases es with
  | nil =>
    have e1 : (Str.ofString "-").length = 1 := by decide +kernel
    show (Str.ofString "-").length ≤ 7500
    omega
  | cons e r =>
    have e3 : rowT (e :: r) = Str.join (Str.ofString ", ") ((e :: r).map txE) := TL.join_eq _ _
    have hsum := sum_le h
    have hle := join_le (Str.ofString ", ") ((e :: r).map txE)
    have e2 : (Str.ofString ", ").length = 2 := by decide +kernel
    rw [List.length_map, e2] at hle
    rw [e3]
    omega
theorem rows_le : ∀ {ess : List (List Ent)}, (∀ es ∈ ess, (∀ e ∈ es, okE e) ∧ es.length ≤ 500) → ((ess.map rowT).map (·.length)).sum ≤ 7500 * ess.length
  | [], _ => by simp
  | e :: r, h => by
    have h1 := rowT_le (h e List.mem_cons_self).1 (h e List.mem_cons_self).2
    have h2 := rows_le (ess := r) fun x hx => h x (List.mem_cons_of_mem _ hx)
    simp only [List.map_cons, List.sum_cons, List.length_cons] at *
    omega
theorem ok_show {m : M4} {f : Addr} {fd : FuncData} (F : Fun K "show_plan" "show_plan" sShow f fd) (T : TxtB mg) (cRow : C8.Cal P w K mg base 4 "row_line" (spRow K m) []) : FnOk P w K mg base CX0 5 f fd ["plan"] (spShow K m) := by
  refine F.ok scShow (fun vs H Q E h => ?_) (fun cdv A outer s H vs Q E hr h => ?_)
  · obtain ⟨a, ess, rfl, _⟩ := h
    rfl
  · obtain ⟨a, ess, rfl, ⟨⟨xs, hS, hl, hI⟩, h9⟩, k⟩ := h
    have hall : ∀ es ∈ ess, (∀ e ∈ es, okE e) ∧ es.length ≤ 500 := fun es he => by
      obtain ⟨i, hi, rfl⟩ := List.mem_iff_getElem.mp he
      obtain ⟨b, _, hR⟩ := hI i xs[i] ess[i] (List.getElem?_eq_getElem (by omega)) (List.getElem?_eq_getElem hi)
      exact ⟨hR.all, hR.len⟩
    refine ⟨_, (pss_one (ps_ret (pe_join pe_str (pe_lc (own := [("row", 1)]) (g := gName 1) rfl scShow.nd (pi_or (pi_list (pv 0)) (pi_tup (pv 0))) (blkOk_by (own := [("row", 1)]) (N := ["plan", "row"]) (sc := defScope sShow) (by decide +kernel)) (fun _ _ _ _ _ => (pg_name (i := 1) scShow.nd rfl (Or.inl rfl))) (fun _ _ _ _ _ => pts_nil) (fun _ _ _ _ _ => (C8.pe_c cRow hr (by decide) rfl (pa_cons (pv 1) pa_nil))))))), ?_⟩
    refine ⟨⟨_, rfl⟩, ?_⟩
    rcases hS with hS | hS
    · refine .inl ⟨_, rfl, a, rfl, ⟨xs, hS⟩, fun D hD => ?_⟩
      refine lc_list (xs := xs) (fun i H' => Same H H' ∧ H' D = some (.lst ((ess.take i).map fun e => V.str (rowT e)))) ⟨Same.new hD, upd_same⟩ (fun i H' _ p => sqL_same p.1 hS) ?_ ?_
      · intro i x H' hx hP
        obtain ⟨sP, dP⟩ := hP
        have hi : i < xs.length := (List.getElem?_eq_some_iff.mp hx).1
        have he : ess[i]? = some (ess[i]'(by omega)) := List.getElem?_eq_getElem (by omega)
        obtain ⟨b, rfl, hR⟩ := hI i x _ hx he
        have hR := hR.same sP
        have ha : ((ess.take i).map fun e => V.str (rowT e)).length < sizeLine := by
          rw [List.length_map, List.length_take]
          have : (16000000 : Nat) ≤ sizeLine := by decide
          omega
        have hn : (ess.take i).map (fun e => V.str (rowT e)) ++ [V.str (rowT (ess[i]'(by omega)))] = (ess.take (i + 1)).map fun e => V.str (rowT e) := by
          rw [List.take_add_one, he, List.map_append]
          rfl
        refine ⟨rfl, ?_⟩
        unfold tYes
        dsimp only
        rw [if_pos rfl]
        refine ⟨_, rfl, b, _, rfl, hR, fun H2 s2 => ?_⟩
        exact ⟨_, s2 _ _ dP, ha, samePut (sP.trans s2) hD, by rw [upd_same]; exact congrArg (fun l => some (HO.lst l)) hn⟩
      · intro H' hP
        obtain ⟨sP, dP⟩ := hP
        have e0 : ess.take xs.length = ess := by rw [hl, List.take_length]
        rw [e0] at dP
        have dP : H' D = some (.lst ((ess.map rowT).map V.str)) := by rw [List.map_map]; exact dP
        have e1 : (Str.ofString "\n").length = 1 := by decide +kernel
        have hsum := rows_le hall
        refine ⟨_, D, ess.map rowT, rfl, rfl, .inl (SqL.of dP), by rw [List.length_map, e1]; omega, ?_⟩
        rw [TL.join_eq]
        exact k H' sP
    · refine .inr ⟨_, rfl, a, rfl, ⟨xs, hS⟩, fun D hD => ?_⟩
      refine lc_tup (xs := xs) (fun i H' => Same H H' ∧ H' D = some (.lst ((ess.take i).map fun e => V.str (rowT e)))) ⟨Same.new hD, upd_same⟩ (fun i H' _ p => sqT_same p.1 hS) ?_ ?_
      · intro i x H' hx hP
        obtain ⟨sP, dP⟩ := hP
        have hi : i < xs.length := (List.getElem?_eq_some_iff.mp hx).1
        have he : ess[i]? = some (ess[i]'(by omega)) := List.getElem?_eq_getElem (by omega)
        obtain ⟨b, rfl, hR⟩ := hI i x _ hx he
        have hR := hR.same sP
        have ha : ((ess.take i).map fun e => V.str (rowT e)).length < sizeLine := by
          rw [List.length_map, List.length_take]
          have : (16000000 : Nat) ≤ sizeLine := by decide
          omega
        have hn : (ess.take i).map (fun e => V.str (rowT e)) ++ [V.str (rowT (ess[i]'(by omega)))] = (ess.take (i + 1)).map fun e => V.str (rowT e) := by
          rw [List.take_add_one, he, List.map_append]
          rfl
        refine ⟨rfl, ?_⟩
        unfold tYes
        dsimp only
        rw [if_pos rfl]
        refine ⟨_, rfl, b, _, rfl, hR, fun H2 s2 => ?_⟩
        exact ⟨_, s2 _ _ dP, ha, samePut (sP.trans s2) hD, by rw [upd_same]; exact congrArg (fun l => some (HO.lst l)) hn⟩
      · intro H' hP
        obtain ⟨sP, dP⟩ := hP
        have e0 : ess.take xs.length = ess := by rw [hl, List.take_length]
        rw [e0] at dP
        have dP : H' D = some (.lst ((ess.map rowT).map V.str)) := by rw [List.map_map]; exact dP
        have e1 : (Str.ofString "\n").length = 1 := by decide +kernel
        have hsum := rows_le hall
        refine ⟨_, D, ess.map rowT, rfl, rfl, .inl (SqL.of dP), by rw [List.length_map, e1]; omega, ?_⟩
        rw [TL.join_eq]
        exact k H' sP
end
end K95

set_option Elab.async false
set_option linter.all false
set_option maxRecDepth 100000
set_option maxHeartbeats 4000000
/-! Two lists that are equal, asked by != : False. -/
namespace NQ
open PySem PySem.SeqAt GQ
open AutoSeq1 (wpAny_loadPart')
open MeetsSeq MeetsSeq2 MeetsSeq3 SeqRoads2
section
variable {P : Program} {w : World} {A : Around} {R : Result → Shared → Prop}
/-- the walk of != over two equal lists, from place i on -/
theorem ne_walk (p q : Addr) (N : Nat) (J : Nat → Shared → Prop) (two : ListI P w A (fun e t => R (.error e) t) p q N J) (out : ∀ t, J N t → R (.ok (.ret (.bool false))) t) :
    ∀ (left i : Nat), N - i = left → i ≤ N → ∀ t, J i t →
      wpAny (model P w) A.in1 (Builtin.«list.__eq__.loop» ⟨[.ref p, .ref q, rawInt i, rawInt 3], []⟩) (FinOf P w A R) (fun e t => R (.error e) t) t
  | 0, i, hk, hi, t, h => by
    obtain ⟨us, vs, k1, k2, hp, hq, z1, z2, _⟩ := two _ _ h
    obtain rfl : i = N := by omega
    have hR := out t h
    obtain ⟨hh, gg, dd, tt, oo⟩ := t
    wp_walk using wpAny_loadPart' hp, wpAny_loadPart' hq
    rw [show us[((i : Nat) : Int).toNat]? = none by simp; omega, show vs[((i : Nat) : Int).toNat]? = none by simp; omega]
    wp_walk using wpAny_loadPart' hp, wpAny_loadPart' hq
    show R (.ok (.ret (.bool (us.size != vs.size)))) _
    rw [show (us.size != vs.size) = false by rw [z1, z2]; simp]
    exact hR
  | left + 1, i, hk, hi, t, h => by
    obtain ⟨us, vs, k1, k2, hp, hq, z1, z2, one⟩ := two _ _ h
    have l1 : i < us.size := by omega
    have l2 : i < vs.size := by omega
    have turn := one l1 l2
    obtain ⟨hh, gg, dd, tt, oo⟩ := t
    wp_walk using wpAny_loadPart' hp, wpAny_loadPart' hq
    rw [show us[((i : Nat) : Int).toNat]? = some us[i] by simp [l1], show vs[((i : Nat) : Int).toNat]? = some vs[i] by simp [l2]]
    refine wpAny_bind (wpAny_mono turn (fun b t2 ⟨hb, h2⟩ => ?_) fun _ _ z => z)
    subst hb
    have on := ne_walk p q N J two out left (i + 1) (by omega) (by omega) t2 h2
    obtain ⟨hh2, gg2, dd2, tt2, oo2⟩ := t2
    wp_walk
    rw [show ((i : Int) + 1) = ((i + 1 : Nat) : Int) by omega]
    refine ⟨plainId_quiet plain_eq_loop _, codeAny_builtin entry_eq_loop ?_⟩
    rw [Around.under_plainId plain_eq_loop _]
    exact on
theorem list_ne (p q : Addr) (N : Nat) (J : Nat → Shared → Prop) (two : ListI P w A (fun e t => R (.error e) t) p q N J) (out : ∀ t, J N t → R (.ok (.ret (.bool false))) t) {t : Shared} (h : J 0 t) :
    wpAny (model P w) A.in1 (Builtin.«list.__ne__» ⟨[.ref p, .ref q], []⟩) (FinOf P w A R) (fun e t => R (.error e) t) t := by
  obtain ⟨us, vs, k1, k2, hp, hq, z1, z2, _⟩ := two _ _ h
  have on := ne_walk (A := A) (R := R) p q N J two out _ 0 rfl (Nat.zero_le _) t h
  obtain ⟨hh, gg, dd, tt, oo⟩ := t
  have sub := AutoSeq1.sub_list_list
  have same : ¬ (us.size != vs.size) = true := by simp [z1, z2]
  wp_walk using wpAny_loadPart' hp, wpAny_loadPart' hq
  refine ⟨plainId_quiet plain_eq_loop _, codeAny_builtin entry_eq_loop ?_⟩
  rw [Around.under_plainId plain_eq_loop _]
  exact on
end
section
variable {P : Program} {w : World} {A : Around} {E : Value → Shared → Prop} {t : Shared}
theorem rc_ne {p q : Addr} {N : Nat} {Q : Value → Shared → Prop} (hu : A.units < cLine) (J : Nat → Shared → Prop) (two : ListI P w A E p q N J) (out : ∀ t, J N t → Q (.bool false) t) (h : J 0 t) :
    wpAny (model P w) A (richCompare .NotEq (.ref p) (.ref q)) Q E t := by
  obtain ⟨us, vs, k1, k2, hp, hq, _, _, _⟩ := two _ _ h
  refine wpAny_richCompare_same_room (op := .NotEq) ⟨_, hp, rfl⟩ ⟨_, hq, rfl⟩ F.slot_list_ne (call_here F.slot_list_ne ⟨_, hp, rfl⟩ F.entry_list_ne (F.args_list_ne_2 _ _) ?_) hu
  exact list_ne (R := wants (fun v t => v ≠ .notImplemented ∧ Q v t) E) p q N J two (fun t z => ⟨(fun x => nomatch x), out t z⟩) h
end
open L2
/-- xs != ys, two lists whose items are equal in pairs -/
def rNeG (D : Eqv) : R2 := fun x y H Q => DList D x y H ∧ ∀ H', Ext H H' → Q (.bl false) H'
theorem op_neG {X : Cx} {n : Nat} {D : Eqv} (mono : Mon D) (h : EqG X n D) (hr : Room (n + 1) X.A) : OpR X (compareOp .NotEq) (rNeG D) := by
  intro pins s σ H x y v u Q I rx ry hq
  obtain ⟨⟨a, b, xs, ys, rfl, rfl, ha, hb, p⟩, q⟩ := hq
  cases rx
  cases ry
  show wpAny (model X.prog X.w) X.A (richCompare .NotEq (.ref a) (.ref b)) (EP X pins σ Q) X.xe s
  refine rc_ne (N := xs.length) hr.units0 (fun _ t => LoopI X pins σ H t) (fun i t z => ?_) (fun t ⟨H', I', e⟩ => ⟨.bl false, H', I', rfl, q H' e⟩) ⟨H, I, Ext.rfl'⟩
  obtain ⟨H1, I1, e1⟩ := id z
  obtain ⟨_, its, k, r, e⟩ := I1.hok a _ (e1 _ _ ha)
  obtain ⟨_, its2, k2, r2, e2⟩ := I1.hok b _ (e1 _ _ hb)
  exact ⟨its.toArray, its2.toArray, k, k2, e, e2, by rw [List.size_toArray, ← r.length], by rw [List.size_toArray, ← r2.length, ← p.1], fun h1 h2 => turnG mono h ⟨hr, rfl⟩ p r r2 i h1 h2 t z⟩
end NQ

set_option Elab.async false
set_option linter.all false
set_option maxRecDepth 100000
set_option maxHeartbeats 4000000
/-! A rule of my own: x(k=e, ..), x a def of the module, by keywords alone. -/
namespace NX
open PySem PySem.Spec PyProof.Rows L2
section
variable {X : Cx} {CX : CXT} {k : Nat} {f : Addr} {fd : FuncData} {ps ks : List Str} {sp : Sp} {E : XK} {x : Str} {p pos : Pos} {kws : List Keyword} {t : TA}
theorem pe_callKw (F : FnOk X.prog X.w X.K X.mg X.base CX k f fd ps sp) (hr : Room k X.A) (hg : Gl X x) (hm : X.mg x = some (.ref f)) (hk : PySem.W.keepIn X.K (.ref f) = true)
    (hb : ∀ (s : Shared) (us : List Value), us.length = ps.length → BindsTo s fd ⟨[], ks.zip us⟩ (ps.zip us)) (hx : Passes CX X E) (ha : PK X kws t)
    (hall : (backToKw pos (keywordEach kws X.env)).all (·.1.isSome) = true := by rfl) (hks : (backToKw pos (keywordEach kws X.env)).filterMap (·.1) = ks := by rfl) (hdb : (x == ("__debug__" : Str)) = false := by decide)
    (hpl : ((backTo pos (starEach [] X.env)).any (·.1) || (backToKw pos (keywordEach kws X.env)).any (·.1.isNone)) = false := by rfl) :
    PE X (.Call (.Name x p) [] kws pos) (fun σ H Q => t σ H fun vs H1 => sp vs H1 Q E) := by
  refine ⟨fun pins s σ H Q I h => wpAny_Call_Name_kw (ld_glob I hg hm ?_ hdb)⟩
  refine PySem.W.callWith_KW0 (h₀ := X.base) I.ok.mod.kin hk hall (thn (ha.run pos pins s σ H _ I h) fun us s1 ⟨vs, H1, I1, r, q⟩ => ⟨I1.kIn, ?_⟩) hpl
  rw [hks]
  have hl : us.length = ps.length := by rw [← F.len _ _ _ _ q, r.length]
  refine wpAny_call (codeAny_mono (F.run X.A X.stack s1 H1 ⟨[], ks.zip us⟩ us vs Q E hr I1.env0 (hb s1 us hl) r q) fun z s' hq => ?_)
  cases z with
  | error e => exact hx pins σ H1 s1 e s' I1 hq
  | ok fl =>
    cases fl with
    | ret u => exact I1.after hq
    | next => exact False.elim hq
    | brk => exact False.elim hq
    | cont => exact False.elim hq
end
end NX

set_option Elab.async false
set_option linter.all false
set_option maxRecDepth 100000
set_option maxHeartbeats 4000000
/-! What stands in the law's heap: lines, moves, and what stays. -/
namespace K95
open PySem L2 NX
theorem empty_append (a : Str) : Str.empty ++ a = a := by
  obtain ⟨x⟩ := a
  show Str.mk (#[] ++ x) = _
  rw [Array.empty_append]
theorem tx_eq (wd n : Str) : tx wd n = wd ++ Str.ofString " " ++ n := by
  unfold tx
  rw [empty_append]
theorem tx_join (wd n : Str) : Txt.join (Str.ofString " ") [wd, n] = tx wd n := by
  rw [TL.join_eq, tx_eq]
  rfl
theorem split_tx {wd n : Str} (h1 : isW wd = true) (h2 : nm n = true) : Txt.split (tx wd n) (Str.ofString " ") = [wd, n] := by
  rw [← tx_join]
  refine TL.split_join (s := 32) (S := []) (by decide +kernel) (by decide +kernel) (by simp) ?_
  intro p hp
  simp only [List.mem_cons, List.not_mem_nil, or_false] at hp
  rcases hp with e | e <;> subst e
  · rcases isW_cases h1 with e | e | e | e <;> subst e <;> decide +kernel
  · intro h
    unfold nm at h2
    rw [Bool.and_eq_true, Bool.and_eq_true, List.all_eq_true] at h2
    have z := h2.2.2 32 h
    revert z
    decide +kernel
theorem parse_tx {e : Ent} (h : okE e) : Parse (txE e) e.1 e.2 := ⟨split_tx h.1 h.2, h.1, h.2⟩
/-- a block that reads no name of the one around it -/
theorem blkOk_any {N : List Str} {sc scope : Scope} {own : List (Str × Nat)} (h : blkC N ⟨.function, [], false, false, []⟩ scope own = true) (nf : (scope.names.all fun y => !decide (y.2 = .free)) = true) : BlkOk N sc scope own := by
  obtain ⟨a, b, c, d, e⟩ := blkOk_by h
  refine ⟨a, b, c, fun y hy z => ?_, e⟩
  rw [List.all_eq_true] at nf
  have q := nf y hy
  rw [decide_eq_true z] at q
  cases q
/-- tuple(x) and sep.join(x), with the written part told -/
def rTup (K : PySem.W.Frag) : List V → Hp → VK → Prop := fun xs H Q => ∃ p ys, xs = [.ref p] ∧ ((SqL K H p ys ∧ ∀ l, H l = none → Q (.ref l) (upd H l (.tup ys))) ∨ (SqT K H p ys ∧ Q (.ref p) H))
def tJoin (K : PySem.W.Frag) (to te : TE) : TE := tM1 (fun x xs H Q => ∃ a p, ∃ ys : List Str, x = .str a ∧ xs = [.ref p] ∧ (SqL K H p (ys.map V.str) ∨ SqT K H p (ys.map V.str)) ∧ (ys.map (·.length)).sum + ys.length * a.length ≤ 16777216 ∧ Q (.str (Txt.join a ys)) H) to te
/-- two moves of one word and one name -/
def DMv (m : M4) : Eqv := fun x y H => ∃ a b wd n, x = .ref a ∧ y = .ref b ∧ IsMove m H a wd n ∧ IsMove m H b wd n
theorem isMove_ext {m : M4} {H H' : Hp} {x : Addr} {wd n : Str} (e : L2.Ext H H') (h : IsMove m H x wd n) : IsMove m H' x wd n := by
  obtain ⟨dx, a, b, c⟩ := h
  exact ⟨dx, a, b, e _ _ c⟩
theorem mon_mv (m : M4) : Mon (DMv m) := fun x y H H' e ⟨a, b, wd, n, hx, hy, h1, h2⟩ => ⟨a, b, wd, n, hx, hy, isMove_ext e h1, isMove_ext e h2⟩
abbrev DRow (m : M4) : Eqv := DList (DMv m)
theorem mon_row (m : M4) : Mon (DRow m) := mon_list (mon_mv m)
theorem eq_mv {X : Cx} {m : M4} {CMv f : Addr} {fd : FuncData} (F : FnOk X.prog X.w X.K X.mg X.base CX0 1 f fd ["self", "other"] (spEq X.K m CMv)) (hb : Binds X.K fd ["self", "other"] []) (c : ∀ wd, isW wd = true → NX.EqC X.K (m.of wd) f) : EqG X 1 (DMv m) := by
  have F2 : FnOk X.prog X.w X.K X.mg X.base CX0 1 f fd ["self", "other"] (L2.spEq fun a b H => ∃ wd n, IsMove m H a wd n ∧ IsMove m H b wd n) := F.imp fun vs H Q E h => by
    obtain ⟨a, b, rfl, ⟨wd, n, h1, h2⟩, q⟩ := h
    refine ⟨a, wd, n, .ref b, rfl, h1, .inl ⟨b, wd, n, rfl, h2, ?_⟩⟩
    rw [decide_eq_true rfl, decide_eq_true rfl]
    exact q H Ext.rfl'
  intro A pins s σ H x y u v sb I rx ry d
  obtain ⟨a, b, wd, n, rfl, rfl, h1, h2⟩ := d
  obtain ⟨dx, hw, hn, hx⟩ := id h1
  obtain ⟨dy, _, _, hy⟩ := id h2
  have k := c wd hw
  exact eqG_ins (C := m.of wd) F2 k.eq k.fn hb pass0 A pins s σ H _ _ u v sb I rx ry ⟨a, b, dx, dy, _, _, rfl, rfl, hx, hy, wd, n, h1, h2⟩
theorem eq_row {X : Cx} {m : M4} (h : EqG X 1 (DMv m)) : EqG X 2 (DRow m) := eqG_list (mon_mv m) h
/-- a line: the texts of its moves, in a list -/
structure Line (H : Hp) (p c b : Addr) (es : List Ent) : Prop where
  h : H b = some (.lst (es.map fun e => V.str (txE e)))
  np : b ≠ p
  nc : b ≠ c
  ok : ∀ e ∈ es, okE e
  len : es.length ≤ 500
structure Lines (H : Hp) (p c l : Addr) (bs : List Addr) (ess : List (List Ent)) : Prop where
  h : H l = some (.lst (bs.map V.ref))
  np : l ≠ p
  nc : l ≠ c
  len : bs.length = ess.length
  row : ∀ (i : Nat) (b : Addr) (es : List Ent), bs[i]? = some b → ess[i]? = some es → Line H p c b es
/-- a row of moves, in a list -/
structure MRow (m : M4) (H : Hp) (p c b : Addr) (es : List Ent) : Prop where
  ex : ∃ xs : List Addr, H b = some (.lst (xs.map V.ref)) ∧ xs.length = es.length ∧ ∀ (i : Nat) (x : Addr) (e : Ent), xs[i]? = some x → es[i]? = some e → IsMove m H x e.1 e.2
  np : b ≠ p
  nc : b ≠ c
  ok : ∀ e ∈ es, okE e
  len : es.length ≤ 500
structure MPlan (m : M4) (H : Hp) (p c a : Addr) (bs : List Addr) (ess : List (List Ent)) : Prop where
  h : H a = some (.lst (bs.map V.ref))
  np : a ≠ p
  nc : a ≠ c
  len : bs.length = ess.length
  row : ∀ (i : Nat) (b : Addr) (es : List Ent), bs[i]? = some b → ess[i]? = some es → MRow m H p c b es
theorem Line.but {H H' : Hp} {p c b : Addr} {es : List Ent} (B : But p c H H') (h : Line H p c b es) : Line H' p c b es := ⟨B _ _ h.h h.np h.nc, h.np, h.nc, h.ok, h.len⟩
theorem Lines.but {H H' : Hp} {p c l : Addr} {bs : List Addr} {ess : List (List Ent)} (B : But p c H H') (h : Lines H p c l bs ess) : Lines H' p c l bs ess := ⟨B _ _ h.h h.np h.nc, h.np, h.nc, h.len, fun i b es h1 h2 => (h.row i b es h1 h2).but B⟩
theorem isMove_but {m : M4} {H H' : Hp} {p c x : Addr} {ns : List Int} {r s n : Int} {wd nn : Str} (P : Pen H p c ns r s n) (B : But p c H H') (h : IsMove m H x wd nn) : IsMove m H' x wd nn := by
  obtain ⟨dx, a, b, hx⟩ := h
  refine ⟨dx, a, b, B _ _ hx (fun e => ?_) (fun e => ?_)⟩
  · rw [e, P.hp] at hx
    cases hx
  · rw [e, P.hc] at hx
    cases hx
theorem MRow.but {m : M4} {H H' : Hp} {p c b : Addr} {ns : List Int} {r s n : Int} {es : List Ent} (P : Pen H p c ns r s n) (B : But p c H H') (h : MRow m H p c b es) : MRow m H' p c b es := by
  obtain ⟨⟨xs, h1, h2, h3⟩, a, d, o, l⟩ := h
  exact ⟨⟨xs, B _ _ h1 a d, h2, fun i x e q1 q2 => isMove_but P B (h3 i x e q1 q2)⟩, a, d, o, l⟩
theorem MPlan.but {m : M4} {H H' : Hp} {p c a : Addr} {bs : List Addr} {ns : List Int} {r s n : Int} {ess : List (List Ent)} (P : Pen H p c ns r s n) (B : But p c H H') (h : MPlan m H p c a bs ess) : MPlan m H' p c a bs ess :=
  ⟨B _ _ h.h h.np h.nc, h.np, h.nc, h.len, fun i b es h1 h2 => (h.row i b es h1 h2).but P B⟩
theorem Line.at_ {K : PySem.W.Frag} {m : M4} {H : Hp} {p c b : Addr} {es : List Ent} (h : Line H p c b es) : RowAt K m H b es :=
  ⟨⟨_, .inl (SqL.of h.h), by rw [List.length_map], fun i v e h1 h2 => by
    rw [List.getElem?_map, h2] at h1
    cases h1
    exact ⟨h.ok e (List.mem_of_getElem? h2), .inr rfl⟩⟩, h.len⟩
theorem MRow.at_ {K : PySem.W.Frag} {m : M4} {H : Hp} {p c b : Addr} {es : List Ent} (h : MRow m H p c b es) : RowAt K m H b es := by
  obtain ⟨⟨xs, h1, h2, h3⟩, a, d, o, l⟩ := h
  refine ⟨⟨_, .inl (SqL.of h1), by rw [List.length_map, h2], fun i v e q1 q2 => ?_⟩, l⟩
  rw [List.getElem?_map] at q1
  obtain ⟨x, q3, rfl⟩ := Option.map_eq_some_iff.mp q1
  exact ⟨o e (List.mem_of_getElem? q2), .inl ⟨x, rfl, h3 i x e q3 q2⟩⟩
theorem Lines.at_ {K : PySem.W.Frag} {m : M4} {H : Hp} {p c l : Addr} {bs : List Addr} {ess : List (List Ent)} (h : Lines H p c l bs ess) (h9 : ess.length ≤ 1001) : PlanAt K m H l ess :=
  ⟨⟨_, .inl (SqL.of h.h), by rw [List.length_map, h.len], fun i v es q1 q2 => by
    rw [List.getElem?_map] at q1
    obtain ⟨b, q3, rfl⟩ := Option.map_eq_some_iff.mp q1
    exact ⟨b, rfl, (h.row i b es q3 q2).at_⟩⟩, h9⟩
theorem MPlan.at_ {K : PySem.W.Frag} {m : M4} {H : Hp} {p c a : Addr} {bs : List Addr} {ess : List (List Ent)} (h : MPlan m H p c a bs ess) (h9 : ess.length ≤ 1001) : PlanAt K m H a ess :=
  ⟨⟨_, .inl (SqL.of h.h), by rw [List.length_map, h.len], fun i v es q1 q2 => by
    rw [List.getElem?_map] at q1
    obtain ⟨b, q3, rfl⟩ := Option.map_eq_some_iff.mp q1
    exact ⟨b, rfl, (h.row i b es q3 q2).at_⟩⟩, h9⟩
/-- two rows of the same moves are equal -/
theorem MRow.eqv {m : M4} {H : Hp} {p c b p2 c2 b2 : Addr} {es : List Ent} (h : MRow m H p c b es) (h2 : MRow m H p2 c2 b2 es) : DRow m (.ref b) (.ref b2) H := by
  obtain ⟨⟨xs, a1, a2, a3⟩, _, _, o, _⟩ := h
  obtain ⟨⟨ys, b1, b2, b3⟩, _, _, _, _⟩ := h2
  refine ⟨_, _, _, _, rfl, rfl, a1, b1, by rw [List.length_map, List.length_map, a2, b2], fun i x y q1 q2 => ?_⟩
  rw [List.getElem?_map] at q1 q2
  obtain ⟨x, q3, rfl⟩ := Option.map_eq_some_iff.mp q1
  obtain ⟨y, q4, rfl⟩ := Option.map_eq_some_iff.mp q2
  have hi : i < es.length := by rw [← a2]; exact (List.getElem?_eq_some_iff.mp q3).1
  exact ⟨x, y, es[i].1, es[i].2, rfl, rfl, a3 i x _ q3 (List.getElem?_eq_getElem hi), b3 i y _ q4 (List.getElem?_eq_getElem hi)⟩
theorem MPlan.eqv {m : M4} {H : Hp} {p c a p2 c2 a2 : Addr} {bs bs2 : List Addr} {ess : List (List Ent)} (h : MPlan m H p c a bs ess) (h2 : MPlan m H p2 c2 a2 bs2 ess) : DList (DRow m) (.ref a) (.ref a2) H := by
  refine ⟨_, _, _, _, rfl, rfl, h.h, h2.h, by rw [List.length_map, List.length_map, h.len, h2.len], fun i x y q1 q2 => ?_⟩
  rw [List.getElem?_map] at q1 q2
  obtain ⟨b, q3, rfl⟩ := Option.map_eq_some_iff.mp q1
  obtain ⟨b2, q4, rfl⟩ := Option.map_eq_some_iff.mp q2
  have hi : i < ess.length := by rw [← h.len]; exact (List.getElem?_eq_some_iff.mp q3).1
  exact (h.row i b _ q3 (List.getElem?_eq_getElem hi)).eqv (h2.row i b2 _ q4 (List.getElem?_eq_getElem hi))
/-- the pen, with a bound on what was drawn -/
def PenB (H : Hp) (p c : Addr) (B : Int) : Prop := ∃ ns r s n, Pen H p c ns r s n ∧ n ≤ B
theorem PenB.mono {H : Hp} {p c : Addr} {B B' : Int} (h : PenB H p c B) (b : B ≤ B') : PenB H p c B' := by
  obtain ⟨ns, r, s, n, P, q⟩ := h
  exact ⟨ns, r, s, n, P, Int.le_trans q b⟩
theorem PenB.same {H H' : Hp} {p c : Addr} {B : Int} (h : PenB H p c B) (s : Same H H') : PenB H' p c B := by
  obtain ⟨ns, r, sd, n, P, q⟩ := h
  exact ⟨ns, r, sd, n, P.same s, q⟩
theorem PenB.put {H : Hp} {p c e : Addr} {o : HO} {B : Int} (h : PenB H p c B) (h1 : e ≠ p) (h2 : e ≠ c) : PenB (upd H e o) p c B := by
  obtain ⟨ns, r, sd, n, P, q⟩ := h
  exact ⟨ns, r, sd, n, ⟨by rw [upd_ne h1.symm]; exact P.hp, by rw [upd_ne h2.symm]; exact P.hc, P.lr, P.ls, P.lt, P.ln⟩, q⟩
theorem PenB.ne {H : Hp} {p c e : Addr} {B : Int} (h : PenB H p c B) (he : H e = none) : e ≠ p ∧ e ≠ c := by
  obtain ⟨ns, r, sd, n, P, q⟩ := h
  exact ⟨(ne_of_none P.hp he).symm, (ne_of_none P.hc he).symm⟩
theorem PenB.some_ {H : Hp} {p c : Addr} {B : Int} (h : PenB H p c B) : (H p).isSome = true ∧ (H c).isSome = true := by
  obtain ⟨ns, r, sd, n, P, q⟩ := h
  exact ⟨by rw [P.hp]; rfl, by rw [P.hc]; rfl⟩
theorem Drawn.penB {H H' : Hp} {p c : Addr} {m : Int} (h : Drawn H p c m H') : PenB H' p c m ∧ But p c H H' := by
  obtain ⟨ns, r, s, n, P, q, B⟩ := h
  exact ⟨⟨ns, r, s, n, P, q⟩, B⟩
theorem Lines.put {H : Hp} {p c l e : Addr} {o : HO} {bs : List Addr} {ess : List (List Ent)} (h : Lines H p c l bs ess) (h1 : e ≠ l) (h2 : ∀ b ∈ bs, b ≠ e) : Lines (upd H e o) p c l bs ess :=
  ⟨by rw [upd_ne h1.symm]; exact h.h, h.np, h.nc, h.len, fun i b es q1 q2 => by
    have z := h.row i b es q1 q2
    exact ⟨by rw [upd_ne (h2 b (List.mem_of_getElem? q1))]; exact z.h, z.np, z.nc, z.ok, z.len⟩⟩
theorem Lines.new {H : Hp} {p c l e : Addr} {bs : List Addr} {ess : List (List Ent)} (h : Lines H p c l bs ess) (he : H e = none) : e ≠ l ∧ ∀ b ∈ bs, b ≠ e := by
  refine ⟨(ne_of_none h.h he).symm, fun b hb => ?_⟩
  obtain ⟨i, hi, rfl⟩ := List.mem_iff_getElem.mp hb
  have z := h.row i bs[i] (ess[i]'(by rw [← h.len]; exact hi)) (List.getElem?_eq_getElem hi) (List.getElem?_eq_getElem _)
  exact ne_of_none z.h he
theorem Lines.snoc {H : Hp} {p c l e : Addr} {bs : List Addr} {ess : List (List Ent)} {es : List Ent} (h : Lines H p c l bs ess) (k : Line H p c e es) (h1 : e ≠ l) (h2 : l ∉ bs) : Lines (upd H l (.lst (bs.map V.ref ++ [V.ref e]))) p c l (bs ++ [e]) (ess ++ [es]) := by
  refine ⟨by rw [upd_same, List.map_append]; rfl, h.np, h.nc, by rw [List.length_append, List.length_append, h.len]; rfl, fun i b x q1 q2 => ?_⟩
  have up : ∀ {b : Addr} {x : List Ent}, Line H p c b x → b ≠ l → Line (upd H l (.lst (bs.map V.ref ++ [V.ref e]))) p c b x := fun z n => ⟨by rw [upd_ne n]; exact z.h, z.np, z.nc, z.ok, z.len⟩
  by_cases hi : i < bs.length
  · rw [List.getElem?_append_left hi] at q1
    rw [List.getElem?_append_left (by rw [← h.len]; exact hi)] at q2
    exact up (h.row i b x q1 q2) fun e => h2 (e ▸ List.mem_of_getElem? q1)
  · rw [List.getElem?_append_right (by omega)] at q1
    rw [List.getElem?_append_right (by rw [← h.len]; omega), ← h.len] at q2
    obtain ⟨rfl, rfl⟩ : e = b ∧ es = x := by
      cases hk : i - bs.length with
      | zero =>
        rw [hk] at q1 q2
        simp at q1 q2
        exact ⟨q1, q2⟩
      | succ n =>
        rw [hk] at q1
        simp at q1
    exact up k h1
/-- what reading the text of a plan tells -/
def goodP (ess : List (List Ent)) : Prop := 1 ≤ ess.length ∧ ess.length ≤ 1001 ∧ ∀ es ∈ ess, (∀ e ∈ es, okE e) ∧ es.length ≤ 500
def spReadP (m : M4) : Sp := fun vs H Q _ => ∃ ess, vs = [.str (planT ess)] ∧ goodP ess ∧ ∀ (r : Addr) (bs : List Addr) (H' : Hp), Same H H' → (∀ p c, (H p).isSome = true → (H c).isSome = true → MPlan m H' p c r bs ess) → Q (.ref r) H'
end K95

set_option Elab.async false
set_option linter.all false
set_option maxRecDepth 100000
set_option maxHeartbeats 4000000
/-! Texts of moves as data; rows that are lists or tuples; what a put keeps. -/
namespace K95
open PySem L2 NX
theorem yesI {σ : L2.St} {H : Hp} {F G : Hp → Prop} (h : F H) : tYes σ H (fun b H3 => if b = true then F H3 else G H3) := by
  show if true = true then F H else G H
  rw [if_pos rfl]
  exact h
def okS (z : Str) : Prop := ∀ ch ∈ z.cps.toList, ch < 256
/-- a short text of signs of small codes -/
def okL (z : Str) (k : Nat) : Prop := okS z ∧ z.length ≤ k
theorem cps_append (a b : Str) : (a ++ b).cps.toList = a.cps.toList ++ b.cps.toList := by
  show (a.cps ++ b.cps).toList = _
  rw [Array.toList_append]
theorem okL.append {a b : Str} {i j : Nat} (ha : okL a i) (hb : okL b j) : okL (a ++ b) (i + j) := by
  refine ⟨fun ch h => ?_, by rw [Str.length_append]; have := ha.2; have := hb.2; omega⟩
  rw [cps_append, List.mem_append] at h
  rcases h with h | h
  · exact ha.1 ch h
  · exact hb.1 ch h
theorem okL.mono {a : Str} {i j : Nat} (ha : okL a i) (h : i ≤ j) : okL a j := ⟨ha.1, Nat.le_trans ha.2 h⟩
theorem okL_nm {n : Str} (h : nm n = true) : okL n 6 := by
  refine ⟨fun ch hc => ?_, (nm_len h).2⟩
  unfold nm at h
  rw [Bool.and_eq_true, Bool.and_eq_true, List.all_eq_true] at h
  have z := h.2.2 ch hc
  unfold lett at z
  rw [Bool.and_eq_true, decide_eq_true_eq, decide_eq_true_eq] at z
  omega
theorem okL_w {wd : Str} (h : isW wd = true) : okL wd 6 := by
  refine ⟨?_, isW_len h⟩
  rcases isW_cases h with e | e | e | e <;> subst e <;> (unfold okS; decide +kernel)
theorem okL_c {z : Str} {k : Nat} (h : (z.cps.toList.all (fun ch => decide (ch < 256)) && decide (z.length ≤ k)) = true) : okL z k := by
  rw [Bool.and_eq_true, List.all_eq_true, decide_eq_true_eq] at h
  exact ⟨fun ch hc => of_decide_eq_true (h.1 ch hc), h.2⟩
theorem okL_tx {wd n : Str} (h1 : isW wd = true) (h2 : nm n = true) : okL (tx wd n) 13 := by
  rw [tx_eq]
  exact ((okL_w h1).append (okL_c (k := 1) (by decide +kernel))).append (okL_nm h2)
theorem strOk_of {a : Str} (h : okS a) : PyData.strOk a = true := by
  show a.cps.all (fun x => decide (x < 1114112)) = true
  rw [← Array.all_toList, List.all_eq_true]
  exact fun c hc => decide_eq_true (Nat.lt_trans (h c hc) (by decide))

/-- the texts of a line, as data -/
def lineD (es : List Ent) : PyData := .list (es.map fun e => PyData.str (txE e))
theorem dpLine {K : PySem.W.Frag} {H : Hp} : ∀ es : List Ent, DpAll K H (es.map fun e => V.str (txE e)) (es.map fun e => PyData.str (txE e))
  | [] => .nil
  | e :: r => .cons (.str _) (dpLine r)
theorem canLine : ∀ {es : List Ent}, (∀ e ∈ es, okE e) → PyData.canLayAll0 (es.map fun e => PyData.str (txE e)) = true
  | [], _ => rfl
  | e :: r, h => by
    have h1 : PyData.strOk (txE e) = true := strOk_of (okL_tx (h e List.mem_cons_self).1 (h e List.mem_cons_self).2).1
    have h2 := canLine (es := r) fun x hx => h x (List.mem_cons_of_mem _ hx)
    show (PyData.strOk (txE e) && PyData.canLayAll0 (r.map fun e => PyData.str (txE e))) = true
    rw [h1, h2]
    rfl
theorem depthLine : ∀ es : List Ent, PyData.depthAll (es.map fun e => PyData.str (txE e)) ≤ 1
  | [] => by decide
  | e :: r => by
    have h := depthLine r
    show max _ _ ≤ 1
    refine Nat.max_le.mpr ⟨by show 0 ≤ 1; exact Nat.zero_le _, h⟩
theorem shapedLine {es : List Ent} (h : ∀ e ∈ es, okE e) : SeqAt.shaped (lineD es) = true := by
  have h1 := canLine h
  have h2 := depthLine es
  unfold SeqAt.shaped lineD
  rw [Bool.and_eq_true, decide_eq_true_eq]
  refine ⟨h1, ?_⟩
  show _ + 1 ≤ 64
  omega

theorem eqv_nil {es : List Ent} : PyData.eqv (lineD es) (.list []) = decide (es = []) := by
  cases es with
  | nil => rfl
  | cons e r => rfl
theorem isMove_put {m : M4} {H : Hp} {x e : Addr} {ys : List V} {o : HO} {wd n : Str} (he : H e = some (.lst ys)) (h : IsMove m H x wd n) : IsMove m (upd H e o) x wd n := by
  obtain ⟨dx, a, b, hx⟩ := h
  refine ⟨dx, a, b, ?_⟩
  rw [upd_ne (fun z => by rw [z, he] at hx; cases hx)]
  exact hx
theorem MRow.put {m : M4} {H : Hp} {p c b e : Addr} {ys : List V} {o : HO} {es : List Ent} (he : H e = some (.lst ys)) (n : b ≠ e) (h : MRow m H p c b es) : MRow m (upd H e o) p c b es := by
  obtain ⟨⟨xs, h1, h2, h3⟩, a, d, ok, l⟩ := h
  exact ⟨⟨xs, by rw [upd_ne n]; exact h1, h2, fun i x e q1 q2 => isMove_put he (h3 i x e q1 q2)⟩, a, d, ok, l⟩
theorem MPlan.snoc {m : M4} {H : Hp} {p c a b : Addr} {bs : List Addr} {ess : List (List Ent)} {es : List Ent} (h : MPlan m H p c a bs ess) (k : MRow m H p c b es) (h1 : b ≠ a) (h2 : a ∉ bs) : MPlan m (upd H a (.lst (bs.map V.ref ++ [V.ref b]))) p c a (bs ++ [b]) (ess ++ [es]) := by
  refine ⟨by rw [upd_same, List.map_append]; rfl, h.np, h.nc, by rw [List.length_append, List.length_append, h.len]; rfl, fun i b' x q1 q2 => ?_⟩
  by_cases hi : i < bs.length
  · rw [List.getElem?_append_left hi] at q1
    rw [List.getElem?_append_left (by rw [← h.len]; exact hi)] at q2
    exact (h.row i b' x q1 q2).put h.h fun e => h2 (e ▸ List.mem_of_getElem? q1)
  · rw [List.getElem?_append_right (by omega)] at q1
    rw [List.getElem?_append_right (by rw [← h.len]; omega), ← h.len] at q2
    obtain ⟨rfl, rfl⟩ : b = b' ∧ es = x := by
      cases hk : i - bs.length with
      | zero =>
        rw [hk] at q1 q2
        simp at q1 q2
        exact ⟨q1, q2⟩
      | succ n =>
        rw [hk] at q1
        simp at q1
    exact k.put h.h h1
/-- rows of moves, lists or tuples, among the first i of a plan -/
structure TRow (m : M4) (H : Hp) (p c b : Addr) (es : List Ent) : Prop where
  ex : ∃ xs : List Addr, (H b = some (.lst (xs.map V.ref)) ∨ H b = some (.tup (xs.map V.ref))) ∧ xs.length = es.length ∧ ∀ (i : Nat) (x : Addr) (e : Ent), xs[i]? = some x → es[i]? = some e → IsMove m H x e.1 e.2
  np : b ≠ p
  nc : b ≠ c
  ok : ∀ e ∈ es, okE e
  len : es.length ≤ 500
theorem MRow.t {m : M4} {H : Hp} {p c b : Addr} {es : List Ent} (h : MRow m H p c b es) : TRow m H p c b es := by
  obtain ⟨⟨xs, h1, h2, h3⟩, a, d, ok, l⟩ := h
  exact ⟨⟨xs, .inl h1, h2, h3⟩, a, d, ok, l⟩
theorem TRow.put {m : M4} {H : Hp} {p c b e : Addr} {ys : List V} {o : HO} {es : List Ent} (he : H e = some (.lst ys)) (n : b ≠ e) (h : TRow m H p c b es) : TRow m (upd H e o) p c b es := by
  obtain ⟨⟨xs, h1, h2, h3⟩, a, d, ok, l⟩ := h
  exact ⟨⟨xs, by rw [upd_ne n]; exact h1, h2, fun i x e q1 q2 => isMove_put he (h3 i x e q1 q2)⟩, a, d, ok, l⟩
theorem TRow.but {m : M4} {H H' : Hp} {p c b : Addr} {ns : List Int} {r s n : Int} {es : List Ent} (P : Pen H p c ns r s n) (B : But p c H H') (h : TRow m H p c b es) : TRow m H' p c b es := by
  obtain ⟨⟨xs, h1, h2, h3⟩, a, d, o, l⟩ := h
  exact ⟨⟨xs, h1.imp (fun z => B _ _ z a d) (fun z => B _ _ z a d), h2, fun i x e q1 q2 => isMove_but P B (h3 i x e q1 q2)⟩, a, d, o, l⟩
theorem TRow.at_ {K : PySem.W.Frag} {m : M4} {H : Hp} {p c b : Addr} {es : List Ent} (h : TRow m H p c b es) : RowAt K m H b es := by
  obtain ⟨⟨xs, h1, h2, h3⟩, a, d, o, l⟩ := h
  refine ⟨⟨xs.map V.ref, h1.imp SqL.of SqT.of, by rw [List.length_map, h2], fun i v e q1 q2 => ?_⟩, l⟩
  rw [List.getElem?_map] at q1
  obtain ⟨x, q3, rfl⟩ := Option.map_eq_some_iff.mp q1
  exact ⟨o e (List.mem_of_getElem? q2), .inl ⟨x, rfl, h3 i x e q3 q2⟩⟩
structure TPlan (m : M4) (H : Hp) (p c a : Addr) (bs : List Addr) (ess : List (List Ent)) : Prop where
  h : H a = some (.lst (bs.map V.ref))
  np : a ≠ p
  nc : a ≠ c
  len : bs.length = ess.length
  row : ∀ (i : Nat) (b : Addr) (es : List Ent), bs[i]? = some b → ess[i]? = some es → TRow m H p c b es
theorem TPlan.but {m : M4} {H H' : Hp} {p c a : Addr} {bs : List Addr} {ns : List Int} {r s n : Int} {ess : List (List Ent)} (P : Pen H p c ns r s n) (B : But p c H H') (h : TPlan m H p c a bs ess) : TPlan m H' p c a bs ess :=
  ⟨B _ _ h.h h.np h.nc, h.np, h.nc, h.len, fun i b es h1 h2 => (h.row i b es h1 h2).but P B⟩
theorem TPlan.at_ {K : PySem.W.Frag} {m : M4} {H : Hp} {p c a : Addr} {bs : List Addr} {ess : List (List Ent)} (h : TPlan m H p c a bs ess) (h9 : ess.length ≤ 1001) : PlanAt K m H a ess :=
  ⟨⟨_, .inl (SqL.of h.h), by rw [List.length_map, h.len], fun i v es q1 q2 => by
    rw [List.getElem?_map] at q1
    obtain ⟨b, q3, rfl⟩ := Option.map_eq_some_iff.mp q1
    exact ⟨b, rfl, (h.row i b es q3 q2).at_⟩⟩, h9⟩
theorem TPlan.snoc {m : M4} {H : Hp} {p c a b : Addr} {bs : List Addr} {ess : List (List Ent)} {es : List Ent} (h : TPlan m H p c a bs ess) (k : TRow m H p c b es) (h1 : b ≠ a) (h2 : a ∉ bs) : TPlan m (upd H a (.lst (bs.map V.ref ++ [V.ref b]))) p c a (bs ++ [b]) (ess ++ [es]) := by
  refine ⟨by rw [upd_same, List.map_append]; rfl, h.np, h.nc, by rw [List.length_append, List.length_append, h.len]; rfl, fun i b' x q1 q2 => ?_⟩
  by_cases hi : i < bs.length
  · rw [List.getElem?_append_left hi] at q1
    rw [List.getElem?_append_left (by rw [← h.len]; exact hi)] at q2
    exact (h.row i b' x q1 q2).put h.h fun e => h2 (e ▸ List.mem_of_getElem? q1)
  · rw [List.getElem?_append_right (by omega)] at q1
    rw [List.getElem?_append_right (by rw [← h.len]; omega), ← h.len] at q2
    obtain ⟨rfl, rfl⟩ : b = b' ∧ es = x := by
      cases hk : i - bs.length with
      | zero =>
        rw [hk] at q1 q2
        simp at q1 q2
        exact ⟨q1, q2⟩
      | succ n =>
        rw [hk] at q1
        simp at q1
    exact k.put h.h h1
theorem MPlan.put {m : M4} {H : Hp} {p c a e : Addr} {bs : List Addr} {ess : List (List Ent)} {ys : List V} {o : HO} (h : MPlan m H p c a bs ess) (he : H e = some (.lst ys)) (h1 : a ≠ e) (h2 : e ∉ bs) : MPlan m (upd H e o) p c a bs ess :=
  ⟨by rw [upd_ne h1]; exact h.h, h.np, h.nc, h.len, fun i b es q1 q2 => (h.row i b es q1 q2).put he fun z => h2 (z ▸ List.mem_of_getElem? q1)⟩
theorem MPlan.new {m : M4} {H : Hp} {p c a e : Addr} {bs : List Addr} {ess : List (List Ent)} (h : MPlan m H p c a bs ess) (he : H e = none) : a ≠ e ∧ e ∉ bs := by
  refine ⟨ne_of_none h.h he, fun hb => ?_⟩
  obtain ⟨i, hi, q⟩ := List.mem_iff_getElem.mp hb
  obtain ⟨⟨xs, z, _⟩, _⟩ := h.row i bs[i] (ess[i]'(by rw [← h.len]; exact hi)) (List.getElem?_eq_getElem hi) (List.getElem?_eq_getElem _)
  rw [q, he] at z
  cases z
end K95

set_option Elab.async false
set_option linter.all false
set_option maxRecDepth 100000
set_option maxHeartbeats 4000000
/-! The words of a line of a plan. -/
namespace K95
open PySem L2 NX
def comma : Str := Str.ofString ","
theorem comma_l : comma.cps.toList = [44] := by decide +kernel
theorem comma_n : comma.length = 1 := by decide +kernel
theorem str_ext {a b : Str} (h : a.cps.toList = b.cps.toList) : a = b := by
  obtain ⟨⟨x⟩⟩ := a
  obtain ⟨⟨y⟩⟩ := b
  have e : x = y := h
  rw [e]
theorem len_l (a : Str) : a.length = a.cps.toList.length := by
  show a.cps.size = _
  simp
theorem nm_no {n : Str} (h : nm n = true) {c : Nat} (hc : lett c = false) : c ∉ n.cps.toList := fun hm => by
  unfold nm at h
  rw [Bool.and_eq_true, Bool.and_eq_true, List.all_eq_true] at h
  have z := h.2.2 c hm
  rw [hc] at z
  cases z
theorem rms_comma {n : Str} : Txt.removesuffix (n ++ comma) comma = n := by
  rw [StrLaws.removesuffix_eq]
  have l1 : (n ++ comma).length = n.length + 1 := by rw [Str.length_append, comma_n]
  have l2 : (n ++ comma).length - comma.length = n.length := by rw [l1, comma_n]; omega
  have hn : n.length = n.cps.toList.length := len_l n
  have s : Builtin.Str.subAt (n ++ comma) comma n.length = true := by
    rw [StrLaws.subAt_eq, cps_append, hn, List.drop_left, comma_l, comma_n]
    rfl
  rw [l2, s, decide_eq_true (by rw [l1, comma_n]; omega)]
  rw [Bool.and_true, if_pos rfl]
  refine str_ext ?_
  show ((n ++ comma).cps.toList.drop 0).take (n.length - 0) = _
  rw [List.drop_zero, Nat.sub_zero, cps_append, hn, List.take_left]
theorem rms_none {n : Str} (h : nm n = true) : Txt.removesuffix n comma = n := by
  rw [StrLaws.removesuffix_eq]
  have s : Builtin.Str.subAt n comma (n.length - comma.length) = false := by
    cases e : Builtin.Str.subAt n comma (n.length - comma.length) with
    | false => rfl
    | true =>
      rw [StrLaws.subAt_eq, comma_l] at e
      have e := eq_of_beq e
      have m : (44 : Nat) ∈ ((n.cps.toList.drop (n.length - comma.length)).take comma.length) := by rw [e]; simp
      exact absurd (List.mem_of_mem_drop (List.mem_of_mem_take m)) (nm_no h (by decide))
  rw [s, Bool.and_false]
  rfl
theorem ne_comma (n : Str) : n ≠ n ++ comma := fun e => by
  have h := congrArg Str.length e
  rw [Str.length_append, comma_n] at h
  omega
/-- the words of a line -/
def wordsOf : List Ent → List Str
  | [] => [Str.ofString "-"]
  | [e] => [e.1, e.2]
  | e :: d :: r => e.1 :: (e.2 ++ comma) :: wordsOf (d :: r)
theorem wordsOf_ne : ∀ es, wordsOf es ≠ []
  | [] => by simp [wordsOf]
  | [e] => by simp [wordsOf]
  | e :: d :: r => by simp [wordsOf]
theorem wordsOf_len : ∀ {es : List Ent}, es ≠ [] → (wordsOf es).length = 2 * es.length
  | [], h => absurd rfl h
  | [e], _ => rfl
  | e :: d :: r, _ => by
    have h := wordsOf_len (es := d :: r) (by simp)
    show (wordsOf (d :: r)).length + 1 + 1 = _
    rw [h]
    simp only [List.length_cons]
    omega
theorem wordsOf_at : ∀ {es : List Ent} {i : Nat} {e : Ent}, es[i]? = some e → (wordsOf es)[2 * i]? = some e.1 ∧ (wordsOf es)[2 * i + 1]? = some (if i + 1 < es.length then e.2 ++ comma else e.2)
  | [], i, e, h => by simp at h
  | [d], 0, e, h => by simp at h; subst h; exact ⟨rfl, rfl⟩
  | [d], i + 1, e, h => by simp at h
  | a :: d :: r, 0, e, h => by
    simp at h
    subst h
    refine ⟨rfl, ?_⟩
    rw [if_pos (by simp)]
    rfl
  | a :: d :: r, i + 1, e, h => by
    have h' : (d :: r)[i]? = some e := by simpa using h
    obtain ⟨h1, h2⟩ := wordsOf_at h'
    have e1 : 2 * (i + 1) = 2 * i + 1 + 1 := by omega
    have e2 : 2 * (i + 1) + 1 = 2 * i + 1 + 1 + 1 := by omega
    refine ⟨?_, ?_⟩
    · rw [e1]
      exact h1
    · rw [e2]
      refine Eq.trans h2 ?_
      congr 1
      by_cases q : i + 1 < (d :: r).length
      · rw [if_pos q, if_pos (by simp only [List.length_cons] at q ⊢; omega)]
      · rw [if_neg q, if_neg (by simp only [List.length_cons] at q ⊢; omega)]
theorem app_assoc (a b c : Str) : a ++ b ++ c = a ++ (b ++ c) := by
  refine str_ext ?_
  rw [cps_append, cps_append, cps_append, cps_append, List.append_assoc]
theorem join_words : ∀ {es : List Ent}, es ≠ [] → Str.join (Str.ofString " ") (wordsOf es) = Str.join (Str.ofString ", ") (es.map txE)
  | [], h => absurd rfl h
  | [e], _ => by
    show e.1 ++ Str.ofString " " ++ e.2 = txE e
    exact (tx_eq _ _).symm
  | e :: d :: r, _ => by
    have h := join_words (es := d :: r) (by simp)
    have e1 : Str.join (Str.ofString " ") (wordsOf (e :: d :: r)) = e.1 ++ Str.ofString " " ++ (e.2 ++ comma ++ Str.ofString " " ++ Str.join (Str.ofString " ") (wordsOf (d :: r))) := by
      cases q : wordsOf (d :: r) with
      | nil => exact absurd q (wordsOf_ne _)
      | cons a l =>
        show Str.join (Str.ofString " ") (e.1 :: (e.2 ++ comma) :: wordsOf (d :: r)) = _
        rw [q]
        rfl
    have e2 : Str.join (Str.ofString ", ") ((e :: d :: r).map txE) = txE e ++ Str.ofString ", " ++ Str.join (Str.ofString ", ") ((d :: r).map txE) := rfl
    have e3 : Str.ofString ", " = comma ++ Str.ofString " " := by decide +kernel
    rw [e1, e2, h, show txE e = _ from tx_eq _ _, e3]
    refine str_ext ?_
    simp only [cps_append, List.append_assoc]
theorem noSpace {es : List Ent} (h : ∀ e ∈ es, okE e) : ∀ p ∈ wordsOf es, (32 : Nat) ∉ p.cps.toList := by
  have one : ∀ e : Ent, okE e → (32 : Nat) ∉ e.1.cps.toList ∧ (32 : Nat) ∉ e.2.cps.toList := fun e ⟨h1, h2⟩ => ⟨by
    rcases isW_cases h1 with e | e | e | e <;> rw [e] <;> decide +kernel, nm_no h2 (by decide)⟩
  have hrec : ∀ es : List Ent, (∀ e ∈ es, okE e) → ∀ p ∈ wordsOf es, (32 : Nat) ∉ p.cps.toList := by
    intro es
    induction es with
    | nil =>
      intro _ p hp
      have : p = Str.ofString "-" := by simpa [wordsOf] using hp
      rw [this]
      decide +kernel
    | cons e r ih =>
      intro h p hp
      obtain ⟨o1, o2⟩ := one e (h e List.mem_cons_self)
      cases r with
      | nil =>
        have : p = e.1 ∨ p = e.2 := by simpa [wordsOf] using hp
        rcases this with q | q <;> rw [q] <;> assumption
      | cons d l =>
        have : p = e.1 ∨ p = e.2 ++ comma ∨ p ∈ wordsOf (d :: l) := by simpa [wordsOf] using hp
        rcases this with q | q | q
        · rw [q]; exact o1
        · rw [q, cps_append, comma_l, List.mem_append]
          rintro (z | z)
          · exact o2 z
          · simp at z
        · exact ih (fun x hx => h x (List.mem_cons_of_mem _ hx)) p q
  exact hrec es h
theorem split_row {es : List Ent} (h : ∀ e ∈ es, okE e) : Txt.split (rowT es) (Str.ofString " ") = wordsOf es := by
  have e : rowT es = Txt.join (Str.ofString " ") (wordsOf es) := by
    cases es with
    | nil => decide +kernel
    | cons a r =>
      rw [TL.join_eq, join_words (by simp)]
      exact TL.join_eq _ _
  rw [e]
  exact TL.split_join (s := 32) (S := []) (by decide +kernel) (by decide +kernel) (wordsOf_ne _) (noSpace h)
theorem rowT_eq (es : List Ent) : rowT es = Str.join (Str.ofString " ") (wordsOf es) := by
  cases es with
  | nil => decide +kernel
  | cons a r =>
    rw [join_words (by simp)]
    exact TL.join_eq _ _
theorem join_no (p : Str) {c : Nat} (hp : c ∉ p.cps.toList) : ∀ {ts : List Str}, (∀ t ∈ ts, c ∉ t.cps.toList) → c ∉ (Str.join p ts).cps.toList
  | [], _ => by
    show c ∉ (Str.empty : Str).cps.toList
    have : (Str.empty : Str).cps.toList = [] := by decide +kernel
    rw [this]
    simp
  | [x], h => h x (by simp)
  | x :: y :: r, h => by
    show c ∉ (x ++ p ++ Str.join p (y :: r)).cps.toList
    rw [cps_append, cps_append, List.mem_append, List.mem_append]
    rintro ((z | z) | z)
    · exact h x (by simp) z
    · exact hp z
    · exact join_no p hp (fun t ht => h t (List.mem_cons_of_mem _ ht)) z
theorem noLine {es : List Ent} (h : ∀ e ∈ es, okE e) : (10 : Nat) ∉ (rowT es).cps.toList := by
  cases es with
  | nil =>
    show (10 : Nat) ∉ (Str.ofString "-").cps.toList
    decide +kernel
  | cons a r =>
    have e3 : rowT (a :: r) = Str.join (Str.ofString ", ") ((a :: r).map txE) := TL.join_eq _ _
    rw [e3]
    refine join_no _ (by decide +kernel) fun t ht => ?_
    obtain ⟨e, he, rfl⟩ := List.mem_map.mp ht
    rw [show txE e = _ from tx_eq _ _, cps_append, cps_append, List.mem_append, List.mem_append]
    obtain ⟨h1, h2⟩ := h e he
    rintro ((z | z) | z)
    · revert z
      rcases isW_cases h1 with e | e | e | e <;> rw [e] <;> decide +kernel
    · revert z
      decide +kernel
    · exact nm_no h2 (by decide) z
theorem split_plan {ess : List (List Ent)} (hn : ess ≠ []) (h : ∀ es ∈ ess, ∀ e ∈ es, okE e) : Txt.split (planT ess) (Str.ofString "\n") = ess.map rowT := by
  have e : planT ess = Txt.join (Str.ofString "\n") (ess.map rowT) := (TL.join_eq _ _).symm
  rw [e]
  refine TL.split_join (s := 10) (S := []) (by decide +kernel) (by decide +kernel) (fun z => hn (List.map_eq_nil_iff.mp z)) fun p hp => ?_
  obtain ⟨es, he, rfl⟩ := List.mem_map.mp hp
  exact noLine (h es he)
end K95

set_option Elab.async false
set_option linter.all false
set_option maxRecDepth 100000
set_option maxHeartbeats 4000000
/-! Defs that raise where nothing is handled, said with the context None: what they ask; the weaker promise. -/
namespace NN
open PySem PySem.Spec PyProof.Rows L2
section
variable {P : Program} {w : World} {K : PySem.W.Frag} {mg : Str → Option Value} {base : Heap} {k : Nat} {f : Addr} {fd : FuncData} {ps : List Str} {sp : Sp}
theorem cx_less {outer : List Env} {H : Hp} {s s' : Shared} {E : XK} {u : Value} (h : L2N.CX P w outer H s E u s') : L2.CX P w outer H s E u s' :=
  have ⟨a, B, H2, cls, d, e, fl, r⟩ := h
  ⟨a, B, H2, cls, d, e, L2H.flyingZ_imp (fun _ z => z.zc) fl, r⟩
theorem cr_less {outer : List Env} {H : Hp} {s s' : Shared} {Q : VK} {E : XK} {r : Result} (h : CR (L2N.CX P w) outer P w H s Q E r s') : CR (L2.CX P w) outer P w H s Q E r s' := by
  cases r with
  | error e => exact cx_less h
  | ok fl => cases fl <;> exact h
theorem fnOk_less (F : FnOk P w K mg base (L2N.CX P w) k f fd ps sp) : FnOk P w K mg base (L2.CX P w) k f fd ps sp :=
  ⟨F.len, fun A outer s H args us vs Q E hr e0 hb r h => codeAny_mono (F.run A outer s H args us vs Q E hr e0 hb r h) fun _ _ q => cr_less q⟩
theorem fnR_less (F : FnR P w K mg base (L2N.CX P w) k f sp) : FnR P w K mg base (L2.CX P w) k f sp :=
  fun A outer s H us vs Q E hr e0 r h => codeAny_mono (F A outer s H us vs Q E hr e0 r h) fun _ _ q => cr_less q
theorem upN : StX.CXUp (L2N.CX P w) := by
  intro outer s H s2 H2 E e s' un kp ho h
  obtain ⟨a, B, H3, cls, d, ea, fl, hok, ub, na, os, ag, he⟩ := h
  refine ⟨a, B, H3, cls, d, ea, fl, hok, { keep := fun b o q n hb => ?_, slot := fun b o q hb => ub.slot b o (kp b o q) hb, free := fun b o q n => ?_, there := fun b o q hb => ub.there b o (kp b o q) hb, tups := fun b xs q => ub.tups b xs (un.tups b xs q), frzs := fun b o xs q => ub.frzs b o xs (un.frzs b o xs q), tbls := fun b ts q => ?_ }, na, os.trans ho, ag, he⟩
  · exact ub.keep b o (kp b o q) (un.free b o q n (by simp)) hb
  · exact ub.free b o (kp b o q) (un.free b o q n (by simp))
  · obtain ⟨m1, e1⟩ := un.tbls b ts q
    obtain ⟨m2, e2⟩ := ub.tbls b _ e1
    exact ⟨m1 ++ m2, e2.trans (by rw [Array.append_assoc])⟩
/-- a def of the text that may raise, its exceptions with the context None -/
theorem okN {x qual : Str} {st : Stmt} {N : List Str} (F : Fun K x qual st f fd) (S : FnScope N ps (defScope st)) (len : ∀ vs H Q E, sp vs H Q E → vs.length = ps.length)
    (run : ∀ (cdv : Value) (A : Around) (outer : List Env) (s : Shared) (H : Hp) (vs : List V) (Q : VK) (E : XK), Room k (A.deeper (envOfC qual (defScope st) s.heap.objs.size f cdv)) → sp vs H Q E →
      ∃ t, PSs (cxOf (L2N.CX P w) P w K mg base N qual (defScope st) f cdv A outer s H E) (defBody st) t ∧ t { nx := fun _ H2 => Q .non H2, rt := Q } (start N vs) H) : FnOk P w K mg base (L2N.CX P w) (k + 1) f fd ps sp := by
  obtain ⟨oc, od, kV, doc, pm, an, cdv, ct, osl, e, lk, cd⟩ := F.ex
  subst e
  exact fn_of lk cd S len fun A outer s H vs Q E hr h => run cdv A outer s H vs Q E hr h
end
theorem passN {X : Cx} {E : XK} (tk : L2N.Takes X (fun cls d _ H => E cls d H)) : Passes (L2N.CX X.prog X.w) X E := fun pins σ H s e s' I h => L2N.passAt tk σ pins H s e s' I h
section
variable {X : Cx} {CX : CXT} {x : Str} {e : Expr} {es : List Expr} {ta : TA} {p pos : Pos} {C fI : Addr} {k : Nat} {fd : FuncData} {ps : List Str} {sp : Sp}
/-- C(e, ..), an exception class of ours with an __init__, where nothing is handled: made with the context None -/
theorem pmkN (T : OexC X.K C) (iC : PySem.W.findIn X.K (.ref C) "__init__" = some (some (.ref fI))) (tI : PySem.W.typeIn X.K (.ref fI) = some (.type "function"))
    (F1 : FnOk X.prog X.w X.K X.mg X.base CX k fI fd ps sp) (hr : Room (k + 1) X.A) (hb : Binds X.K fd ps []) (hx : Passes CX X (fun _ _ _ => False)) (hg : Gl X x) (hm : X.mg x = some (.ref C)) (ha : PA X (e :: es) ta)
    (hdb : (x == ("__debug__" : Str)) = false := by decide) (he : starEach (e :: es) X.env = (false, eval e X.env) :: starEach es X.env := by rfl) (hpl : (backTo pos (starEach es X.env)).any (·.1) = false := by rfl) :
    L2N.PMk X (.Call (.Name x p) (e :: es) [] pos) (tMkO C sp [] ta) := by
  intro pins s σ H Q I h
  have tc := T.cls
  obtain ⟨nm, q, N, bs, bm, sn, sub, ab, col, dd, k0, k1, k2, k3, k5, hC, hbm⟩ := tc
  refine wpAny_Call_Name_kw (ld_glob I hg hm ?_ hdb)
  refine PySem.W.callWith_K (h₀ := X.base) I.ok.mod.kin T.kC (thn (ha.run pos pins s σ H _ I h) fun us s1 ⟨vs, H1, I1, r1, few, q1⟩ => ⟨I1.kIn, ?_⟩) he hpl
  show wpAny _ _ (call (.ref C) us) _ _ _
  obtain ⟨hp, g, dr, tk, os⟩ := s1
  have up : hp.objs.size ≤ hp.objs.size + 1 := Nat.le_succ _
  have new : H1 (hp.objs.size + 1) = none := I1.hok.fresh up
  have ask := q1 (hp.objs.size + 1) new
  rw [List.append_nil] at ask
  let hp2 : Heap := (hp.push (PySem.W.kdv_tup us)).push (PySem.HandSPX.excO C hp.objs.size)
  have keeps : ∀ b o, hp.get? b = some o → hp2.get? b = some o := fun b o z => Heap.get?_push_of_some _ (Heap.get?_push_of_some _ z)
  have at_ : hp2.get? (hp.objs.size + 1) = some (PySem.HandSPX.excO C hp.objs.size) := by
    show ((hp.push (PySem.W.kdv_tup us)).push (PySem.HandSPX.excO C hp.objs.size)).get? (hp.objs.size + 1) = _
    heap_get
  have I2 : Inv X pins σ (upd H1 (hp.objs.size + 1) (exo (hp.objs.size + 1) C none)) ⟨hp2, g, dr, tk, os⟩ := I1.laid (t' := tk) (a := hp.objs.size + 1) (o := exo (hp.objs.size + 1) C none) (h' := hp2) keeps up (exo_ok at_)
  have r2 : Vals (V.ref (hp.objs.size + 1) :: vs) (Value.ref (hp.objs.size + 1) :: us) := .cons rfl r1
  have len : (Value.ref (hp.objs.size + 1) :: us ++ []).length = ps.length := by
    rw [List.append_nil]
    exact r2.length.symm.trans (F1.len _ _ _ _ ask)
  have low : us.length ≤ sizeLine := by
    rw [← Paired.length r1, sizeLine_eq]
    omega
  have bd := hb _ (Value.ref (hp.objs.size + 1) :: us) I2.kIn len
  rw [List.append_nil] at bd
  refine wpAny_call (PySem.HandSPX.call_own F.excBase_ValueError (fun Y => PySem.HandSPX.refsVE_contains Y bm hbm) (I1.kIn _ _ hC) (PySem.W.looks_findIn I1.kIn iC) (fun self => PySem.W.bind_fn I1.kIn self tI) low
    (codeAny_mono (F1.run _ X.stack _ _ ⟨Value.ref (hp.objs.size + 1) :: us, []⟩ _ _ _ (fun _ _ _ => False) (hr.make C us []) (I2.env0.make C us []) bd r2 ask) fun r s2 z => ?_))
  cases r with
  | error er => exact hx pins σ _ _ er s2 I2 z
  | ok fl =>
    cases fl with
    | ret u =>
      obtain ⟨v, H2, os2, bare2, un2, hok2, rv, ev, d, fs, ea, ed, hd1, q2⟩ := z
      subst ev
      obtain ⟨h2, g2, d2, t2, os3⟩ := s2
      obtain ⟨t0, G, J, kG, ge, hoe, na⟩ := mk_end0 (d2 := d2) (t2 := t2) I1 up keeps un2 hok2 os2 bare2 ea ed hd1
      refine ⟨rv, hp.objs.size + 1, _, _, ⟨G, g2, d2, t2, os3⟩, _, .ref C, some d, rfl, J, kG, ge, hoe, ⟨rfl, rfl, fun ws hv => ?_⟩, rfl, rfl, na, rfl, bare2, raises_own T.exC T.tyC, q2⟩
      cases hv
      rfl
    | next => exact z.elim
    | brk => exact z.elim
    | cont => exact z.elim
end
end NN

set_option Elab.async false
set_option linter.all false
set_option maxRecDepth 100000
/-! x in t, x not in t: t a tuple of flat data, x any plain data. A comprehension over the signs of a text. -/
namespace NDT
open PySem PySem.Spec PyProof.Rows L2
def rNotInT (K : PySem.W.Frag) : R2 := fun x y H Q => ∃ d ds, Dp K H x d ∧ Dp K H y (.tuple ds) ∧ d.plain = true ∧ PyData.plainAll ds = true ∧ PyData.depthAll ds = 0 ∧ Q (.bl (!ds.any fun z => PyData.eqv z d)) H
section
variable {X : Cx}
theorem op_notInT (hu : X.A.units + 1 < cLine) : OpR X (compareOp .NotIn) (rNotInT X.K) := by
  intro pins s σ H x y v u Q I rx ry h
  obtain ⟨d, ds, hd, he, sd, se, z, q⟩ := h
  obtain ⟨as, r1⟩ := Dp.reads I d x v hd rx
  obtain ⟨bs, r2⟩ := Dp.reads I (.tuple ds) y u he ry
  refine SeqAt.notIn_tuple_data r2 r1 se sd ?_ ⟨.bl _, H, I, rfl, q⟩
  rw [z, Nat.zero_min]
  exact hu
end
end NDT

set_option Elab.async false
set_option linter.all false
set_option maxRecDepth 100000
set_option maxHeartbeats 4000000
namespace K95
open PySem L2 NX
abbrev sErrT : Stmt := inClass (top 5) 0
theorem scErrT : FnScope ["self", "line", "word"] ["self", "line", "word"] (defScope sErrT) := ⟨rfl, rfl, rfl, by decide +kernel, rfl, by decide +kernel, by decide +kernel⟩
/-- a place in a text: its line, its word -/
def Told2 (H : Hp) (d : Addr) (l w : V) (H' : Hp) : Prop := Same H H' ∧ H d = none ∧ H' d = some (.xd [("word", w), ("line", l)])
theorem Told2.old {H H1 H' : Hp} {d : Addr} {l w : V} (s : Same H H1) (t : Told2 H1 d l w H') : Told2 H d l w H' := ⟨s.trans t.1, sameNone s t.2.1, t.2.2⟩
def spErrT (K : PySem.W.Frag) : Sp := fun vs H Q _ => ∃ (a C : Addr) (l w : V), vs = [.ref a, l, w] ∧ OexC K C ∧ PySem.W.findIn K (.ref C) "line" = some none ∧ PySem.W.findIn K (.ref C) "word" = some none ∧ H a = some (exo a C none) ∧
  ∀ dx H', H dx = none → dx ≠ a → (∀ b o, b ≠ a → b ≠ dx → H b = some o → H' b = some o) → H' a = some (exo a C (some dx)) → H' dx = some (exd dx [("word", w), ("line", l)]) → Q .non H'
section
variable {P : Program} {w : World} {K : PySem.W.Frag} {mg : Str → Option Value} {base : Heap}
theorem ok_errT {f : Addr} {fd : FuncData} (F : Fun K "__init__" "BadText.__init__" sErrT f fd) : FnOk P w K mg base CX0 1 f fd ["self", "line", "word"] (spErrT K) := by
  refine F.ok scErrT (fun vs H Q E h => ?_) (fun cdv A outer s H vs Q E hr h => ?_)
  · obtain ⟨a, C, l, u, rfl, _⟩ := h
    rfl
  · obtain ⟨a, C, l, u, rfl, T, hf, hf2, ha, k⟩ := h
    refine ⟨_, (pss_cons (ps_ost (pv 0) (pv 1)) (pss_one (ps_ost (pv 0) (pv 2)))), ?_⟩
    refine ⟨_, rfl, _, rfl, a, C, rfl, T, hf, .inl ⟨ha, fun dx h1 h2 => ?_⟩⟩
    have e1 : upd (upd H dx (exd dx [("line", l)])) a (exo a C (some dx)) a = some (exo a C (some dx)) := upd_same
    have e2 : upd (upd H dx (exd dx [("line", l)])) a (exo a C (some dx)) dx = some (exd dx [("line", l)]) := (upd_ne h2).trans upd_same
    refine ⟨_, rfl, _, rfl, a, C, rfl, T, hf2, .inr ⟨dx, _, e1, e2, by show 1 ≤ 900; decide, ?_⟩⟩
    refine k dx _ h1 h2 (fun b o n1 n2 hb => ?_) ?_ ?_
    · exact (upd_ne n2).trans ((upd_ne n1).trans ((upd_ne n2).trans hb))
    · exact (upd_ne h2.symm).trans upd_same
    · exact upd_same
/-- BadText -/
structure ErrT (P : Program) (w : World) (K : PySem.W.Frag) (mg : Str → Option Value) (base : Heap) (C fI : Addr) : Prop where
  O : OexC K C
  i : PySem.W.findIn K (.ref C) "__init__" = some (some (.ref fI))
  t : PySem.W.typeIn K (.ref fI) = some (.type "function")
  ok : ∃ fd, FnOk P w K mg base CX0 1 fI fd ["self", "line", "word"] (spErrT K) ∧ Binds K fd ["self", "line", "word"] []
  g : mg "BadText" = some (.ref C)
  vl : PySem.W.findIn K (.ref C) "line" = some none
  vw : PySem.W.findIn K (.ref C) "word" = some none
/-- what making one asks -/
theorem mkT_of {H : Hp} {C : Addr} {l u : V} {Q : XK} (O : OexC K C) (h1 : PySem.W.findIn K (.ref C) "line" = some none) (h2 : PySem.W.findIn K (.ref C) "word" = some none) (k : ∀ d H', Told2 H d l u H' → Q (.ref C) (some d) H') :
    [l, u].length ≤ 1000 ∧ ∀ a : Addr, H a = none → spErrT K (.ref a :: ([l, u] ++ [])) (upd H a (exo a C none)) (fun x H2 => x = .non ∧ ∃ (d : Addr) (fs : List (Str × V)), H2 a = some (exo a C (some d)) ∧ H2 d = some (exd d fs) ∧ H d = none ∧ Q (.ref C) (some d) (upd (L2.del H2 a) d (.xd fs))) (fun _ _ _ => False) := by
  refine ⟨by show 2 ≤ 1000; decide, fun a ha => ⟨a, C, l, u, rfl, O, h1, h2, upd_same, fun d H2 hd hne kp ea ed => ?_⟩⟩
  have hd' : H d = none := by rw [upd_ne hne] at hd; exact hd
  refine ⟨rfl, d, [("word", u), ("line", l)], ea, ed, hd', k d _ ⟨fun b o hb => ?_, hd', upd_same⟩⟩
  have n1 : b ≠ d := fun e => by rw [e, hd'] at hb; cases hb
  have n2 : b ≠ a := fun e => by rw [e, ha] at hb; cases hb
  rw [upd_ne n1]
  unfold L2.del
  rw [if_neg n2]
  exact kp b o n2 n1 ((upd_ne n2).trans hb)
end
/-- the words of a row from some place on: where the fault is, or its entries -/
def scan : List Str → Nat ⊕ List Ent
  | [] => .inl 0
  | [w] => .inl (if isW w then 1 else 0)
  | w :: n :: r => if isW w then (if nm (Txt.removesuffix n comma) then (if Txt.removesuffix n comma = n then (if r = [] then .inr [(w, n)] else .inl 2) else
      (match scan r with
      | .inl k => .inl (k + 2)
      | .inr es => .inr ((w, Txt.removesuffix n comma) :: es))) else .inl 1) else .inl 0
def rowScan (ws : List Str) : Nat ⊕ List Ent := if ws.head? = some (Str.ofString "-") then (if 1 < ws.length then .inl 1 else .inr []) else scan ws
end K95

set_option Elab.async false
set_option linter.all false
set_option maxRecDepth 100000
set_option maxHeartbeats 8000000
namespace K95
open PySem L2 NX
abbrev sRR : Stmt := top 22
theorem scRR : FnScope ["at", "words", "moves", "index", "more", "name"] ["at", "words"] (defScope sRR) := ⟨rfl, rfl, rfl, by decide +kernel, rfl, by decide +kernel, by decide +kernel⟩
/-- the moves of a row, new, in a list at r -/
def RowNew (m : M4) (H : Hp) (r : Addr) (es : List Ent) (H' : Hp) : Prop := Same H H' ∧ H r = none ∧ ∃ xs : List Addr, H' r = some (.lst (xs.map V.ref)) ∧ xs.length = es.length ∧ ∀ (i : Nat) (x : Addr) (e : Ent), xs[i]? = some x → es[i]? = some e → IsMove m H' x e.1 e.2
def RowEnds (m : M4) (CT : Addr) (H : Hp) (i : Int) (Q : VK) (E : XK) : Nat ⊕ List Ent → Prop
  | .inr es => ∀ r H', RowNew m H r es H' → Q (.ref r) H'
  | .inl k => ∀ d H', Told2 H d (.int i) (.int (k : Nat)) H' → E (.ref CT) (some d) H'
def spRR (K : PySem.W.Frag) (m : M4) (CT : Addr) : Sp := fun vs H Q E => ∃ (i : Int) (b : Addr) (ws : List Str), vs = [.int i, .ref b] ∧ SqL K H b (ws.map V.str) ∧ ws ≠ [] ∧ ws.length ≤ 2000 ∧ (∀ z ∈ ws, z.length ≤ 1000) ∧ RowEnds m CT H i Q E (rowScan ws)
theorem str_ne {a b : Str} (h : a ≠ b) : V.str a ≠ V.str b := fun e => h (by injection e)
theorem word_in (wd : Str) : (if true = true then !inV (V.str wd) [.str (Str.ofString "load"), .str (Str.ofString "again"), .str (Str.ofString "store"), .str (Str.ofString "forget")] else inV (V.str wd) [.str (Str.ofString "load"), .str (Str.ofString "again"), .str (Str.ofString "store"), .str (Str.ofString "forget")]) = !isW wd := by
  rw [if_pos rfl]
  congr 1
  unfold inV isW
  simp only [List.any_cons, List.any_nil, Bool.or_false]
  have e : ∀ z : Str, eqV (V.str z) (V.str wd) = decide (wd = z) := fun z => by
    rw [Bool.eq_iff_iff, decide_eq_true_eq]
    exact ⟨fun h => (by have h : (z == wd) = true := h; exact (beq_iff_eq.mp h).symm), fun h => by show (z == wd) = true; rw [h]; exact beq_self_eq_true z⟩
  rw [e, e, e, e]
theorem rms_len (n : Str) : (Txt.removesuffix n comma).length ≤ n.length := by
  rw [StrLaws.removesuffix_eq]
  split
  · show (((n.cps.toList.drop 0).take (n.length - comma.length - 0)).toArray).size ≤ n.length
    rw [List.size_toArray, List.length_take, List.length_drop, ← len_l]
    omega
  · exact Nat.le_refl _
theorem scan_w {w n : Str} {r : List Str} (h1 : isW w = true) (h2 : nm (Txt.removesuffix n comma) = true) : scan (w :: n :: r) = if Txt.removesuffix n comma = n then (if r = [] then .inr [(w, n)] else .inl 2) else
      (match scan r with
      | .inl k => .inl (k + 2)
      | .inr es => .inr ((w, Txt.removesuffix n comma) :: es)) := by
  (rw [scan.eq_3, if_pos h1, if_pos h2]) <;> rfl
def shift (es : List Ent) : Nat ⊕ List Ent → Nat ⊕ List Ent
  | .inl k => .inl (2 * es.length + k)
  | .inr ds => .inr (es ++ ds)
section
variable {P : Program} {w : World} {K : PySem.W.Frag} {mg : Str → Option Value} {base : Heap}
theorem ok_rr {m : M4} {CMv CM CT fT fI : Addr} {f : Addr} {fd : FuncData} (F : Fun K "read_row" "read_row" sRR f fd) (T : TxtB mg) (cIs : C8.Cal P w K mg base 1 "is_name" (spIs K) []) (M : Mvs K mg fI m) (gMv : mg "Move" = some (.ref CMv)) (B : ErrT P w K mg base CT fT)
    (rd : ∃ mc, ClX.CRead K CMv mc ∧ ∃ p g, ClX.CMet K CMv mc "read" p g ∧ ∃ fd, FnOk P w K mg base (CX P w) 5 g fd ["cls", "text"] (spRead K m CM) ∧ Binds K fd ["cls", "text"] []) : FnOk P w K mg base (CX P w) 9 f fd ["at", "words"] (spRR K m CT) := by
  obtain ⟨mc, rdC, pr, gr, cmt, fdr, FR, hbR⟩ := rd
  obtain ⟨fde, Fe, hbe⟩ := B.ok
  obtain ⟨ML, MA, MS, MF⟩ := M
  obtain ⟨CL, CA, CS, CF⟩ := m
  refine F.okX scRR (fun vs H Q E h => ?_) (fun cdv A outer s H vs Q E hr h => ?_)
  · obtain ⟨i, b, ws, rfl, _⟩ := h
    rfl
  · obtain ⟨i, b, ws, rfl, hS, hne, few, sml, h⟩ := h
    refine ⟨_, (pss_cons (ps_if (pt_cmpR op_eq (pe_ix ix_list (pv 1) pe_int (fun _ _ => rfl)) pe_str (nomark _)) (pss_cons (ps_if (pt_cmpR op_gt (pe_callB call_len_seq (by rfl) T.blen (by decide +kernel) (pa_cons (pv 1) pa_nil)) pe_int (nomark _)) (pss_one (ps_raise rfl (takes_of rfl rfl rfl rfl) (pmk_oex (ds := []) (dvs := []) B.O B.i B.t Fe (hr.mono (by decide)) hbe .nil pass0 rfl B.g (pa_cons (pv 0) (pa_cons pe_int pa_nil))))) pss_nil) (pss_one (ps_ret (pe_lst pa_nil)))) pss_nil)
      (pss_cons (ps_set (i := 2) scRR.nd rfl (Or.inl rfl) (pe_lst pa_nil))
      (pss_cons (ps_set (i := 3) scRR.nd rfl (Or.inl rfl) pe_int)
      (pss_cons (ps_set (i := 4) scRR.nd rfl (Or.inl rfl) pe_bl)
      (pss_cons (ps_while (passes_of rfl) (pt_val (pv 4))
        (pss_cons (ps_if (PW.pt (pw_or (pt_cmpR op_eq (pv 3) (pe_callB call_len_seq (by rfl) T.blen (by decide +kernel) (pa_cons (pv 1) pa_nil)) (nomark _)) (pw_or1 (pt_cmpR op_notIn_seq (pe_ix ix_list (pv 1) (pv 3) (fun _ _ => rfl)) (pe_tup (pa_cons (ClX.pe_cval (C8.pe_gc (v := .ref CL) rfl ⟨_, ML.g, rfl⟩)) (pa_cons (ClX.pe_cval (C8.pe_gc (v := .ref CA) rfl ⟨_, MA.g, rfl⟩)) (pa_cons (ClX.pe_cval (C8.pe_gc (v := .ref CS) rfl ⟨_, MS.g, rfl⟩)) (pa_cons (ClX.pe_cval (C8.pe_gc (v := .ref CF) rfl ⟨_, MF.g, rfl⟩)) pa_nil))))) rfl)))) (pss_one (ps_raise rfl (takes_of rfl rfl rfl rfl) (pmk_oex (ds := []) (dvs := []) B.O B.i B.t Fe (hr.mono (by decide)) hbe .nil pass0 rfl B.g (pa_cons (pv 0) (pa_cons (pv 3) pa_nil))))) pss_nil)
        (pss_cons (ps_if (pt_cmpR op_eq (pe_op op_add (pv 3) pe_int) (pe_callB call_len_seq (by rfl) T.blen (by decide +kernel) (pa_cons (pv 1) pa_nil)) (nomark _)) (pss_one (ps_raise rfl (takes_of rfl rfl rfl rfl) (pmk_oex (ds := []) (dvs := []) B.O B.i B.t Fe (hr.mono (by decide)) hbe .nil pass0 rfl B.g (pa_cons (pv 0) (pa_cons (pe_op op_add (pv 3) pe_int) pa_nil))))) pss_nil)
        (pss_cons (ps_set (i := 5) scRR.nd rfl (Or.inl rfl) (pe_bm PySem.F.plainAttrs_str PySem.F.slot_str_removesuffix PySem.F.type_str_removesuffix mt_removesuffix (pe_ix ix_list (pv 1) (pe_op op_add (pv 3) pe_int) (fun _ _ => rfl)) (pa_cons pe_str pa_nil)))
        (pss_cons (ps_if (pt_not (pt_val (C8.pe_c cIs hr (by decide) rfl (pa_cons (pv 5) pa_nil)))) (pss_one (ps_raise rfl (takes_of rfl rfl rfl rfl) (pmk_oex (ds := []) (dvs := []) B.O B.i B.t Fe (hr.mono (by decide)) hbe .nil pass0 rfl B.g (pa_cons (pv 0) (pa_cons (pe_op op_add (pv 3) pe_int) pa_nil))))) pss_nil)
        (pss_cons (ps_expr (pe_bm PySem.F.plainAttrs_list PySem.F.slot_list_append PySem.F.type_list_append mt_append (pv 2) (pa_cons (ClX.pe_cmeth (C8.pe_gc (v := .ref CMv) rfl ⟨_, gMv, rfl⟩) rdC cmt (FR.raw hbR .nil) (hr.mono (by decide)) passL (pa_cons (pe_joined (.cons (pe_fmt (pe_ix ix_list (pv 1) (pv 3) (fun _ _ => rfl))) (.cons pe_str (.cons (pe_fmt (pv 5)) .nil)))) pa_nil)) pa_nil)))
        (pss_cons (ps_set (i := 4) scRR.nd rfl (Or.inl rfl) (pe_cmpR op_ne (pv 5) (pe_ix ix_list (pv 1) (pe_op op_add (pv 3) pe_int) (fun _ _ => rfl)) (nomark _)))
        (pss_one (ps_aug (i := 3) scRR.nd rfl (Or.inl rfl) pe_int ip_add)))))))))
      (pss_cons (ps_if (pt_cmpR op_lt (pv 3) (pe_callB call_len_seq (by rfl) T.blen (by decide +kernel) (pa_cons (pv 1) pa_nil)) (nomark _)) (pss_one (ps_raise rfl (takes_of rfl rfl rfl rfl) (pmk_oex (ds := []) (dvs := []) B.O B.i B.t Fe (hr.mono (by decide)) hbe .nil pass0 rfl B.g (pa_cons (pv 0) (pa_cons (pv 3) pa_nil))))) pss_nil)
      (pss_one (ps_ret (pv 2))))))))), ?_⟩
    obtain ⟨w0, wr, hw0⟩ : ∃ w0 wr, ws = w0 :: wr := by
      cases ws with
      | nil => exact absurd rfl hne
      | cons a r => exact ⟨a, r, rfl⟩
    have z2000 : (2000 : Nat) ≤ sizeLine := by decide
    have hat : ∀ {k : Nat} {z : Str}, ws[k]? = some z → atI (ws.map V.str) ((k : Nat) : Int) = some (.str z) := fun {k z} e => atI_nat (by rw [List.getElem?_map, e]; rfl)
    have h0 : ws[0]? = some w0 := by rw [hw0]; rfl
    refine ⟨_, rfl, b, _, ((0 : Nat) : Int), .str w0, rfl, rfl, hS, hat h0, rfl, _, rfl, ite2 (fun hd => ?_) (fun hd => ?_)⟩
    · have hd : w0 = Str.ofString "-" := by injection of_decide_eq_true hd
      have e1 : rowScan ws = if 1 < ws.length then .inl 1 else .inr [] := by
        unfold rowScan
        rw [if_pos (by rw [hw0, hd]; rfl)]
      rw [e1] at h
      refine ⟨_, rfl, b, _, rfl, .inl hS, _, _, rfl, rfl, _, rfl, ite2 (fun hl => ?_) (fun hl => ?_)⟩
      · have hl := of_decide_eq_true hl
        rw [List.length_map] at hl
        rw [if_pos (by omega)] at h
        exact ⟨_, rfl, mkT_of B.O B.vl B.vw fun d H2 t => h d H2 t⟩
      · have hl : ¬ (1 < ws.length) := fun q => hl (decide_eq_true (by rw [List.length_map]; omega))
        rw [if_neg hl] at h
        exact ⟨by decide, fun l hl2 => h l _ ⟨Same.new hl2, hl2, [], upd_same, rfl, fun i x e h => by simp at h⟩⟩
    have nd : w0 ≠ Str.ofString "-" := fun e => hd (decide_eq_true (by rw [e]))
    have e1 : rowScan ws = scan ws := by
      unfold rowScan
      rw [if_neg (by rw [hw0]; exact fun q => nd (Option.some.inj q))]
    rw [e1] at h
    refine ⟨by decide, fun mv hmv => ?_⟩
    have B1 : SqL K (upd H mv (.lst [])) b (ws.map V.str) := sqL_same (Same.new hmv) hS
    refine ⟨fun mm σ H' => ∃ (es : List Ent) (xs : List Addr) (more : Bool) (v5 : Option V), mm = (if more = true then ws.length - 2 * es.length + 1 else 0) ∧ σ = [some (.int i), some (.ref b), some (.ref mv), some (.int ((2 * es.length : Nat) : Int)), some (.bl more), v5] ∧ Same H H' ∧ H' mv = some (.lst (xs.map V.ref)) ∧ xs.length = es.length ∧
        (∀ (q : Nat) (x : Addr) (e : Ent), xs[q]? = some x → es[q]? = some e → IsMove ⟨CL, CA, CS, CF⟩ H' x e.1 e.2) ∧ 2 * es.length ≤ ws.length ∧ scan ws = (if more = true then shift es (scan (ws.drop (2 * es.length))) else if ws.drop (2 * es.length) = [] then .inr es else .inl (2 * es.length)), ?_, ?_⟩
    · refine ⟨_, [], [], true, none, rfl, rfl, Same.new hmv, upd_same, rfl, fun q x e h => by simp at h, Nat.zero_le _, ?_⟩
      rw [if_pos rfl]
      show scan ws = shift [] (scan ws)
      cases scan ws with
      | inl k => show _ = Sum.inl (2 * 0 + k); rw [Nat.mul_zero, Nat.zero_add]
      | inr ds => rfl
    · rintro mm σ H1 ⟨es, xs, more, v5, rfl, rfl, s1, hm1, hx, hI, hle, tot⟩
      have S1 := sqL_same s1 hS
      refine ⟨_, rfl, _, rfl, ite2 (fun hmo => ?_) (fun hmo => ?_)⟩
      · subst hmo
        rw [if_pos rfl] at tot
        have fault : ∀ {k : Nat} {H2 : Hp}, Same H1 H2 → scan (ws.drop (2 * es.length)) = .inl k → ∀ d H', Told2 H2 d (.int i) (.int ((2 * es.length + k : Nat) : Int)) H' → E (.ref CT) (some d) H' := fun {k H2} s2 e d H' t => by
          rw [tot, e] at h
          exact h d H' (t.old (s1.trans s2))
        have atw : ∀ {k : Nat} {z : Str}, (ws.drop (2 * es.length))[k]? = some z → ws[2 * es.length + k]? = some z := fun {k z} e => by
          rw [List.getElem?_drop] at e
          exact e
        refine ⟨fun σ' H' => ∃ (es2 : List Ent) (xs2 : List Addr) (more2 : Bool) (v5 : Option V), (if more2 = true then ws.length - 2 * es2.length + 1 else 0) < ws.length - 2 * es.length + 1 ∧ σ' = [some (.int i), some (.ref b), some (.ref mv), some (.int ((2 * es2.length : Nat) : Int)), some (.bl more2), v5] ∧ Same H H' ∧ H' mv = some (.lst (xs2.map V.ref)) ∧ xs2.length = es2.length ∧
            (∀ (q : Nat) (x : Addr) (e : Ent), xs2[q]? = some x → es2[q]? = some e → IsMove ⟨CL, CA, CS, CF⟩ H' x e.1 e.2) ∧ 2 * es2.length ≤ ws.length ∧ scan ws = (if more2 = true then shift es2 (scan (ws.drop (2 * es2.length))) else if ws.drop (2 * es2.length) = [] then .inr es2 else .inl (2 * es2.length)), ?_, ?_⟩
        · rintro σ' H' ⟨es2, xs2, more2, v5', lt, z⟩
          exact ⟨_, by rw [if_pos rfl]; exact lt, es2, xs2, more2, v5', rfl, z⟩
        obtain ⟨rest, hr0⟩ : ∃ rest, rest = ws.drop (2 * es.length) := ⟨_, rfl⟩
        have hrl : rest.length = ws.length - 2 * es.length := by rw [hr0, List.length_drop]
        rw [← hr0] at fault atw tot
        refine ⟨_, rfl, _, rfl, b, _, rfl, .inl S1, rfl, _, rfl, ite2 (fun q => ?_) (fun q => ?_)⟩
        · -- no word is left
          have q := of_decide_eq_true q
          injection q with q
          rw [List.length_map] at q
          have er : rest = [] := List.length_eq_zero_iff.mp (by omega)
          rw [er] at fault
          exact iteT ⟨_, rfl, _, rfl, mkT_of B.O B.vl B.vw (fault (k := 0) (fun _ _ z => z) rfl)⟩
        have nr : rest ≠ [] := fun er => q (decide_eq_true (by rw [List.length_map]; congr 1; rw [er] at hrl; simp at hrl; omega))
        obtain ⟨wd, r1, er⟩ : ∃ wd r1, rest = wd :: r1 := by
          cases rest with
          | nil => exact absurd rfl nr
          | cons a r => exact ⟨a, r, rfl⟩
        have w1 := hat (atw (k := 0) (z := wd) (by rw [er]; rfl))
        rw [Nat.add_zero] at w1
        have hmem : ∀ z, z ∈ rest → z.length ≤ 1000 := fun z hz => sml z (List.mem_of_mem_drop (hr0 ▸ hz))
        have lw := hmem wd (by rw [er]; exact List.mem_cons_self)
        obtain ⟨mcL, uL, rL, vL⟩ := ML.rd
        obtain ⟨mcA, uA, rA, vA⟩ := MA.rd
        obtain ⟨mcS, uS, rS, vS⟩ := MS.rd
        obtain ⟨mcF, uF, rF, vF⟩ := MF.rd
        refine ⟨_, rfl, _, rfl, b, _, _, _, rfl, rfl, S1, w1, _, mcL, _, uL, rfl, rL, vL, _, mcA, _, uA, rfl, rA, vA, _, mcS, _, uS, rfl, rS, vS, _, mcF, _, uF, rfl, rF, vF, ?_⟩
        refine ⟨by show 4 ≤ sizeLine; decide, fun t ht => ⟨t, _, rfl, .inr (SqT.of upd_same), rfl, rfl, _, rfl, ?_⟩⟩
        have s2 : Same H1 (upd H1 t (.tup [.str (Str.ofString "load"), .str (Str.ofString "again"), .str (Str.ofString "store"), .str (Str.ofString "forget")])) := Same.new ht
        rw [show (if true = true then !inV (V.str wd) [.str (Str.ofString "load"), .str (Str.ofString "again"), .str (Str.ofString "store"), .str (Str.ofString "forget")] else inV (V.str wd) [.str (Str.ofString "load"), .str (Str.ofString "again"), .str (Str.ofString "store"), .str (Str.ofString "forget")]) = !isW wd from word_in wd]
        clear ht
        generalize (upd H1 t (.tup [.str (Str.ofString "load"), .str (Str.ofString "again"), .str (Str.ofString "store"), .str (Str.ofString "forget")])) = H2 at *
        cases hisw : isW wd with
        | false =>
          have sc : scan rest = .inl 0 := by
            rw [er]
            cases r1 with
            | nil => rw [scan.eq_2, hisw]; rfl
            | cons n r => rw [scan.eq_3, hisw]; rfl
          exact iteT ⟨_, rfl, _, rfl, mkT_of B.O B.vl B.vw (fault s2 sc)⟩
        | true =>
        refine iteF ?_
        have S2 := sqL_same s2 S1
        have hm2 := s2 _ _ hm1
        have hI2 : ∀ (q : Nat) (x : Addr) (e : Ent), xs[q]? = some x → es[q]? = some e → IsMove ⟨CL, CA, CS, CF⟩ H2 x e.1 e.2 := fun q x e a b => (hI q x e a b).same s2
        have s3 := s1.trans s2
        refine ⟨_, rfl, _, _, rfl, rfl, _, rfl, b, _, rfl, .inl S2, rfl, _, rfl, ite2 (fun q => ?_) (fun q => ?_)⟩
        · have q := of_decide_eq_true q
          injection q with q
          rw [List.length_map] at q
          have e1 : r1 = [] := List.length_eq_zero_iff.mp (by rw [er] at hrl; simp only [List.length_cons] at hrl; omega)
          have sc : scan rest = .inl 1 := by rw [er, e1, scan.eq_2, hisw]; rfl
          refine ⟨_, rfl, _, rfl, _, _, rfl, rfl, mkT_of B.O B.vl B.vw (fault s2 sc)⟩
        have n1 : r1 ≠ [] := fun e1 => q (decide_eq_true (by rw [List.length_map]; rw [er, e1] at hrl; simp only [List.length_cons, List.length_nil] at hrl; show V.int (((2 * es.length : Nat) : Int) + 1) = V.int (ws.length : Int); congr 1; omega))
        obtain ⟨n, r2, er1⟩ : ∃ n r2, r1 = n :: r2 := by
          cases r1 with
          | nil => exact absurd rfl n1
          | cons a r => exact ⟨a, r, rfl⟩
        subst er1
        have w2 := hat (atw (k := 1) (z := n) (by rw [er]; rfl))
        have ln := hmem n (by rw [er]; exact List.mem_cons_of_mem _ List.mem_cons_self)
        have w2 : atI (ws.map V.str) (((2 * es.length : Nat) : Int) + 1) = some (.str n) := w2
        have z1000 : (1000 : Nat) ≤ sizeLine := by decide
        have lrm := rms_len n
        refine ⟨_, rfl, _, rfl, _, _, rfl, rfl, b, _, _, _, rfl, rfl, S2, w2, rfl, n, comma, rfl, rfl, by omega, ?_⟩
        obtain ⟨nv, hnv⟩ : ∃ nv, nv = Txt.removesuffix n comma := ⟨_, rfl⟩
        rw [← hnv] at lrm ⊢
        refine ⟨_, rfl, _, rfl, .inl ⟨nv, rfl, by omega, ?_⟩⟩
        cases hnm : nm nv with
        | false =>
          have sc : scan rest = .inl 1 := by
            rw [er, scan.eq_3, hisw, if_pos rfl, ← hnv, hnm]
            rfl
          exact ⟨_, rfl, iteT ⟨_, rfl, _, rfl, _, _, rfl, rfl, mkT_of B.O B.vl B.vw (fault s2 sc)⟩⟩
        | true =>
        refine ⟨_, rfl, iteF ?_⟩
        refine ⟨_, rfl, .inl ⟨rfl, _, SqL.of hm2⟩, ?_⟩
        have lw6 := isW_len hisw
        have l2 := nm_len hnm
        have q0 : (Str.empty : Str).length = 0 := by decide +kernel
        have q1 : (Str.ofString " ").length = 1 := by decide +kernel
        refine ⟨rfl, _, rfl, _, rfl, b, _, _, _, rfl, rfl, S2, w1, .inl ⟨wd, rfl, by omega, wd, rfl, ?_, ?_⟩⟩
        · rw [Str.length_append]
          omega
        refine ⟨_, rfl, ?_, _, rfl, .inl ⟨nv, rfl, by omega, nv, rfl, ?_, ?_⟩⟩
        · rw [Str.length_append, Str.length_append]
          omega
        · rw [Str.length_append, Str.length_append, Str.length_append]
          omega
        have zl : (Str.empty ++ wd ++ Str.ofString " " ++ nv).length ≤ 1000 := by
          rw [Str.length_append, Str.length_append, Str.length_append]
          omega
        refine ⟨CMv, _, rfl, .inl ⟨_, wd, nv, rfl, zl, parse_tx (e := (wd, nv)) ⟨hisw, hnm⟩, fun x dx H3 made => ?_⟩⟩
        have mk := made.is hisw hnm
        have s4 : Same H2 H3 := made.1
        have hm3 := s4 _ _ hm2
        refine ⟨mv, _, _, rfl, rfl, hm3, by rw [List.length_map]; omega, ?_⟩
        have s5 : Same H (upd H3 mv (.lst (xs.map V.ref ++ [V.ref x]))) := samePut (s3.trans s4) hmv
        have S5 := sqL_same s5 hS
        have hm5 : (upd H3 mv (.lst (xs.map V.ref ++ [V.ref x]))) mv = some (.lst ((xs ++ [x]).map V.ref)) := by
          rw [upd_same, List.map_append]
          rfl
        have hI5 : ∀ (q : Nat) (y : Addr) (d : Ent), (xs ++ [x])[q]? = some y → (es ++ [(wd, nv)])[q]? = some d → IsMove ⟨CL, CA, CS, CF⟩ (upd H3 mv (.lst (xs.map V.ref ++ [V.ref x]))) y d.1 d.2 := fun q y d a c => by
          by_cases hq : q < xs.length
          · rw [List.getElem?_append_left hq] at a
            rw [List.getElem?_append_left (by omega)] at c
            exact isMove_put hm3 ((hI2 q y d a c).same s4)
          · rw [List.getElem?_append_right (by omega)] at a
            rw [List.getElem?_append_right (by omega), ← hx] at c
            cases hk : q - xs.length with
            | zero =>
              rw [hk] at a c
              simp at a c
              rw [← a, ← c]
              exact isMove_put hm3 mk
            | succ n =>
              rw [hk] at a
              simp at a
        generalize (upd H3 mv (.lst (xs.map V.ref ++ [V.ref x]))) = H5 at *
        refine ⟨_, rfl, _, rfl, _, rfl, _, _, rfl, rfl, b, _, _, _, rfl, rfl, S5, w2, rfl, ?_⟩
        have hlen2 : (es ++ [(wd, nv)]).length = es.length + 1 := by rw [List.length_append]; rfl
        have hdrop : ws.drop (2 * (es ++ [(wd, nv)]).length) = r2 := by
          rw [hlen2, show 2 * (es.length + 1) = 2 * es.length + 2 by omega, ← List.drop_drop, ← hr0, er]
          rfl
        have e7 : (((2 * es.length : Nat) : Int) + 2) = ((2 * (es ++ [(wd, nv)]).length : Nat) : Int) := by rw [hlen2]; omega
        have hle2 : 2 * es.length + 2 ≤ ws.length := by
          rw [er] at hrl
          simp only [List.length_cons] at hrl
          omega
        have sc := scan_w (r := r2) hisw (hnv ▸ hnm)
        rw [← hnv] at sc
        refine ⟨_, rfl, _, _, rfl, rfl, es ++ [(wd, nv)], xs ++ [x], !decide (V.str nv = V.str n), some (.str nv), ?_, ?_, s5, hm5, by rw [List.length_append, List.length_append, hx]; rfl, hI5, by rw [hlen2]; omega, ?_⟩
        · rw [hlen2]
          split <;> omega
        · rw [← e7]
          rfl
        · rw [tot, er, sc, hdrop]
          by_cases q : nv = n
          · rw [if_pos q, q, decide_eq_true rfl]
            show shift es (if r2 = [] then .inr [(wd, n)] else .inl 2) = if r2 = [] then .inr (es ++ [(wd, n)]) else .inl (2 * (es ++ [(wd, n)]).length)
            by_cases q2 : r2 = []
            · rw [if_pos q2, if_pos q2]
              rfl
            · rw [if_neg q2, if_neg q2, List.length_append]
              rfl
          · rw [if_neg q, decide_eq_false (str_ne q)]
            show shift es _ = shift (es ++ [(wd, nv)]) (scan r2)
            cases scan r2 with
            | inl k => show Sum.inl (2 * es.length + (k + 2)) = Sum.inl (2 * (es ++ [(wd, nv)]).length + k); rw [hlen2]; congr 1; omega
            | inr ds => show Sum.inr (es ++ (wd, nv) :: ds) = Sum.inr (es ++ [(wd, nv)] ++ ds); rw [List.append_assoc]; rfl
      · have hmo : more = false := Bool.eq_false_iff.mpr hmo
        subst hmo
        rw [if_neg Bool.false_ne_true] at tot
        refine ⟨_, rfl, _, rfl, b, _, rfl, .inl S1, _, _, rfl, rfl, _, rfl, ite2 (fun hl => ?_) (fun hl => ?_)⟩
        · have hl := of_decide_eq_true hl
          rw [List.length_map] at hl
          rw [if_neg (fun e => by have q := congrArg List.length e; rw [List.length_drop] at q; simp at q; omega)] at tot
          rw [tot] at h
          exact ⟨_, rfl, _, rfl, mkT_of B.O B.vl B.vw fun d H2 t => h d H2 (t.old s1)⟩
        · have hl : ws.drop (2 * es.length) = [] := List.drop_eq_nil_of_le (by
            by_cases q : 2 * es.length < ws.length
            · exact absurd (decide_eq_true (by rw [List.length_map]; omega)) hl
            · omega)
          rw [if_pos hl] at tot
          rw [tot] at h
          exact ⟨_, rfl, h mv H1 ⟨s1, hmv, xs, hm1, hx, hI⟩⟩
end
end K95

set_option Elab.async false
set_option linter.all false
set_option maxRecDepth 100000
set_option maxHeartbeats 4000000
/-! A list comprehension whose element calls what may raise. -/
namespace NLX
open PySem PySem.Spec PyProof.Rows L2
theorem frames_to {C : Addr} {g g' Bq Bq' : Heap} (k : ∀ b o, b ≠ C → g.get? b = some o → g'.get? b = some o) (kb : ∀ b, Bq.get? b = none → Bq'.get? b = none) : ∀ l : List Env, C ∉ frs l → g.FunFrames Bq l → g'.FunFrames Bq' l
  | [], _, _ => trivial
  | e :: r, n, ⟨h1, ⟨L, o, hf, hb, ho, hd⟩, h3⟩ => by
    have m : L ∈ frs (e :: r) := by
      show L ∈ List.filterMap (·.frame) (e :: r)
      rw [List.filterMap_cons, hf]
      exact List.mem_cons_self
    have n2 : C ∉ frs r := fun z => n (by
      show C ∈ List.filterMap (·.frame) (e :: r)
      rw [List.filterMap_cons, hf]
      exact List.mem_cons_of_mem _ z)
    exact ⟨h1, ⟨L, o, hf, kb L hb, k L o (fun z => n (z ▸ m)) ho, hd⟩, frames_to k kb r n2 h3⟩
section
variable {X : Cx} {pins : List (Addr × Obj)} {σ : L2.St} {H : Hp} {s : Shared} {W : WX} {E : XK}
/-- an exception that the def's own frame holds, out of a part of the def that began at s -/
theorem air_held {ch : List Addr} (I : Inv X pins σ H s) {a : Addr} {Bz : Heap} {H' : Hp} {cls : Value} {d : Option Addr} {sz : Shared} (held : HandSPX.HeldZ Bz X.stack a (Zc cls d) X.env.locals sz.heap) (hok : HOk X.prog X.w H' Bz)
    (un : ∀ Gz : Heap, (∀ b o, Bz.get? b = some o → Gz.get? b = some o) → (∀ b, b ∈ frs X.stack → Gz.get? b = sz.heap.get? b) → Un (frs X.stack) ch H H' s.heap Gz)
    (hch : ∀ b ∈ ch, FpOk X pins H b) (na : H' a = none) (os : sz.os = s.os) (ag : AllBare sz.gens) (w : W cls d σ H') : XE X W (.ref a) sz := by
  obtain ⟨Gz, k1, k2⟩ := restrict sz.heap (fun b => (Bz.get? b).isSome || decide (b ∈ frs X.stack))
  have up1 : ∀ b o, Bz.get? b = some o → Gz.get? b = some o := fun b o z => (k1 b (by rw [z]; rfl)).trans (held.1 b o z)
  have up2 : ∀ b, b ∈ frs X.stack → Gz.get? b = sz.heap.get? b := fun b z => k1 b (by rw [decide_eq_true z, Bool.or_true])
  have dn : ∀ b o, Gz.get? b = some o → sz.heap.get? b = some o ∧ (b ∉ frs X.stack → Bz.get? b = some o) := fun b o z => by
    cases q : ((Bz.get? b).isSome || decide (b ∈ frs X.stack)) with
    | false => rw [k2 b q] at z; cases z
    | true =>
      rw [k1 b q] at z
      refine ⟨z, fun nb => ?_⟩
      rw [decide_eq_false nb, Bool.or_false] at q
      obtain ⟨o2, q2⟩ := Option.isSome_iff_exists.mp q
      have z2 := held.1 b o2 q2
      rw [z] at z2
      rw [q2, Option.some.inj z2]
  exact ⟨a, Bz, { s with heap := Gz, gens := sz.gens, drawn := sz.drawn, toks := sz.toks }, pins, σ, H', cls, d, rfl, I.call (ch := ch) (un Gz up1 up2) (hok.kept up1) ag (fun b z => ⟨(hch b z).2.2.2.1, (hch b z).2.1, (hch b z).2.2.2.2.1, (hch b z).2.2.2.2.2⟩),
    fun b o z nb => (dn b o z).2 nb, Heap.UpToSlots.of_keeps fun b o z => (dn b o z).1, .inr (.inr held), na, os, ag, w⟩
/-- the context of such a comprehension's block -/
abbrev bx (X : Cx) (t : Shared) (G : Hp) (scope : Scope) (ce : Env) (fp : List Addr) (xe : Value → Shared → Prop) : Cx := (X.blk t G scope ce fp).wish xe
/-- what comes of an exception out of a call in the block -/
theorem block_air {t : Shared} {G : Hp} {scope : Scope} {ce : Env} {fp : List Addr} {xe : Value → Shared → Prop} (I : Inv X pins σ G t) (hs : X.stack = X.env :: X.outer) (hf : X.env.frame = some X.env.locals) (tk : Takes X W) (hW : ∀ cls d σ H', E cls d H' → W cls d σ H')
    (cl : ce.locals = t.heap.objs.size) (cf : ce.frame = X.env.frame) (f3 : ∀ b ∈ fp, FpOk X pins G b ∧ b < t.heap.objs.size) {pb : List (Addr × Obj)} {τ : L2.St} {Hb : Hp} {sb : Shared} {u : Value} {sz : Shared} (J : Inv (bx X t G scope ce fp xe) pb τ Hb sb)
    (c : L2.CX X.prog X.w X.stack Hb sb E u sz) : notedBy (model X.prog X.w) X.A ce (CompFails (model X.prog X.w) X.A X.xe ce) u sz := by
  obtain ⟨a, Bq, H', cls, d, rfl, fl, hok, ub, na, os, ag, hE⟩ := c
  have hC : ce.locals ∉ frs X.stack := fun z => by
    have z2 := I.stack.mem z
    obtain ⟨_, o, ho, _⟩ := z2
    rw [cl] at ho
    exact absurd (Heap.lt_size ho) (Nat.lt_irrefl _)
  have hfr : X.A.frames = some (X.env :: X.outer) := by rw [I.ok.frames, hs]
  show wpAny (model X.prog X.w) X.A (noteFrame (.ref a) ce) _ _ sz
  rw [noteFrame_env _ cf]
  rw [hs] at fl
  refine HandSPX.looks_onZ Zc.steady hfr hf fl fun h2 held up2 => ?_
  -- the block's names
  obtain ⟨m, ⟨oC, es, ep, hoC, hdC, rC⟩, _⟩ := J.loc
  have hoC : sb.heap.get? ce.locals = some oC := hoC
  have freeC : Hb ce.locals = none := J.free
  have inB : Bq.get? ce.locals = some oC := ub.keep _ _ hoC freeC hC
  have H'C : H' ce.locals = none := ub.free _ _ hoC freeC
  have inS : sz.heap.get? ce.locals = some oC := fl.1 _ _ inB
  have nsz : sz.heap.Ns ce.locals m := ⟨oC, es, ep, inS, hdC, rC⟩
  have ns2 : h2.Ns ce.locals m := up2.ns nsz
  refine ⟨m, ns2, fun h3 m3 ns3 sb3 => ?_⟩
  obtain ⟨o2, es2, ep2, ho2, hd2, _⟩ := ns2
  obtain ⟨Bz, r1, r2⟩ := restrict Bq (fun b => decide (b ≠ ce.locals))
  have inz : ∀ b o, Bz.get? b = some o → b ≠ ce.locals ∧ Bq.get? b = some o := fun b o z => by
    by_cases e : b = ce.locals
    · rw [r2 b (decide_eq_false (fun n => n e))] at z
      cases z
    · rw [r1 b (decide_eq_true e)] at z
      exact ⟨e, z⟩
  have toz : ∀ b o, b ≠ ce.locals → Bq.get? b = some o → Bz.get? b = some o := fun b o n z => (r1 b (decide_eq_true n)).trans z
  have noz : ∀ b, Bq.get? b = none → Bz.get? b = none := fun b z => by
    cases q : Bz.get? b with
    | none => rfl
    | some o => rw [(inz b o q).2] at z; cases z
  obtain ⟨st, bn, ff, oe, vs, T, oT, ts, he, hz, hd, h1, hnT, hTe, hT, hdT, h3f⟩ := held
  have ne1 : a ≠ ce.locals := fun e => by rw [e, ho2] at he; rw [← Option.some.inj he, hd2] at hd; cases hd
  have ne2 : T ≠ ce.locals := fun e => by rw [e, ho2] at hT; rw [← Option.some.inj hT, hd2] at hdT; cases hdT
  have same3 : ∀ b o, b ≠ ce.locals → h2.get? b = some o → h3.get? b = some o := fun b o n z => (sb3.2 b n).trans z
  have he3 := same3 _ _ ne1 he
  have held3 : HandSPX.HeldZ Bz (X.env :: X.outer) a (Zc cls d) X.env.locals h3 :=
    ⟨fun b o z => same3 b o (inz b o z).1 (st b o (inz b o z).2), noz _ bn, frames_to same3 noz _ (hs ▸ hC) ff, oe, vs, T, oT, ts, he3, hz, hd, h1, noz _ hnT, hTe, same3 _ _ ne2 hT, hdT, h3f⟩
  unfold PySem.passOn
  refine wpAny_bind (wpAny_field he3 hd h1 ?_)
  rw [if_neg (show ¬ ((Value.ref T == Value.none) = true) by simp), cf, hf]
  refine wpAny_bind (HandSPX.setFlight_onZ (s := { sz with heap := h3 }) held3 fun h4 held4 up4 => wpAny_throw ?_)
  rw [← hs] at held4
  -- what a frame's object is behind all this
  have slot4 : ∀ b ob, b ∈ frs X.stack → sz.heap.get? b = some ob → (∀ vs, ob.data ≠ .fields vs) → ∃ sl, h4.get? b = some { ob with slots := sl } := fun b ob hb z hn => by
    obtain ⟨s1, q1⟩ := up2 b _ z hn
    have q2 := same3 b _ (fun e => hC (e ▸ hb)) q1
    exact up4 b _ q2 hn |>.imp fun _ q => q
  have fslot : ∀ b ob, b ∈ frs X.stack → t.heap.get? b = some ob → ∃ sl, h4.get? b = some { ob with slots := sl } := fun b ob hb z => by
    obtain ⟨_, o0, e0, hn⟩ := I.stack.mem hb
    rw [z] at e0
    have e0 := Option.some.inj e0
    subst e0
    have nfp : b ∉ fp := fun q => J.ok.exfs b q hb
    obtain ⟨s1, q1⟩ := J.base.slot b ob z (I.stkFree b hb) hb nfp
    obtain ⟨s2, q2⟩ := ub.slot b _ q1 hb
    obtain ⟨s3, q3⟩ := slot4 b { ob with slots := s2 } hb q2 hn
    exact ⟨s3, q3⟩
  refine tk _ _ (air_held (ch := fp) I (Bz := Bz) (H' := H') (sz := { sz with heap := h4 }) held4 (fun b o z => ?_) (fun Gz up1 upf => ?_) (fun b z => (f3 b z).1) na (os.trans J.os) ag (hW _ _ _ _ hE))
  · refine (hok b o z).stay (fun b2 o2 hb2 q => toz b2 o2 (fun e => ?_) q) (fun _ q => q) fun _ _ q => q
    rcases hb2 with q2 | q2
    · rw [← q2, e, H'C] at z
      cases z
    · rw [e, H'C] at q2
      cases q2
  · have lt : ∀ b o, t.heap.get? b = some o → b ≠ ce.locals := fun b o z e => by
      have z := Heap.lt_size z
      rw [e, cl] at z
      exact absurd z (Nat.lt_irrefl _)
    refine ⟨fun b o e n hb hc => up1 b o (toz b o (lt b o e) (ub.keep b o (J.base.keep b o e n hb hc) (J.base.free b o e n hc) hb)), fun b o e n hb hc => ?_, fun b o e n hc => ?_, fun b o e hc => ?_, fun b xs q => ub.tups b xs (J.base.tups b xs q), fun b o u q => ub.frzs b o u (J.base.frzs b o u q), fun b ps q => ?_⟩
    · obtain ⟨sl, q⟩ := fslot b o hb e
      exact ⟨sl, (upf b hb).trans q⟩
    · obtain ⟨sl, e1⟩ := J.base.any e n hc
      exact ub.free b _ e1 (J.base.free b o e n hc)
    · by_cases hb : b ∈ frs X.stack
      · obtain ⟨sl, q⟩ := fslot b o hb e
        exact ⟨_, (upf b hb).trans q⟩
      · obtain ⟨o1, e1⟩ := J.base.there b o e hc
        obtain ⟨o2, e2⟩ := ub.there b o1 e1 hb
        exact ⟨o2, up1 b o2 (toz b o2 (lt b o e) e2)⟩
    · obtain ⟨m1, q1⟩ := J.base.tbls b ps q
      obtain ⟨m2, q2⟩ := ub.tbls b _ q1
      exact ⟨m1 ++ m2, by rw [q2, Array.append_assoc]⟩
/-- [elt for tg in iter if ..], elt may let out what E says -/
theorem pe_lcX {elt tg iter : Expr} {ifs : List Expr} {scope : Scope} {own : List (Str × Nat)} {pos : Pos} {wi : TI} {g : TG} {tt : TT} {te : TE} (hs : X.stack = X.env :: X.outer) (hf : X.env.frame = some X.env.locals) (tk : Takes X W) (hW : ∀ cls d σ H', E cls d H' → W cls d σ H')
    (hc : X.calm = true) (hN : X.N.Nodup) (hi : PI X tg iter wi) (ok : BlkOk X.N X.env.scope scope own)
    (hg : ∀ (t : Shared) (G : Hp) (C : Addr) (cl : List (Str × Addr)) (fp : List Addr) (xe : Value → Shared → Prop), PG (bx X t G scope (compEnvC scope cl C X.env) fp xe) tg g)
    (ht : ∀ (t : Shared) (G : Hp) (C : Addr) (cl : List (Str × Addr)) (fp : List Addr) (xe : Value → Shared → Prop), PTs (bx X t G scope (compEnvC scope cl C X.env) fp xe) ifs tt)
    (he : ∀ (t : Shared) (G : Hp) (C : Addr) (cl : List (Str × Addr)) (fp : List Addr) (xe : Value → Shared → Prop), Passes (L2.CX X.prog X.w) (bx X t G scope (compEnvC scope cl C X.env) fp xe) E → PE (bx X t G scope (compEnvC scope cl C X.env) fp xe) elt te)
    (hfs : ∀ x, foldedSetIterable iter X.env x = pure x := by intro _; rfl) : PE X (.ListComp elt [⟨tg, iter, ifs, 0⟩] scope pos) (tLc wi g tt te (own.map (·.2))) := by
  refine ⟨fun pins s σ H Q I h => ?_⟩
  rw [eval_ListComp]
  have has : ∀ y ∈ scope.names, y.2 = .free → ∃ c, X.env.cells.lookup y.1 = some c := fun y hy e => (ok.free y hy e).elim (fun k => I.ok.has _ (.inl k)) fun k => I.ok.has _ (.inr k)
  refine comprehension_at (use := none) rfl hfs (closure_ok has) ok.kind (fun y hy e => (ok.uniq y hy).trans (congrArg some e)) (thn (hi.run pins s σ H _ I h) fun xv s1 hx => thn hx fun itv s2 ⟨it, fp, tn, J, H2, ei, I2, T, st2, f2, q⟩ => ?_)
  subst ei
  refine wpAny_newObj_type (newEnv_comp ?_) (by show 0 ≤ sizeLine; decide)
  obtain ⟨D, hD⟩ : ∃ D, D = s2.heap.objs.size := ⟨_, rfl⟩
  have freeD : H2 D = none := I2.hok.fresh (Nat.le_of_eq hD.symm)
  obtain ⟨Wn, ⟨m0, w0⟩, turn⟩ := q D freeD
  rw [← hD]
  -- the list is laid
  obtain ⟨t3, ht3⟩ : ∃ t3 : Shared, t3 = { s2 with heap := s2.heap.push { cls := .type "list", data := .seq ([] : List Value).toArray } } := ⟨_, rfl⟩
  rw [← ht3]
  have hp3 : t3.heap = s2.heap.push { cls := .type "list", data := .seq ([] : List Value).toArray } := by rw [ht3]
  have I3 : Inv X pins σ (upd H2 D (.lst [])) t3 := by
    rw [ht3]
    refine I2.laid (t' := s2.toks) (fun b o e => Heap.get?_push_of_some _ e) (Nat.le_of_eq hD.symm) ⟨Nat.zero_le _, [], 0, .nil, ?_⟩
    rw [hD]
    exact Heap.get?_push_size _ rfl
  have below : ∀ b ∈ fp, b < s2.heap.objs.size := fun b hb => (let ⟨_, e, _⟩ := T.obj _ _ st2 b hb; Heap.lt_size e)
  have f3 : ∀ b ∈ fp, FpOk X pins (upd H2 D (.lst [])) b ∧ b < t3.heap.objs.size := fun b hb =>
    ⟨⟨by rw [upd_ne (by rw [hD]; exact Nat.ne_of_lt (below b hb))]; exact (f2 b hb).1, (f2 b hb).2⟩, by rw [hp3, Heap.size_push]; exact Nat.lt_succ_of_lt (below b hb)⟩
  have st3 : tn 0 t3.heap := T.keep _ _ _ st2 fun b _ o e => hp3 ▸ Heap.get?_push_of_some _ e
  have I4 := block_start I3 ok hN f3
  obtain ⟨cs, hcs⟩ : ∃ cs, cs = cellsFrom (t3.heap.objs.size + 1) scope.names (cloFrom X.env.cells scope.names []) := ⟨_, rfl⟩
  obtain ⟨ce, hce⟩ : ∃ ce, ce = compEnvC scope cs t3.heap.objs.size X.env := ⟨_, rfl⟩
  rw [← hcs, ← hce] at I4
  show codeAny _ _ (.compStart (.ListComp elt [⟨tg, iter, ifs, 0⟩] scope pos) 0 (.ref it) (.ref D) (compEnvC scope (cellsFrom (t3.heap.objs.size + 1) scope.names (cloFrom X.env.cells scope.names [])) t3.heap.objs.size X.env))
    (compEnds (model X.prog X.w) X.A X.xe none _ (.ref D) (compEnvC scope (cellsFrom (t3.heap.objs.size + 1) scope.names (cloFrom X.env.cells scope.names [])) t3.heap.objs.size X.env)) { t3 with heap := pushCells (t3.heap.push { cls := .type "dict", data := .dict #[] }) scope.names }
  rw [← hcs, ← hce]
  have cL : ce.locals = t3.heap.objs.size := by rw [hce]; rfl
  have cF : ce.frame = X.env.frame := by rw [hce]; rfl
  obtain ⟨H3, hH3⟩ : ∃ H3, H3 = upd H2 D (.lst []) := ⟨_, rfl⟩
  rw [← hH3] at I3 I4 f3 w0
  -- the wish of the block
  obtain ⟨xe, hxe⟩ : ∃ xe : Value → Shared → Prop, xe = notedBy (model X.prog X.w) X.A ce (CompFails (model X.prog X.w) X.A X.xe ce) := ⟨_, rfl⟩
  have pass : Passes (L2.CX X.prog X.w) (bx X t3 H3 scope ce fp xe) E := fun pb τ Hb sb u sz Jb c => by
    show xe u sz
    rw [hxe]
    exact block_air I3 hs hf tk hW cL cF f3 Jb c
  have pg : PG (bx X t3 H3 scope ce fp xe) tg g := by rw [hce]; exact hg _ _ _ _ _ _
  have pt : PTs (bx X t3 H3 scope ce fp xe) ifs tt := by rw [hce]; exact ht _ _ _ _ _ _
  have pe : PE (bx X t3 H3 scope ce fp xe) elt te := by
    rw [hce] at pass ⊢
    exact he _ _ _ _ _ _ pass
  have I4 := I4.wish xe
  obtain ⟨t4, ht4⟩ : ∃ t4 : Shared, t4 = { t3 with heap := pushCells (t3.heap.push { cls := .type "dict", data := .dict #[] }) scope.names } := ⟨_, rfl⟩
  rw [← ht4] at I4 ⊢
  have hp4 : t4.heap = pushCells (t3.heap.push { cls := .type "dict", data := .dict #[] }) scope.names := by rw [ht4]
  have kp4 : ∀ b o, t3.heap.get? b = some o → t4.heap.get? b = some o := fun b o e => by
    rw [hp4]
    exact pushCells_keeps _ _ _ _ (Heap.get?_push_of_some _ e)
  have st4 : tn 0 t4.heap := T.keep 0 t3.heap t4.heap st3 fun b _ o e => kp4 b o e
  have stat : ∀ {τ : L2.St} {G : Hp} {u : Shared}, Inv (bx X t3 H3 scope ce fp xe) [] τ G u → (∀ b ∈ fp, G b = none) → ∀ b ∈ fp, FpOk (bx X t3 H3 scope ce fp xe) [] G b := fun {τ G u} Iu hn b hb =>
    ⟨hn b hb, (Iu.ok.exf b hb).1, Iu.ok.exfs b hb, .inl hb, fun x c e => (Iu.ok.exf b hb).2 x c e, fun q hq => (by have hq : q ∈ ([] : List (Addr × Obj)) := hq; cases hq)⟩
  have cv : ∀ {α : Type} {tm : Sem α} {Qq : α → Shared → Prop} {v : Shared}, wpAny (model X.prog X.w) X.A tm Qq xe v → wpAny (model X.prog X.w) X.A tm Qq (notedBy (model X.prog X.w) X.A ce fun e z => compEnds (model X.prog X.w) X.A X.xe none (EP X pins σ Q) (.ref D) ce (.error e) z) v := fun {α tm Qq v} q => by
    rw [hxe] at q
    exact q
  have loop : codeAny (model X.prog X.w) X.A (.compLoop (.ListComp elt [⟨tg, iter, ifs, 0⟩] scope pos) 0 (.ref it) (.ref D) ce) (compEnds (model X.prog X.w) X.A X.xe none (EP X pins σ Q) (.ref D) ce) t4 := by
    refine compLoop_any (fun n u => ∃ i G, Inv (bx X t3 H3 scope ce fp xe) [] (wipe σ (own.map (·.2))) G u ∧ tn i u.heap ∧ (∀ b ∈ fp, G b = none) ∧ Wn i n G) ?_ m0 ⟨0, H3, I4, st4, fun b hb => (f3 b hb).1.1, w0⟩
    rintro n s5 ⟨i, H5, I5, st5, n5, w5⟩
    rcases turn i n H5 w5 with ⟨stop, qq⟩ | ⟨go, Nx, hNx, step⟩
    · refine thnF (T.done (bx X t3 H3 scope ce fp xe) rfl rfl rfl hc i [] s5 _ H5 (fun _ _ => False) I5 (stat I5 n5) st5 stop) fun r s6 ⟨er, I6⟩ => ?_
      subst er
      have I7 : Inv X pins σ H5 s6 := I3.call' (ch := fp) I6.os I6.base I6.hok I6.bare fun b hb => ⟨(f3 b hb).1.2.2.2.1, (f3 b hb).1.2.1, (f3 b hb).1.2.2.2.2.1, (f3 b hb).1.2.2.2.2.2⟩
      obtain ⟨m, hn, _⟩ := I6.loc
      have nC : H5 ce.locals = none := I6.free
      obtain ⟨f0, f1, _, fa, fb, fc⟩ := I3.fpOk (b := ce.locals) (H' := H5) (Nat.le_of_eq cL.symm) nC
      exact ⟨m, hn, fun h'' sb => ⟨.ref D, H5, I7.turned (t' := s6.toks) (fun b o hb e => (sb.2 b hb).trans e) f0 f1 fa fb fc, rfl, qq⟩⟩
    · refine thnF (T.item (bx X t3 H3 scope ce fp xe) rfl rfl rfl hc i [] s5 _ H5 (fun _ _ => False) I5 (stat I5 n5) st5 go) fun r s6 ⟨u, er, h6⟩ => ?_
      subst er
      refine thnF h6 fun _ s7 ⟨x, H7, I7, r7, y7, st7, n7⟩ => ?_
      refine thn (cv (pg.run _ s7 _ H7 x u _ (I7.pinned (stat I7 n7) (T.obj _ _ st7)) r7 (step x H7 y7))) fun _ s8 ⟨σ8, H8, I8, hw8, q8⟩ => ?_
      refine thn (cv (pt.run _ s8 σ8 H8 _ I8 q8)) fun b s9 ⟨H9, I9, q9⟩ => ?_
      have fin : ∀ {v : Shared} {G : Hp}, Inv (bx X t3 H3 scope ce fp xe) ([] ++ pinsAt fp s7.heap) σ8 G v → Nx G → ∃ m, m < n ∧ ∃ i G, Inv (bx X t3 H3 scope ce fp xe) [] (wipe σ (own.map (·.2))) G v ∧ tn i v.heap ∧ (∀ b ∈ fp, G b = none) ∧ Wn i m G := fun {v G} Iv nx => by
        obtain ⟨mm, lt, ww⟩ := hNx G nx
        have stay : ∀ b ∈ fp, ∀ o, s7.heap.get? b = some o → v.heap.get? b = some o ∧ G b = none := fun b hb o e =>
          (let z := Iv.pin (b, o) (List.mem_append_right _ (List.mem_append_right _ (mem_pinsAt hb e))); ⟨z.1, z.2.1⟩)
        refine ⟨mm, lt, i + 1, G, (Iv.unpinned (pins := [])).weak (by rw [← hw8, wipe_length]) (fun j y e => (wipe_some (hw8 ▸ e)).1), T.keep _ _ _ st7 fun b hb o e => (stay b hb o e).1, fun b hb => ?_, ww⟩
        obtain ⟨o, e, _⟩ := T.obj _ _ st7 b hb
        exact (stay b hb o e).2
      cases b with
      | false =>
        rw [if_neg Bool.false_ne_true] at q9 ⊢
        exact fin I9 q9
      | true =>
        rw [if_pos rfl] at q9 ⊢
        refine thn (cv (pe.run _ s9 σ8 H9 _ I9 q9)) fun z s10 ⟨yv, H10, I10, r10, acc, hD10, hz10, nx⟩ => ?_
        exact app_ok (X := bx X t3 H3 scope ce fp xe) I10 hD10 hz10 r10 fun s11 I11 => fin I11 nx
  exact codeAny_compStart_list loop (T.self X.A 0 _ _ _ st4 loop)
end
end NLX

set_option Elab.async false
set_option linter.all false
set_option maxRecDepth 100000
set_option maxHeartbeats 8000000
namespace K95
open PySem L2 NX
abbrev sRP : Stmt := top 21
theorem scRP : FnScope ["text", "at", "line"] ["text"] (defScope sRP) := ⟨rfl, rfl, rfl, by decide +kernel, rfl, by decide +kernel, by decide +kernel⟩
abbrev linesOf (z : Str) : List Str := Txt.split z (Str.ofString "\n")
abbrev wordsIn (l : Str) : List Str := Txt.split l (Str.ofString " ")
/-- the lines of a plan: where the first fault is, or the rows -/
def planScan : List Str → (Nat × Nat) ⊕ List (List Ent)
  | [] => .inr []
  | l :: r => match rowScan (wordsIn l) with
    | .inl k => .inl (0, k)
    | .inr es => match planScan r with
      | .inl q => .inl (q.1 + 1, q.2)
      | .inr ess => .inr (es :: ess)
def shiftP (e0 : List (List Ent)) : (Nat × Nat) ⊕ List (List Ent) → (Nat × Nat) ⊕ List (List Ent)
  | .inl q => .inl (e0.length + q.1, q.2)
  | .inr ess => .inr (e0 ++ ess)
def PlanEnds (K : PySem.W.Frag) (m : M4) (CT : Addr) (H : Hp) (Q : VK) (E : XK) : (Nat × Nat) ⊕ List (List Ent) → Prop
  | .inr ess => ∀ r H', Same H H' → PlanAt K m H' r ess → Q (.ref r) H'
  | .inl q => ∀ d H', Told2 H d (.int (q.1 : Nat)) (.int (q.2 : Nat)) H' → E (.ref CT) (some d) H'
def spRP (K : PySem.W.Frag) (m : M4) (CT : Addr) : Sp := fun vs H Q E => ∃ v, vs = [v] ∧ ((∃ z, v = .str z ∧ z.length ≤ 990 ∧ PlanEnds K m CT H Q E (planScan (linesOf z))) ∨ (NoStr K H v ∧ ∀ d H', Told2 H d (.int 0) (.int 0) H' → E (.ref CT) (some d) H'))
/-- a row of moves, made since H, beside the list at D -/
def RowIn (m : M4) (H H' : Hp) (D b : Addr) (es : List Ent) : Prop := H b = none ∧ b ≠ D ∧ ∃ xs : List Addr, H' b = some (.lst (xs.map V.ref)) ∧ xs.length = es.length ∧ ∀ (i : Nat) (x : Addr) (e : Ent), xs[i]? = some x → es[i]? = some e → IsMove m H' x e.1 e.2
theorem RowIn.same {m : M4} {H H1 H2 : Hp} {D b : Addr} {es : List Ent} (s : Same H1 H2) (h : RowIn m H H1 D b es) : RowIn m H H2 D b es := by
  obtain ⟨a, c, xs, h1, h2, h3⟩ := h
  exact ⟨a, c, xs, s _ _ h1, h2, fun i x e q1 q2 => (h3 i x e q1 q2).same s⟩
theorem RowIn.put {m : M4} {H H1 : Hp} {D b : Addr} {ys : List V} {o : HO} {es : List Ent} (hD : H1 D = some (.lst ys)) (h : RowIn m H H1 D b es) : RowIn m H (upd H1 D o) D b es := by
  obtain ⟨a, c, xs, h1, h2, h3⟩ := h
  exact ⟨a, c, xs, by rw [upd_ne c]; exact h1, h2, fun i x e q1 q2 => isMove_put hD (h3 i x e q1 q2)⟩
theorem rms_back {n : Str} (h : Txt.removesuffix n comma ≠ n) : n = Txt.removesuffix n comma ++ comma := by
  have e := StrLaws.removesuffix_eq n comma
  cases q : (decide (0 + comma.length ≤ n.length) && Builtin.Str.subAt n comma (n.length - comma.length)) with
  | false =>
    rw [q, if_neg Bool.false_ne_true] at e
    exact absurd e h
  | true =>
    rw [q, if_pos rfl] at e
    obtain ⟨q1, q2⟩ := Bool.and_eq_true_iff.mp q
    have q1 := of_decide_eq_true q1
    rw [StrLaws.subAt_eq, comma_l, comma_n] at q2
    rw [comma_n] at q1
    have q2 := eq_of_beq q2
    refine str_ext ?_
    rw [cps_append, e, comma_l]
    show n.cps.toList = (n.cps.toList.drop 0).take (n.length - comma.length - 0) ++ [44]
    have l : (n.cps.toList.drop (n.length - 1)).length = 1 := by rw [List.length_drop, ← len_l]; omega
    have q3 : n.cps.toList.drop (n.length - 1) = [44] := (List.take_of_length_le (by rw [l]; exact Nat.le_refl 1)).symm.trans q2
    rw [← q3, List.drop_zero, comma_n, Nat.sub_zero, List.take_append_drop]
/-- what a good row is made of -/
theorem scan_ok : ∀ (ws : List Str) {es : List Ent}, scan ws = .inr es → es ≠ [] ∧ (∀ e ∈ es, okE e) ∧ 2 * es.length = ws.length ∧ ws = wordsOf es
  | [], es, h => by rw [scan.eq_1] at h; cases h
  | [w], es, h => by rw [scan.eq_2] at h; cases h
  | w :: n :: r, es, h => by
    rw [scan.eq_3] at h
    cases h1 : isW w with
    | false => rw [h1, if_neg Bool.false_ne_true] at h; cases h
    | true =>
    rw [h1, if_pos rfl] at h
    cases h2 : nm (Txt.removesuffix n comma) with
    | false => rw [h2, if_neg Bool.false_ne_true] at h; cases h
    | true =>
    rw [h2, if_pos rfl] at h
    by_cases h3 : Txt.removesuffix n comma = n
    · rw [if_pos h3] at h
      by_cases h4 : r = []
      · rw [if_pos h4] at h
        cases h
        subst h4
        rw [h3] at h2
        exact ⟨by simp, fun e he => by rw [List.mem_singleton.mp he]; exact ⟨h1, h2⟩, rfl, rfl⟩
      · rw [if_neg h4] at h
        cases h
    · rw [if_neg h3] at h
      cases hs : scan r with
      | inl k => rw [hs] at h; cases h
      | inr ds =>
        rw [hs] at h
        have h : Sum.inr ((w, Txt.removesuffix n comma) :: ds) = (Sum.inr es : Nat ⊕ List Ent) := h
        cases h
        obtain ⟨a, b, c, d⟩ := scan_ok r hs
        refine ⟨by simp, fun e he => ?_, ?_, ?_⟩
        · rcases List.mem_cons.mp he with e1 | e1
          · rw [e1]; exact ⟨h1, h2⟩
          · exact b e e1
        · simp only [List.length_cons]; omega
        · cases ds with
          | nil => exact absurd rfl a
          | cons e l =>
            show w :: n :: r = w :: (Txt.removesuffix n comma ++ comma) :: wordsOf (e :: l)
            rw [← rms_back h3, ← d]
/-- .. and of a good line -/
theorem row_ok {ws : List Str} {es : List Ent} (hw : ws ≠ []) (h : rowScan ws = .inr es) : (∀ e ∈ es, okE e) ∧ 2 * es.length ≤ ws.length ∧ ws = wordsOf es := by
  unfold rowScan at h
  by_cases q : ws.head? = some (Str.ofString "-")
  · rw [if_pos q] at h
    by_cases l : 1 < ws.length
    · rw [if_pos l] at h; cases h
    · rw [if_neg l] at h
      cases h
      cases ws with
      | nil => exact absurd rfl hw
      | cons a r =>
        have e1 : a = Str.ofString "-" := Option.some.inj q
        have e2 : r = [] := List.length_eq_zero_iff.mp (by simp only [List.length_cons] at l; omega)
        exact ⟨nofun, by simp, by rw [e1, e2]; rfl⟩
  · rw [if_neg q] at h
    obtain ⟨_, b, c, d⟩ := scan_ok ws h
    exact ⟨b, by omega, d⟩
section
variable {P : Program} {w : World} {K : PySem.W.Frag} {mg : Str → Option Value} {base : Heap}
theorem ok_rp {m : M4} {CT fT fRR : Addr} {f : Addr} {fd fdRR : FuncData} (F : Fun K "read_plan" "read_plan" sRP f fd) (T : TxtB mg) (B : ErrT P w K mg base CT fT) (FRR : FnOk P w K mg base (CX P w) 9 fRR fdRR ["at", "words"] (spRR K m CT)) (gRR : mg "read_row" = some (.ref fRR)) (kRR : PySem.W.keepIn K (.ref fRR) = true) (hbRR : Binds K fdRR ["at", "words"] []) :
    FnOk P w K mg base (CX P w) 11 f fd ["text"] (spRP K m CT) := by
  obtain ⟨fde, Fe, hbe⟩ := B.ok
  refine F.okX scRP (fun vs H Q E h => ?_) (fun cdv A outer s H vs Q E hr h => ?_)
  · obtain ⟨v, rfl, _⟩ := h
    rfl
  · obtain ⟨v, rfl, h⟩ := h
    refine ⟨_, (pss_cons (ps_if (pt_not (pt_val (pe_callB call_isi (by rfl) T.bisinstance (by decide +kernel) (pa_cons (pv 0) (pa_cons (pe_bltn (v := .ty "str") (by rfl) T.bstr (by decide +kernel) rfl) pa_nil))))) (pss_one (ps_raise rfl (takes_of rfl rfl rfl rfl) (pmk_oex (ds := []) (dvs := []) B.O B.i B.t Fe (hr.mono (by decide)) hbe .nil pass0 rfl B.g (pa_cons pe_int (pa_cons pe_int pa_nil))))) pss_nil)
      (pss_one (ps_ret (NLX.pe_lcX (E := E) (W := fun cls d _ H => E cls d H) rfl rfl (takes_of rfl rfl rfl rfl) (fun _ _ _ _ h => h) (own := [("at", 1), ("line", 2)]) (g := gTup K 2 (gCons (gName 1) (gCons (gName 2) gNil))) rfl scRP.nd (pi_enum (by rfl) T.benumerate (pa_cons (pe_split (pv 0) pe_str) pa_nil)) (blkOk_by (own := [("at", 1), ("line", 2)]) (N := ["text", "at", "line"]) (sc := defScope sRP) (by decide +kernel)) (fun _ _ _ _ _ _ => (pg_tup rfl (pgs_cons (pg_name (i := 1) scRP.nd rfl (Or.inl rfl)) (pgs_cons (pg_name (i := 2) scRP.nd rfl (Or.inl rfl)) pgs_nil)))) (fun _ _ _ _ _ _ => pts_nil) (fun _ _ _ _ _ _ pass => (pe_call (E := E) FRR (hr.mono (by decide)) rfl gRR kRR hbRR .nil pass (pa_cons (pv 1) (pa_cons (pe_split (pv 2) pe_str) pa_nil)))))))), ?_⟩
    rcases h with ⟨z, rfl, hz, h⟩ | ⟨⟨t, ty, k⟩, q⟩
    · have hle := PyProof.Rows.split_le z (Str.ofString "\n")
      have z1100 : (1100 : Nat) ≤ sizeLine := by decide
      refine ⟨_, rfl, _, _, _, _, true, rfl, .ty "str", .base (.str _), kit_ty (by decide +kernel), true, rfl, iteF ?_⟩
      refine ⟨_, rfl, ⟨_, rfl⟩, z, _, rfl, rfl, by decide +kernel, Nat.le_trans (Nat.add_le_add_right hz 2) (by decide), fun p hp => ?_⟩
      obtain ⟨ls, hls⟩ : ∃ ls, ls = linesOf z := ⟨_, rfl⟩
      have short : ∀ l ∈ ls, l.length ≤ 990 := fun l hl => Nat.le_trans (PyProof.Rows.part_short (hls ▸ hl)) hz
      rw [← hls] at h
      rw [show Txt.split z (Str.ofString "\n") = ls from hls.symm] at hle ⊢
      have s1 : Same H (upd H p (.lst (ls.map V.str))) := Same.new hp
      refine ⟨p, _, rfl, SqL.of upd_same, fun D hD => ?_⟩
      have hp1 : (upd H p (.lst (ls.map V.str))) p = some (.lst (ls.map V.str)) := upd_same
      clear hp
      generalize (upd H p (.lst (ls.map V.str))) = H1 at *
      have hD0 : H D = none := sameNone s1 hD
      refine lc_it (walk_enum (K := K) (a := p) (xs := ls.map V.str)) (fun i H' => Same H1 H' ∧ ∃ (bs : List Addr) (e0 : List (List Ent)), bs.length = i ∧ e0.length = i ∧ H' D = some (.lst (bs.map V.ref)) ∧ planScan ls = shiftP e0 (planScan (ls.drop i)) ∧ ∀ (q : Nat) (b : Addr) (es : List Ent), bs[q]? = some b → e0[q]? = some es → RowIn m H H' D b es ∧ (∀ e ∈ es, okE e) ∧ es.length ≤ 500)
        ⟨Same.new hD, [], [], rfl, rfl, upd_same, by
          show planScan ls = shiftP [] (planScan ls)
          cases planScan ls with
          | inl q => show Sum.inl q = Sum.inl (0 + q.1, q.2); rw [Nat.zero_add]
          | inr ess => rfl, fun q b es h => by simp at h⟩ (fun i H' _ z => SqL.of (z.1 _ _ hp1)) ?_ ?_
      · rintro i v H2 H3 hi ⟨s2, bs, e0, hb, hb0, hd, tot, hR⟩ ⟨T, x, y, rfl, hT, rfl, hx, hy⟩
        injection hx with hx
        subst hx
        rw [List.length_map] at hi
        obtain ⟨l, hl⟩ : ∃ l, l = ls[i] := ⟨_, rfl⟩
        have he : ls[i]? = some l := by rw [hl]; exact List.getElem?_eq_getElem hi
        replace hy : (ls.map V.str)[i]? = some y := hy
        rw [List.getElem?_map, he] at hy
        injection hy with hy
        subst hy
        have hll := short l (List.mem_of_getElem? he)
        have hdr : ls.drop i = l :: ls.drop (i + 1) := by rw [hl]; exact List.drop_eq_getElem_cons hi
        rw [hdr] at tot
        have s3 : Same H2 (upd H2 T (.tup [.int (i : Nat), .str l])) := Same.new hT
        refine ⟨T, _, rfl, SqT.of upd_same, rfl, _, _, rfl, _, _, rfl, rfl, rfl, yesI ?_⟩
        clear hT
        generalize (upd H2 T (.tup [.int (i : Nat), .str l])) = H3 at *
        refine ⟨_, rfl, _, rfl, ⟨_, rfl⟩, l, _, rfl, rfl, by decide +kernel, by omega, fun p2 hp2 => ?_⟩
        have wpos := PyProof.Rows.split_pos l (Str.ofString " ")
        have wle := PyProof.Rows.split_le l (Str.ofString " ")
        obtain ⟨ws, hws⟩ : ∃ ws, ws = wordsIn l := ⟨_, rfl⟩
        rw [show Txt.split l (Str.ofString " ") = ws from hws.symm] at wpos wle ⊢
        have wne : ws ≠ [] := fun e => by rw [e] at wpos; exact absurd wpos (by decide)
        have s4 : Same H3 (upd H3 p2 (.lst (ws.map V.str))) := Same.new hp2
        refine ⟨_, p2, ws, rfl, SqL.of upd_same, wne, by omega, fun w hw => Nat.le_trans (PyProof.Rows.part_short (hws ▸ hw)) (Nat.le_trans hll (by decide)), ?_⟩
        have s34 := s3.trans s4
        have s24 := s2.trans s34
        have hd4 := s34 _ _ hd
        have hp3 := hp2
        clear hp2
        generalize (upd H3 p2 (.lst (ws.map V.str))) = H4 at *
        cases hrs : rowScan ws with
        | inl k =>
          intro d H5 t
          have e1 : planScan (l :: ls.drop (i + 1)) = .inl (0, k) := by
            unfold planScan
            rw [← hws, hrs]
          rw [tot, e1] at h
          have h : ∀ d H', Told2 H d (.int ((e0.length + 0 : Nat) : Int)) (.int (k : Nat)) H' → E (.ref CT) (some d) H' := h
          rw [hb0, Nat.add_zero] at h
          exact h d H5 (t.old (s1.trans s24))
        | inr es =>
          intro r H5 hrow
          obtain ⟨oke, le2, _⟩ := row_ok wne hrs
          obtain ⟨s5, hr, xs, hx1, hx2, hx3⟩ := hrow
          have s45 := s34.trans s5
          have s25 := s2.trans s45
          have hd5 := s45 _ _ hd
          have hr0 : H r = none := sameNone s1 (sameNone s24 hr)
          have nrD : r ≠ D := fun e => by
            rw [← e, hr] at hd4
            cases hd4
          have hRr : RowIn m H H5 D r es := ⟨hr0, nrD, xs, hx1, hx2, hx3⟩
          refine ⟨_, hd5, by rw [List.length_map]; omega, samePut s25 hD, bs ++ [r], e0 ++ [es], by rw [List.length_append, hb]; rfl, by rw [List.length_append, hb0]; rfl, by rw [upd_same, List.map_append]; rfl, ?_, fun q b es' q1 q2 => ?_⟩
          · rw [tot]
            rw [planScan.eq_2, ← hws, hrs]
            show shiftP e0 (match planScan (ls.drop (i + 1)) with
              | .inl q => .inl (q.1 + 1, q.2)
              | .inr ess => .inr (es :: ess)) = _
            cases planScan (ls.drop (i + 1)) with
            | inl q =>
              show Sum.inl (e0.length + (q.1 + 1), q.2) = Sum.inl ((e0 ++ [es]).length + q.1, q.2)
              rw [List.length_append, List.length_singleton, Nat.add_assoc, Nat.add_comm q.1 1]
            | inr ess =>
              show Sum.inr (e0 ++ es :: ess) = Sum.inr (e0 ++ [es] ++ ess)
              rw [List.append_assoc]
              rfl
          · by_cases hq : q < bs.length
            · rw [List.getElem?_append_left hq] at q1
              rw [List.getElem?_append_left (by omega)] at q2
              obtain ⟨a1, a2, a3⟩ := hR q b es' q1 q2
              exact ⟨RowIn.put hd5 (a1.same s45), a2, a3⟩
            · rw [List.getElem?_append_right (by omega)] at q1
              rw [List.getElem?_append_right (by omega), hb0, ← hb] at q2
              cases hk : q - bs.length with
              | zero =>
                rw [hk] at q1 q2
                simp at q1 q2
                rw [← q1, ← q2]
                exact ⟨RowIn.put hd5 hRr, oke, by omega⟩
              | succ n =>
                rw [hk] at q1
                simp at q1
      · rintro H2 ⟨s2, bs, e0, hb, hb0, hd, tot, hR⟩
        rw [List.length_map] at hb hb0 tot
        rw [List.drop_length] at tot
        have e1 : planScan ls = .inr e0 := by
          rw [tot]
          show Sum.inr (e0 ++ []) = Sum.inr e0
          rw [List.append_nil]
        rw [e1] at h
        refine h D H2 (s1.trans s2) ⟨⟨bs.map V.ref, .inl (SqL.of hd), by rw [List.length_map, hb, hb0], fun i v es q1 q2 => ?_⟩, by omega⟩
        rw [List.getElem?_map] at q1
        obtain ⟨b, q3, rfl⟩ := Option.map_eq_some_iff.mp q1
        obtain ⟨⟨_, _, xs, h1, h2, h3⟩, ok, l5⟩ := hR i b es q3 q2
        refine ⟨b, rfl, ⟨xs.map V.ref, .inl (SqL.of h1), by rw [List.length_map, h2], fun i v e q1 q2 => ?_⟩, l5⟩
        rw [List.getElem?_map] at q1
        obtain ⟨x, q3, rfl⟩ := Option.map_eq_some_iff.mp q1
        exact ⟨ok e (List.mem_of_getElem? q2), .inl ⟨x, rfl, h3 i x e q3 q2⟩⟩
    · exact ⟨_, rfl, _, _, _, _, false, rfl, .ty "str", ty, k, false, rfl, iteT (mkT_of B.O B.vl B.vw q)⟩
end
end K95

set_option Elab.async false
set_option linter.all false
set_option maxRecDepth 100000
set_option maxHeartbeats 8000000
namespace K95
open PySem L2 NX
/-- a text without fault is the text of what it tells -/
theorem plan_back : ∀ (ls : List Str) {ess : List (List Ent)}, planScan ls = .inr ess → ess.map rowT = ls
  | [], ess, h => by
    rw [planScan.eq_1] at h
    cases h
    rfl
  | l :: r, ess, h => by
    rw [planScan.eq_2] at h
    cases h1 : rowScan (wordsIn l) with
    | inl k => rw [h1] at h; cases h
    | inr es =>
      rw [h1] at h
      cases h2 : planScan r with
      | inl q => rw [h2] at h; cases h
      | inr e2 =>
        rw [h2] at h
        have h : Sum.inr (es :: e2) = (Sum.inr ess : (Nat × Nat) ⊕ List (List Ent)) := h
        cases h
        have pos := PyProof.Rows.split_pos l (Str.ofString " ")
        obtain ⟨_, _, e⟩ := row_ok (ws := wordsIn l) (fun z => by rw [show Txt.split l (Str.ofString " ") = [] from z] at pos; exact absurd pos (by decide)) h1
        rw [List.map_cons, plan_back r h2, rowT_eq, ← e]
        congr 1
        exact StrLaws.join_split l (Str.ofString " ")
theorem text_back {z : Str} {ess : List (List Ent)} (h : planScan (linesOf z) = .inr ess) : planT ess = z := by
  unfold planT
  rw [plan_back _ h]
  exact StrLaws.join_split z (Str.ofString "\n")
end K95

set_option Elab.async false
set_option linter.all false
set_option maxRecDepth 100000
set_option maxHeartbeats 8000000
namespace NX
open PySem L2
/-- a comprehension over the signs of a text -/
theorem lcTxt {z : Str} {tg : TG} {tst : TT} {el : TE} {own : List Nat} {σ₀ : L2.St} {Ha : Hp} {L : Addr} {Fin : Hp → Prop} (Iv : Nat → Hp → Prop) (start : Iv 0 (upd Ha L (.lst [])))
    (turn : ∀ j ch Hb, z.cps[j]? = some ch → Iv j Hb → tg (.str ⟨#[ch]⟩) (wipe σ₀ own) Hb fun τ Hc => wipe τ own = wipe σ₀ own ∧ tst τ Hc fun yes Hd =>
      if yes = true then el τ Hd fun v He => ∃ got, He L = some (.lst got) ∧ got.length < sizeLine ∧ Iv (j + 1) (upd He L (.lst (got ++ [v]))) else Iv (j + 1) Hd) (fin : ∀ Hb, Iv z.cps.size Hb → Fin Hb) :
    ∃ W : Nat → Nat → Hp → Prop, (∃ k, W 0 k (upd Ha L (.lst []))) ∧ ∀ j k Hb, W j k Hb →
      ((Its z).stop j Hb ∧ Fin Hb) ∨ ((Its z).go j Hb ∧ ∃ Nx : Hp → Prop, (∀ Hc, Nx Hc → ∃ k', k' < k ∧ W (j + 1) k' Hc) ∧ ∀ x Hc, (Its z).yld j Hb x Hc → tg x (wipe σ₀ own) Hc fun τ Hd => wipe τ own = wipe σ₀ own ∧ tst τ Hd fun yes He =>
        if yes = true then el τ He fun v Hf => ∃ got, Hf L = some (.lst got) ∧ got.length < sizeLine ∧ Nx (upd Hf L (.lst (got ++ [v]))) else Nx He) := by
  refine ⟨fun j k Hb => k + j = z.cps.size ∧ Iv j Hb, ⟨z.cps.size, rfl, start⟩, fun j k Hb ⟨e, iv⟩ => ?_⟩
  cases k with
  | zero =>
    have e' : j = z.cps.size := by omega
    subst e'
    exact .inl ⟨Nat.le_refl _, fin Hb iv⟩
  | succ k =>
    refine .inr ⟨by show j < z.cps.size; omega, Iv (j + 1), fun Hc q => ⟨k, Nat.lt_succ_self k, by omega, q⟩, fun x Hc y => ?_⟩
    obtain ⟨rfl, ch, hc, rfl⟩ := y
    exact turn j ch _ hc iv
end NX
namespace K95
open PySem L2 NX
/-- one letter -/
def one (ch : Nat) : Str := ⟨#[ch]⟩

abbrev sLIs : Stmt := top 27
theorem scLIs : FnScope ["_law_word", "_law_letters", "_law_sign"] ["_law_word"] (defScope sLIs) := ⟨rfl, rfl, rfl, by decide +kernel, rfl, by decide +kernel, by decide +kernel⟩
theorem strEqv (l : List Nat) : PyData.eqv (.list ((l.map one).map PyData.str)) (.list []) = l.isEmpty := by
  cases l with
  | nil => rfl
  | cons a r => rfl
theorem layOnes : ∀ l : List Nat, (∀ ch ∈ l, ch < 256) → PyData.canLayAll0 ((l.map one).map PyData.str) = true
  | [], _ => rfl
  | a :: r, h => by
    rw [List.map_cons, List.map_cons, PyData.canLayAll0.eq_2, PyData.canLay0.eq_4, layOnes r (fun c hc => h c (List.mem_cons_of_mem _ hc)), Bool.and_true]
    have z := h a List.mem_cons_self
    show (#[a] : Array Nat).all (fun x => decide (x < 1114112)) = true
    rw [Array.all_eq_true]
    intro i hi
    have e : i = 0 := by simp at hi; exact hi
    subst e
    exact decide_eq_true (Nat.lt_trans z (by decide))
theorem depOnes : ∀ l : List Nat, PyData.depthAll ((l.map one).map PyData.str) = 0
  | [] => rfl
  | a :: r => by
    rw [List.map_cons, List.map_cons, PyData.depthAll.eq_2, depOnes r]
    rfl
theorem shapedOnes (l : List Nat) (h : ∀ ch ∈ l, ch < 256) : SeqAt.shaped (.list ((l.map one).map PyData.str)) = true := by
  unfold SeqAt.shaped
  rw [PyData.canLay0.eq_5, layOnes l h, PyData.depth.eq_def]
  show (true && decide (PyData.depthAll _ + 1 ≤ 64)) = true
  rw [depOnes]
  rfl
def spLIs : Sp := fun vs H Q _ => ∃ (z : Str), vs = [.str z] ∧ z.length ≤ 1000 ∧ okS z ∧ ∀ H', Same H H' → Q (.bl (nm z)) H'
section
variable {P : Program} {w : World} {K : PySem.W.Frag} {mg : Str → Option Value} {base : Heap}
theorem dpOnes {H : Hp} : ∀ l : List Nat, DpAll K H (l.map fun ch => V.str (one ch)) ((l.map one).map PyData.str)
  | [] => .nil
  | a :: r => .cons (.str _) (dpOnes r)
theorem ok_lis {f : Addr} {fd : FuncData} (F : Fun K "_law_is_name" "_law_is_name" sLIs f fd) (T : TxtB mg) : FnOk P w K mg base CX0 1 f fd ["_law_word"] spLIs := by
  refine F.ok scLIs (fun vs H Q E h => ?_) (fun cdv A outer s H vs Q E hr h => ?_)
  · obtain ⟨z, rfl, _⟩ := h
    rfl
  · obtain ⟨z, rfl, hz, ho, q⟩ := h
    refine ⟨_, (pss_cons (ps_set (i := 1) scLIs.nd rfl (Or.inr rfl) pe_str)
      (pss_one (ps_ret (pe_and (pe_chain op_le op_le pe_int (pe_callB call_len_str (by rfl) T.blen (by decide +kernel) (pa_cons (pv 0) pa_nil)) pe_int) (pe_one (pe_cmpR (op_eqD hr.units) (pe_lc (own := [("_law_sign", 2)]) (g := gName 2) rfl scLIs.nd (pi_str (pv 0)) (blkOk_by (own := [("_law_sign", 2)]) (N := ["_law_word", "_law_letters", "_law_sign"]) (sc := defScope sLIs) (by decide +kernel)) (fun _ _ _ _ _ => (pg_name (i := 2) scLIs.nd rfl (Or.inl rfl))) (fun _ _ _ _ _ => (pts_one (pt_cmpR op_notIn_sign (pv 2) (pv 1) rfl))) (fun _ _ _ _ _ => (pv 2))) (pe_lst pa_nil) (nomark _))))))), ?_⟩
    refine ⟨_, rfl, z, rfl, Nat.le_of_lt (small1000 hz), 1, _, rfl, rfl, _, rfl, ite2 (fun h1 => ?_) (fun h1 => ?_)⟩
    · refine ⟨_, 6, rfl, rfl, _, rfl, ite2 (fun h2 => ?_) (fun h2 => ?_)⟩
      · have e1 := of_decide_eq_true h1
        have e2 := of_decide_eq_true h2
        refine ⟨_, rfl, z, rfl, fun D hD => ?_⟩
        refine lcTxt (fun i H' => Same H H' ∧ ∃ l : List Nat, l = ((z.cps.toList.take i).filter fun ch => !lett ch) ∧ H' D = some (.lst (l.map fun ch => V.str (one ch)))) ?_ ?_ ?_
        · exact ⟨Same.new hD, [], rfl, upd_same⟩
        · intro i ch H' hc hP
          obtain ⟨s', l, hl, hD'⟩ := hP
          have hin : decide (ch ∈ (Str.ofString "abcdefghijklmnopqrstuvwxyz").cps.toList) = lett ch := by
            rw [Bool.eq_iff_iff, decide_eq_true_eq]
            exact letters_mem ch
          have ht : z.cps.toList.take (i + 1) = z.cps.toList.take i ++ [ch] := by
            rw [List.take_succ, Array.getElem?_toList, hc]
            rfl
          have hf : (z.cps.toList.take (i + 1)).filter (fun ch => !lett ch) = l ++ (if lett ch = true then [] else [ch]) := by
            rw [ht, List.filter_append, hl, List.filter_cons, List.filter_nil]
            cases lett ch <;> rfl
          refine ⟨rfl, _, rfl, _, rfl, ch, _, rfl, rfl, _, rfl, ?_⟩
          rw [hin]
          cases hlt : lett ch with
          | true =>
            refine iteF ⟨s', l, ?_, hD'⟩
            rw [hf, hlt]
            simp
          | false =>
            refine iteT ⟨_, rfl, _, hD', ?_, samePut s' hD, l ++ [ch], ?_, ?_⟩
            · rw [List.length_map, hl]
              refine Nat.lt_of_le_of_lt (List.length_filter_le _ _) (Nat.lt_of_le_of_lt (List.length_take_le' _ _) ?_)
              rw [Array.length_toList]
              exact Nat.lt_of_le_of_lt (show z.length ≤ 1000 from hz) (by decide)
            · rw [hf, hlt]
              simp
            · rw [upd_same, List.map_append]
              rfl
        · intro H' hP
          obtain ⟨s', l, hl, hD'⟩ := hP
          have hl : l = z.cps.toList.filter fun ch => !lett ch := by
            rw [hl, ← Array.length_toList, List.take_length]
          refine ⟨by show 0 ≤ sizeLine; decide, fun r hr2 => ?_⟩
          refine ⟨_, _, .lst (SqL.of (by rw [upd_ne (ne_of_none hD' hr2)]; exact hD')) (dpOnes l), .lst (SqL.of upd_same) .nil, shapedOnes l (fun c hc => ho c (List.mem_filter.mp (hl ▸ hc)).1), by decide +kernel, ?_⟩
          rw [strEqv]
          have e : l.isEmpty = nm z := by
            unfold nm
            rw [decide_eq_true (by omega : 1 ≤ z.length), decide_eq_true (by omega : z.length ≤ 6), hl, Bool.eq_iff_iff, List.isEmpty_iff, List.filter_eq_nil_iff, Bool.true_and, Bool.true_and, List.all_eq_true]
            simp
          rw [e]
          exact q _ (s'.trans (Same.new hr2))
      · have e : nm z = false := by
          have e1 : ¬ (z.length ≤ 6) := fun h => h2 (decide_eq_true (by omega))
          unfold nm; rw [decide_eq_false e1]; simp
        have q := q H (fun _ _ h => h)
        rw [e] at q
        exact q
    · have e1 : ¬ (1 ≤ z.length) := fun h => h1 (decide_eq_true (by omega))
      have e : nm z = false := by unfold nm; rw [decide_eq_false e1]; simp
      have q := q H (fun _ _ h => h)
      rw [e] at q
      exact ⟨false, rfl, iteF q⟩
end

end K95

set_option Elab.async false
set_option linter.all false
set_option maxRecDepth 100000
set_option maxHeartbeats 8000000
namespace K95
open PySem L2 NX
abbrev sRF : Stmt := top 29
theorem scRF : FnScope ["_law_words", "_law_at", "_law_more", "_law_title"] ["_law_words"] (defScope sRF) := ⟨rfl, rfl, rfl, by decide +kernel, rfl, by decide +kernel, by decide +kernel⟩
def RFEnds (H : Hp) (Q : VK) : Nat ⊕ List Ent → Prop
  | .inl k => ∀ H', Same H H' → Q (.int (k : Nat)) H'
  | .inr _ => ∀ H', Same H H' → Q .non H'
def spRF (K : PySem.W.Frag) : Sp := fun vs H Q _ => ∃ (b : Addr) (ws : List Str), vs = [.ref b] ∧ SqL K H b (ws.map V.str) ∧ ws ≠ [] ∧ ws.length ≤ 2000 ∧ (∀ z ∈ ws, z.length ≤ 1000 ∧ okS z) ∧ RFEnds H Q (rowScan ws)
/-- a text's last sign is a comma, or it is as without -/
theorem comma_end (n : Str) : decide (V.str (cutS n (some (-1)) none) = V.str (Str.ofString ",")) = !decide (Txt.removesuffix n comma = n) ∧
    cutS n none (some ((n.length : Int) - (if decide (V.str (cutS n (some (-1)) none) = V.str (Str.ofString ",")) = true then 1 else 0))) = Txt.removesuffix n comma := by
  have hlen := len_l n
  have e := StrLaws.removesuffix_eq n comma
  rw [comma_n] at e
  have low : HT.sIx n.length 0 (some (-1)) = n.length - 1 := by
    show (if (-1 : Int) < 0 then ((-1 : Int) + (n.length : Int)).toNat else min (-1 : Int).toNat n.length) = n.length - 1
    rw [if_pos (by decide)]
    omega
  have eT : (cutS n (some (-1)) none).cps.toList = (n.cps.toList.drop (n.length - 1)).take (n.length - (n.length - 1)) := by
    unfold cutS
    rw [low, HT.sIx_none]
  have cut0 : ∀ k : Nat, (cutS n none (some (k : Int))).cps.toList = n.cps.toList.take (min k n.length) := fun k => by
    unfold cutS
    rw [HT.sIx_none, HT.sIx_nat]
    show (n.cps.toList.drop 0).take (min k n.length - 0) = _
    rw [List.drop_zero, Nat.sub_zero]
  have all : cutS n none (some (n.length : Int)) = n := str_ext (by rw [cut0, Nat.min_self, hlen, List.take_length])
  have key : (decide (0 + 1 ≤ n.length) && Builtin.Str.subAt n comma (n.length - 1)) = decide (V.str (cutS n (some (-1)) none) = V.str (Str.ofString ",")) := by
    rw [StrLaws.subAt_eq, comma_l, comma_n, Bool.eq_iff_iff, Bool.and_eq_true, decide_eq_true_eq, decide_eq_true_eq, beq_iff_eq]
    constructor
    · rintro ⟨h1, h2⟩
      congr 1
      refine str_ext ?_
      rw [eT, show n.length - (n.length - 1) = 1 by omega, h2]
      exact comma_l.symm
    · intro h
      have h : cutS n (some (-1)) none = comma := by injection h
      have h2 : (cutS n (some (-1)) none).cps.toList = [44] := by rw [h]; exact comma_l
      rw [eT] at h2
      have h3 := congrArg List.length h2
      rw [List.length_take, List.length_drop] at h3
      have l1 : 0 + 1 ≤ n.length := by
        simp only [List.length_cons, List.length_nil] at h3
        omega
      refine ⟨l1, ?_⟩
      rw [show n.length - (n.length - 1) = 1 by omega] at h2
      exact h2
  rw [← key]
  cases q : (decide (0 + 1 ≤ n.length) && Builtin.Str.subAt n comma (n.length - 1)) with
  | true =>
    rw [q, if_pos rfl] at e
    have l1 : 0 + 1 ≤ n.length := of_decide_eq_true (Bool.and_eq_true_iff.mp q).1
    have rT : (Txt.removesuffix n comma).cps.toList = n.cps.toList.take (n.length - 1) := by
      rw [e]
      show (n.cps.toList.drop 0).take (n.length - 1 - 0) = _
      rw [List.drop_zero, Nat.sub_zero]
    have ne : Txt.removesuffix n comma ≠ n := fun z => by
      have y := congrArg List.length rT
      rw [z, List.length_take, ← hlen] at y
      omega
    refine ⟨by rw [decide_eq_false ne]; rfl, str_ext ?_⟩
    rw [if_pos rfl, show ((n.length : Int) - 1) = ((n.length - 1 : Nat) : Int) by omega, cut0, rT, Nat.min_eq_left (Nat.sub_le _ _)]
  | false =>
    rw [q, if_neg Bool.false_ne_true] at e
    refine ⟨by rw [decide_eq_true e]; rfl, ?_⟩
    rw [if_neg Bool.false_ne_true, Int.sub_zero, all, e]
theorem rms_ok {n : Str} (h : okS n) : okS (Txt.removesuffix n comma) := fun ch hc => by
  rw [StrLaws.removesuffix_eq] at hc
  split at hc
  · have hc : ch ∈ (n.cps.toList.drop 0).take (n.length - comma.length - 0) := hc
    exact h ch (List.mem_of_mem_drop (List.mem_of_mem_take hc))
  · exact h ch hc
section
variable {P : Program} {w : World} {K : PySem.W.Frag} {mg : Str → Option Value} {base : Heap}
theorem ok_rf {f : Addr} {fd : FuncData} (F : Fun K "_law_row_fault" "_law_row_fault" sRF f fd) (T : TxtB mg) (cLIs : C8.Cal P w K mg base 1 "_law_is_name" spLIs []) : FnOk P w K mg base CX0 3 f fd ["_law_words"] (spRF K) := by
  refine F.ok scRF (fun vs H Q E h => ?_) (fun cdv A outer s H vs Q E hr h => ?_)
  · obtain ⟨b, ws, rfl, _⟩ := h
    rfl
  · obtain ⟨b, ws, rfl, hS, hne, few, sml, h⟩ := h
    refine ⟨_, (pss_cons (ps_if (pt_cmpR op_eq (pe_ix ix_list (pv 0) pe_int (fun _ _ => rfl)) pe_str (nomark _)) (pss_one (ps_ret (pe_ifExp (pt_cmpR op_gt (pe_callB call_len_seq (by rfl) T.blen (by decide +kernel) (pa_cons (pv 0) pa_nil)) pe_int (nomark _)) pe_int pe_non))) pss_nil)
      (pss_cons (ps_asg (pe_tup (pa_cons pe_int (pa_cons pe_bl pa_nil))) (pg_tup rfl (pgs_cons (pg_name (i := 1) scRF.nd rfl (Or.inl rfl)) (pgs_cons (pg_name (i := 2) scRF.nd rfl (Or.inl rfl)) pgs_nil))))
      (pss_cons (ps_while PassesOwn.never (pt_val (pv 2))
        (pss_cons (ps_if (PW.pt (pw_or (pt_cmpR op_ge (pv 1) (pe_callB call_len_seq (by rfl) T.blen (by decide +kernel) (pa_cons (pv 0) pa_nil)) (nomark _)) (pw_or1 (pt_cmpR op_notIn_seq (pe_ix ix_list (pv 0) (pv 1) (fun _ _ => rfl)) (pe_tup (pa_cons pe_str (pa_cons pe_str (pa_cons pe_str (pa_cons pe_str pa_nil))))) rfl)))) (pss_one (ps_ret (pv 1))) pss_nil)
        (pss_cons (ps_if (pt_cmpR op_ge (pe_op op_add (pv 1) pe_int) (pe_callB call_len_seq (by rfl) T.blen (by decide +kernel) (pa_cons (pv 0) pa_nil)) (nomark _)) (pss_one (ps_ret (pe_op op_add (pv 1) pe_int))) pss_nil)
        (pss_cons (ps_set (i := 3) scRF.nd rfl (Or.inl rfl) (pe_ix ix_list (pv 0) (pe_op op_add (pv 1) pe_int) (fun _ _ => rfl)))
        (pss_cons (ps_set (i := 2) scRF.nd rfl (Or.inl rfl) (pe_cmpR op_eq (pe_slice sl_str (pv 3) (po_some (pe_un un_neg pe_int)) po_none) pe_str (nomark _)))
        (pss_cons (ps_if (pt_not (pt_val (C8.pe_c cLIs hr (by decide) rfl (pa_cons (pe_slice sl_str (pv 3) po_none (po_some (pe_op op_sub (pe_callB call_len_str (by rfl) T.blen (by decide +kernel) (pa_cons (pv 3) pa_nil)) (pe_callTy call_int1 (by rfl) T.bint (by decide +kernel) (pa_cons (pv 2) pa_nil))))) pa_nil)))) (pss_one (ps_ret (pe_op op_add (pv 1) pe_int))) pss_nil)
        (pss_one (ps_set (i := 1) scRF.nd rfl (Or.inl rfl) (pe_op op_add (pv 1) pe_int)))))))))
      (pss_one (ps_ret (pe_ifExp (pt_cmpR op_lt (pv 1) (pe_callB call_len_seq (by rfl) T.blen (by decide +kernel) (pa_cons (pv 0) pa_nil)) (nomark _)) (pv 1) pe_non)))))), ?_⟩
    obtain ⟨w0, wr, hw0⟩ : ∃ w0 wr, ws = w0 :: wr := by
      cases ws with
      | nil => exact absurd rfl hne
      | cons a r => exact ⟨a, r, rfl⟩
    have z2000 : (2000 : Nat) ≤ sizeLine := by decide
    have hat : ∀ {k : Nat} {z : Str}, ws[k]? = some z → atI (ws.map V.str) ((k : Nat) : Int) = some (.str z) := fun {k z} e => atI_nat (by rw [List.getElem?_map, e]; rfl)
    have h0 : ws[0]? = some w0 := by rw [hw0]; rfl
    refine ⟨_, rfl, b, _, ((0 : Nat) : Int), .str w0, rfl, rfl, hS, hat h0, rfl, _, rfl, ite2 (fun hd => ?_) (fun hd => ?_)⟩
    · have hd : w0 = Str.ofString "-" := by injection of_decide_eq_true hd
      have e1 : rowScan ws = if 1 < ws.length then .inl 1 else .inr [] := by
        unfold rowScan
        rw [if_pos (by rw [hw0, hd]; rfl)]
      rw [e1] at h
      refine ⟨_, rfl, b, _, rfl, .inl hS, _, _, rfl, rfl, _, rfl, ite2 (fun hl => ?_) (fun hl => ?_)⟩
      · have hl := of_decide_eq_true hl
        rw [List.length_map] at hl
        rw [if_pos (by omega)] at h
        exact h H fun _ _ z => z
      · have hl : ¬ (1 < ws.length) := fun q => hl (decide_eq_true (by rw [List.length_map]; omega))
        rw [if_neg hl] at h
        exact h H fun _ _ z => z
    have nd : w0 ≠ Str.ofString "-" := fun e => hd (decide_eq_true (by rw [e]))
    have e1 : rowScan ws = scan ws := by
      unfold rowScan
      rw [if_neg (by rw [hw0]; exact fun q => nd (Option.some.inj q))]
    rw [e1] at h
    refine ⟨by show 2 ≤ sizeLine; decide, fun p0 hp0 => ?_⟩
    have s0 : Same H (upd H p0 (.tup [.int 0, .bl true])) := Same.new hp0
    refine ⟨p0, _, rfl, SqT.of upd_same, rfl, _, _, rfl, _, _, rfl, rfl, ?_⟩
    refine ⟨fun mm σ H' => ∃ (es : List Ent) (more : Bool) (v3 : Option V), mm = (if more = true then ws.length - 2 * es.length + 1 else 0) ∧ σ = [some (.ref b), some (.int ((2 * es.length : Nat) : Int)), some (.bl more), v3] ∧ Same H H' ∧ 2 * es.length ≤ ws.length ∧ scan ws = (if more = true then shift es (scan (ws.drop (2 * es.length))) else if ws.drop (2 * es.length) = [] then .inr es else .inl (2 * es.length)), ?_, ?_⟩
    · refine ⟨_, [], true, none, rfl, rfl, s0, Nat.zero_le _, ?_⟩
      rw [if_pos rfl]
      show scan ws = shift [] (scan ws)
      cases scan ws with
      | inl k => show _ = Sum.inl (2 * 0 + k); rw [Nat.mul_zero, Nat.zero_add]
      | inr ds => rfl
    · rintro mm σ H1 ⟨es, more, v3, rfl, rfl, s1, hle, tot⟩
      have S1 := sqL_same s1 hS
      refine ⟨_, rfl, _, rfl, ite2 (fun hmo => ?_) (fun hmo => ?_)⟩
      · subst hmo
        rw [if_pos rfl] at tot
        have fault : ∀ {k : Nat}, scan (ws.drop (2 * es.length)) = .inl k → ∀ H', Same H H' → Q (.int ((2 * es.length + k : Nat) : Int)) H' := fun {k} e H' s => by
          rw [tot, e] at h
          exact h H' s
        have atw : ∀ {k : Nat} {z : Str}, (ws.drop (2 * es.length))[k]? = some z → ws[2 * es.length + k]? = some z := fun {k z} e => by
          rw [List.getElem?_drop] at e
          exact e
        refine ⟨fun σ' H' => ∃ (es2 : List Ent) (more2 : Bool) (v3 : Option V), (if more2 = true then ws.length - 2 * es2.length + 1 else 0) < ws.length - 2 * es.length + 1 ∧ σ' = [some (.ref b), some (.int ((2 * es2.length : Nat) : Int)), some (.bl more2), v3] ∧ Same H H' ∧ 2 * es2.length ≤ ws.length ∧ scan ws = (if more2 = true then shift es2 (scan (ws.drop (2 * es2.length))) else if ws.drop (2 * es2.length) = [] then .inr es2 else .inl (2 * es2.length)), ?_, ?_⟩
        · rintro σ' H' ⟨es2, more2, v3', lt, z⟩
          exact ⟨_, by rw [if_pos rfl]; exact lt, es2, more2, v3', rfl, z⟩
        obtain ⟨rest, hr0⟩ : ∃ rest, rest = ws.drop (2 * es.length) := ⟨_, rfl⟩
        have hrl : rest.length = ws.length - 2 * es.length := by rw [hr0, List.length_drop]
        rw [← hr0] at fault atw tot
        refine ⟨_, rfl, _, rfl, b, _, rfl, .inl S1, _, _, rfl, rfl, _, rfl, ite2 (fun q => ?_) (fun q => ?_)⟩
        · have q := of_decide_eq_true q
          rw [List.length_map] at q
          have er : rest = [] := List.length_eq_zero_iff.mp (by omega)
          rw [er] at fault
          exact iteT ⟨_, rfl, fault (k := 0) rfl H1 s1⟩
        have nr : rest ≠ [] := fun er => q (decide_eq_true (by rw [List.length_map]; rw [er] at hrl; simp only [List.length_nil] at hrl; omega))
        obtain ⟨wd, r1, er⟩ : ∃ wd r1, rest = wd :: r1 := by
          cases rest with
          | nil => exact absurd rfl nr
          | cons a r => exact ⟨a, r, rfl⟩
        have w1 := hat (atw (k := 0) (z := wd) (by rw [er]; rfl))
        rw [Nat.add_zero] at w1
        have hmem : ∀ z, z ∈ rest → z.length ≤ 1000 ∧ okS z := fun z hz => sml z (List.mem_of_mem_drop (hr0 ▸ hz))
        refine ⟨_, rfl, _, rfl, b, _, _, _, rfl, rfl, S1, w1, ?_⟩
        refine ⟨by show 4 ≤ sizeLine; decide, fun t ht => ⟨t, _, rfl, .inr (SqT.of upd_same), rfl, rfl, _, rfl, ?_⟩⟩
        have s2 : Same H1 (upd H1 t (.tup [.str (Str.ofString "load"), .str (Str.ofString "again"), .str (Str.ofString "store"), .str (Str.ofString "forget")])) := Same.new ht
        rw [show (if true = true then !inV (V.str wd) [.str (Str.ofString "load"), .str (Str.ofString "again"), .str (Str.ofString "store"), .str (Str.ofString "forget")] else inV (V.str wd) [.str (Str.ofString "load"), .str (Str.ofString "again"), .str (Str.ofString "store"), .str (Str.ofString "forget")]) = !isW wd from word_in wd]
        clear ht
        generalize (upd H1 t (.tup [.str (Str.ofString "load"), .str (Str.ofString "again"), .str (Str.ofString "store"), .str (Str.ofString "forget")])) = H2 at *
        have s3 := s1.trans s2
        cases hisw : isW wd with
        | false =>
          have sc : scan rest = .inl 0 := by
            rw [er]
            cases r1 with
            | nil => rw [scan.eq_2, hisw]; rfl
            | cons n r => rw [scan.eq_3, hisw]; rfl
          exact iteT ⟨_, rfl, fault sc H2 s3⟩
        | true =>
        refine iteF ?_
        have S2 := sqL_same s2 S1
        refine ⟨_, rfl, _, _, rfl, rfl, _, rfl, b, _, rfl, .inl S2, _, _, rfl, rfl, _, rfl, ite2 (fun q => ?_) (fun q => ?_)⟩
        · have q := of_decide_eq_true q
          rw [List.length_map] at q
          have e1 : r1 = [] := List.length_eq_zero_iff.mp (by rw [er] at hrl; simp only [List.length_cons] at hrl; omega)
          have sc : scan rest = .inl 1 := by rw [er, e1, scan.eq_2, hisw]; rfl
          exact ⟨_, rfl, _, _, rfl, rfl, fault sc H2 s3⟩
        have n1 : r1 ≠ [] := fun e1 => q (decide_eq_true (by rw [List.length_map]; rw [er, e1] at hrl; simp only [List.length_cons, List.length_nil] at hrl; omega))
        obtain ⟨n, r2, er1⟩ : ∃ n r2, r1 = n :: r2 := by
          cases r1 with
          | nil => exact absurd rfl n1
          | cons a r => exact ⟨a, r, rfl⟩
        subst er1
        have w2 := hat (atw (k := 1) (z := n) (by rw [er]; rfl))
        obtain ⟨ln, okn⟩ := hmem n (by rw [er]; exact List.mem_cons_of_mem _ List.mem_cons_self)
        have w2 : atI (ws.map V.str) (((2 * es.length : Nat) : Int) + 1) = some (.str n) := w2
        have z1000 : (1000 : Nat) ≤ sizeLine := by decide
        have lrm := rms_len n
        refine ⟨_, rfl, _, rfl, _, _, rfl, rfl, b, _, _, _, rfl, rfl, S2, w2, ?_⟩
        obtain ⟨nv, hnv⟩ : ∃ nv, nv = Txt.removesuffix n comma := ⟨_, rfl⟩
        obtain ⟨ce1, ce2⟩ := comma_end n
        rw [← hnv] at lrm ce1 ce2
        rw [ce1] at ce2
        refine ⟨_, rfl, ?_⟩
        refine ⟨1, rfl, -1, rfl, n, rfl, by omega, rfl, ?_⟩
        rw [ce1]
        refine ⟨_, rfl, _, rfl, n, rfl, by omega, _, rfl, .inr ⟨_, rfl, _, _, rfl, rfl, _, rfl, n, rfl, by omega, ?_⟩⟩
        have ce2 : cutS n none (some ((n.length : Int) - (if (!decide (nv = n)) = true then 1 else 0))) = nv := ce2
        rw [ce2]
        refine ⟨nv, rfl, by omega, hnv ▸ rms_ok okn, fun H3 s4 => ?_⟩
        have s5 := s3.trans s4
        cases hnm : nm nv with
        | false =>
          have sc : scan rest = .inl 1 := by
            rw [er, scan.eq_3, hisw, if_pos rfl, ← hnv, hnm]
            rfl
          exact ⟨_, rfl, iteT ⟨_, rfl, _, _, rfl, rfl, fault sc H3 s5⟩⟩
        | true =>
        have hlen2 : (es ++ [(wd, nv)]).length = es.length + 1 := by rw [List.length_append]; rfl
        have hdrop : ws.drop (2 * (es ++ [(wd, nv)]).length) = r2 := by
          rw [hlen2, show 2 * (es.length + 1) = 2 * es.length + 2 by omega, ← List.drop_drop, ← hr0, er]
          rfl
        have e7 : (((2 * es.length : Nat) : Int) + 2) = ((2 * (es ++ [(wd, nv)]).length : Nat) : Int) := by rw [hlen2]; omega
        have hle2 : 2 * es.length + 2 ≤ ws.length := by
          rw [er] at hrl
          simp only [List.length_cons] at hrl
          omega
        have sc := scan_w (r := r2) hisw (hnv ▸ hnm)
        rw [← hnv] at sc
        refine ⟨_, rfl, iteF ⟨_, rfl, _, _, rfl, rfl, es ++ [(wd, nv)], !decide (nv = n), some (.str n), ?_, ?_, s5, by rw [hlen2]; omega, ?_⟩⟩
        · rw [hlen2]
          split <;> omega
        · rw [← e7]
          rfl
        · rw [tot, er, sc, hdrop]
          by_cases q : nv = n
          · rw [if_pos q, decide_eq_true q, q]
            show shift es (if r2 = [] then .inr [(wd, n)] else .inl 2) = if r2 = [] then .inr (es ++ [(wd, n)]) else .inl (2 * (es ++ [(wd, n)]).length)
            by_cases q2 : r2 = []
            · rw [if_pos q2, if_pos q2]
              rfl
            · rw [if_neg q2, if_neg q2, List.length_append]
              rfl
          · rw [if_neg q, decide_eq_false q]
            show shift es _ = shift (es ++ [(wd, nv)]) (scan r2)
            cases scan r2 with
            | inl k => show Sum.inl (2 * es.length + (k + 2)) = Sum.inl (2 * (es ++ [(wd, nv)]).length + k); rw [hlen2]; congr 1; omega
            | inr ds => show Sum.inr (es ++ (wd, nv) :: ds) = Sum.inr (es ++ [(wd, nv)] ++ ds); rw [List.append_assoc]; rfl
      · have hmo : more = false := Bool.eq_false_iff.mpr hmo
        subst hmo
        rw [if_neg Bool.false_ne_true] at tot
        refine ⟨_, rfl, _, rfl, b, _, rfl, .inl S1, _, _, rfl, rfl, _, rfl, ite2 (fun hl => ?_) (fun hl => ?_)⟩
        · have hl := of_decide_eq_true hl
          rw [List.length_map] at hl
          rw [if_neg (fun e => by have q := congrArg List.length e; rw [List.length_drop] at q; simp at q; omega)] at tot
          rw [tot] at h
          exact ⟨_, rfl, h H1 s1⟩
        · have hl : ws.drop (2 * es.length) = [] := List.drop_eq_nil_of_le (by
            by_cases q : 2 * es.length < ws.length
            · exact absurd (decide_eq_true (by rw [List.length_map]; omega)) hl
            · omega)
          rw [if_pos hl] at tot
          rw [tot] at h
          exact h H1 s1
end
end K95

set_option Elab.async false
set_option linter.all false
set_option maxRecDepth 100000
set_option maxHeartbeats 4000000
/-! enumerate(tuple). -/
namespace NEn
open PySem PySem.Spec PyProof.Rows L2
theorem meets_new {v : Value} {o : Obj} {St : Heap → Prop} (B : Begins v o St) :
    Meets (Builtin.«enumerate.__new__» ⟨[.type "enumerate", v], []⟩) (fun _ R s => St s.heap ∧
      R (.ok (.ret (.ref (s.heap.push o).objs.size))) { s with heap := (s.heap.push o).push { cls := .type "enumerate", data := .fields #[.none, .bool false, .ref s.heap.objs.size, rawInt 0, .none, .none] } }) :=
  .of_wp fun prog w A R s h => by
    obtain ⟨hp, gs, dr, tk, os⟩ := s
    obtain ⟨st, h⟩ := h
    have sub := sub_enumerate
    have start : ∀ {A2 : Around} {E Q : Value → Shared → Prop}, Q (.ref hp.objs.size) ⟨hp.push o, gs, dr, tk, os⟩ → wpAny (model prog w) A2 (pyIter v) Q E ⟨hp, gs, dr, tk, os⟩ := fun q => B.iter prog w _ _ ⟨hp, gs, dr, tk, os⟩ _ st q
    wp_walk using start
    refine wpAny_stack_any fun stk => wpAny_pure ?_
    split
    · rename_i c _ _ _ _ _
      cases (c == Value.type "enumerate") <;> (wp_walk using start; exact ⟨_, rfl, h⟩)
    · wp_walk using start
      exact ⟨_, rfl, h⟩
theorem begins1 {prog : Program} {w : World} {A : Around} {E : Value → Shared → Prop} {s : Shared} {v : Value} {o : Obj} {St : Heap → Prop} {Q : Value → Shared → Prop} (B : Begins v o St) (st : St s.heap)
    (h : ∀ h1, IsEnum h1 (s.heap.objs.size + 1) s.heap.objs.size 0 .none → h1.get? s.heap.objs.size = some o → (∀ b u, s.heap.get? b = some u → h1.get? b = some u) → Q (.ref (s.heap.objs.size + 1)) { s with heap := h1 }) :
    wpAny (model prog w) A (call (.type "enumerate") [v]) Q E s := by
  refine callType_new F.called_enumerate (by decide) (F.typeCall_enumerate_1 _) (F.newCall_enumerate_1 _) (fun obj => F.args_object_init_2 obj _) F.entry_enumerate_new (meets_new B) ⟨st, ?_⟩
  have sz : (s.heap.push o).objs.size = s.heap.objs.size + 1 := Heap.size_push ..
  have at_ := Heap.get?_push_size (s.heap.push o) (o := { cls := .type "enumerate", data := .fields #[.none, .bool false, .ref s.heap.objs.size, rawInt 0, .none, .none] }) rfl
  show _ ∧ _
  rw [sz] at at_ ⊢
  exact ⟨⟨_, at_, rfl⟩, h _ at_ (Heap.get?_push_of_some _ (Heap.get?_push_size _ B.free)) fun b u x => Heap.get?_push_of_some _ (Heap.get?_push_of_some _ x)⟩
/-- the tuple at a, each item in a new pair -/
def Ent (K : PySem.W.Frag) (a : Addr) : It :=
  ⟨fun i H => ∃ (xs : List V) (x : V), SqT K H a xs ∧ xs[i]? = some x, fun i H v H2 => ∃ T x, v = .ref T ∧ H T = none ∧ H2 = upd H T (.tup [.int (i : Nat), x]) ∧ ∀ xs, SqT K H a xs → xs[i]? = some x, fun i H => ∃ xs : List V, SqT K H a xs ∧ xs.length ≤ i⟩
theorem turn_ent {P : Program} {w : World} {K : PySem.W.Frag} {elts : List Expr} {kk : Nat} {tpos : Pos} (a e it : Addr) :
    Turn P w K (.Tuple elts kk tpos) (Ent K a) [e, it] e (fun i h => (∃ old, IsEnum h e it ((i : Nat) : Int) old) ∧ h.IsTupleIter it a i ∧ e ≠ it) where
  mem := List.mem_cons_self
  obj := fun i h st b hb => by
    obtain ⟨⟨old, he⟩, ⟨o, ho, hc, hd⟩, _⟩ := st
    rcases List.mem_cons.mp hb with z | z
    · subst z
      exact ⟨_, he, fun v q => nomatch q⟩
    · have z := List.mem_singleton.mp z
      subst z
      exact ⟨o, ho, fun v q => by rw [hd] at q; cases q⟩
  keep := fun i h h1 ⟨⟨old, he⟩, hi, ne⟩ k => ⟨⟨old, k e (by simp) _ he⟩, hi.at fun o q => k it (by simp) o q, ne⟩
  item := by
    intro X hP hw hK hc i pins s σ H E I hf st hg
    subst hP hw hK
    obtain ⟨⟨old, he⟩, hit, hne⟩ := st
    obtain ⟨xs, x, hq, hx⟩ := hg
    obtain ⟨its, rv, p, hz⟩ := I.tuple hq
    have hT : s.heap.IsTuple a its.toArray := p
    have nit : a ≠ it := fun z => by
      obtain ⟨o1, g1, _, d1⟩ := hit
      obtain ⟨o2, g2, _, n, d2⟩ := hT
      rw [← z, g2] at g1
      cases g1
      rw [d2] at d1
      cases d1
    have nea : e ≠ a := fun z => by
      obtain ⟨o2, g2, _, n, d2⟩ := hT
      rw [← z, he] at g2
      cases g2
      cases d2
    obtain ⟨u, hu, ru⟩ := rv.get hx
    have lt : i < its.toArray.size := by
      rw [List.size_toArray]
      exact (List.getElem?_eq_some_iff.mp hu).1
    have hel : e < s.heap.objs.size := Heap.lt_size he
    have hil : it < s.heap.objs.size := by obtain ⟨_, q, _⟩ := hit; exact Heap.lt_size q
    have D := Draws.tuple (prog := X.prog) (w := X.w) (A := X.A.in1) (I.ok.hd hc) it a nit its.toArray
    refine wpAny_pyNext_enum_itemC D he ⟨hit, hT⟩ lt hne (by simp only [List.mem_cons, List.not_mem_nil, or_false, not_or]; exact ⟨hne, nea⟩) fun x1 h1 tk px ho st1 hT1 hsz hk => ?_
    obtain rfl : u = x1 := by
      have q : its.toArray[i]? = some x1 := px
      have q2 : its.toArray[i]? = some u := by simpa using hu
      rw [q2] at q
      exact Option.some.inj q
    refine ⟨_, rfl, wpAny_letOwnedTupleGo_enum (s := { s with heap := h1, toks := tk + 1 }) ho fun h2 he2 sb => ?_⟩
    have hT2 : h2.get? s.heap.objs.size = some { cls := .type "tuple", data := .seq #[.int i tk, u] } := (sb.2 _ (Nat.ne_of_gt hel)).trans hT1
    have new : ObjOk X.prog X.w (upd H s.heap.objs.size (.tup [.int (i : Nat), x])) h2 s.heap.objs.size (.tup [.int (i : Nat), x]) :=
      ⟨by show 2 ≤ sizeLine; decide, [.int i tk, u], .cons ⟨_, rfl⟩ (.cons ru .nil), ⟨_, hT2, rfl, _, rfl⟩⟩
    have J : Inv X pins σ (upd H s.heap.objs.size (.tup [.int (i : Nat), x])) { s with heap := h2, toks := tk + 1 } :=
      I.turnedNew (ch := [e, it]) (fun b ob hb q => (sb.2 b (fun z => hb (by simp [z]))).trans (hk b ob (fun z => hb (by simp [z])) (fun z => hb (by simp [z])) q)) hf (Nat.le_refl _) new
    refine ⟨.ref s.heap.objs.size, _, J, rfl, ⟨_, x, rfl, I.hok.fresh (Nat.le_refl _), rfl, fun ys hy => by rw [I.tuple_inj hy hq]; exact hx⟩, ⟨⟨u, ?_⟩, st1.1.at fun o q => (sb.2 it (Ne.symm hne)).trans q, hne⟩, fun b hb => ?_⟩
    · have e1 : ((i + 1 : Nat) : Int) = (i : Int) + 1 := by omega
      rw [e1]
      exact he2
    · have lb : b < s.heap.objs.size := by
        rcases List.mem_cons.mp hb with z | z
        · rw [z]; exact hel
        · rw [List.mem_singleton.mp z]; exact hil
      rw [upd_ne (Nat.ne_of_lt lb)]
      exact (hf b hb).1
  done := by
    intro X hP hw hK hc i pins s σ H E I hf st hg
    subst hP hw hK
    obtain ⟨⟨old, he⟩, hit, hne⟩ := st
    obtain ⟨xs, hq, hx⟩ := hg
    obtain ⟨its, rv, p, hz⟩ := I.tuple hq
    obtain ⟨f0, f1, f2, f3, f4, f5⟩ := hf it (by simp)
    have hl := rv.length
    have hT : s.heap.IsTuple a its.toArray := p
    obtain ⟨o1, g1, c1, d1⟩ := id hit
    have nit : a ≠ it := fun z => by
      obtain ⟨o2, g2, _, n, d2⟩ := hT
      rw [← z, g2] at g1
      cases g1
      rw [d2] at d1
      cases d1
    have D := Draws.tuple (prog := X.prog) (w := X.w) (A := X.A.in1) (I.ok.hd hc) it a nit its.toArray
    have hT0 : s.TypeIs (.ref e) "enumerate" := ⟨_, he, rfl⟩
    unfold pyNext
    refine wpAny_bind (wpAny_attempt (wpAny_callSpecial?_slot (name := Str.ofString "__next__") hT0 F.slot_enumerate_next (wpAny_call_entry F.slot_enumerate_next hT0 F.entry_enumerate_next ?_ (F.args_enumerate_next_1 _))))
    show wpAny _ _ (field (.ref e) 2 >>= _) _ _ _
    refine wpAny_bind (wpAny_field he rfl (x := .ref it) rfl ?_)
    refine wpAny_bind (wpAny_nextOf_tuple_end (I.ok.hd hc) hit hT (by simp; omega) fun h1 x1 eb ⟨o, ho, hc1⟩ => ?_)
    refine wpAny_bind (wpAny_isInstance (T := "StopIteration") (b := true) ⟨o, ho, hc1⟩ isSubtype_stop ?_)
    exact wpAny_pure ⟨rfl, I.turned (t' := s.toks) (fun b o hb q => eb b o hb q) f0 f1 f3 f4 f5⟩
  self := fun A i s Q E st h => let ⟨⟨_, he⟩, _⟩ := st; wpAny_pyIter_enum he h
def iEnt (K : PySem.W.Frag) (ta : TA) : TI := fun σ H R => ta σ H fun vs H1 => ∃ a xs, vs = [.ref a] ∧ SqT K H1 a xs ∧ R (Ent K a) H1
theorem pi_ent {X : Cx} {e : Expr} {ta : TA} {p pos tpos : Pos} {elts : List Expr} {kk : Nat} (hg : Gl X "enumerate") (hm : X.mg "enumerate" = none) (ha : PA X [e] ta) (hs : starEach [e] X.env = [(false, eval e X.env)] := by rfl) :
    PI X (.Tuple elts kk tpos) (.Call (.Name "enumerate" p) [e] [] pos) (iEnt X.K ta) := by
  refine ⟨fun pins s σ H R I h => Call_ (ld_blt I hg hm boot_enumerate (PyProof.Rows.callWith_type1 (thn (ha.run pos pins s σ H _ I h) fun us s1 ⟨vs, H1, I1, r1, q1⟩ => ?_) hs rfl))⟩
  obtain ⟨a, xs, ex, hq, q⟩ := q1
  subst ex
  cases r1 with
  | cons r rr =>
    cases rr
    cases r
    obtain ⟨its, rv, pt, hz⟩ := I1.tuple hq
    refine begins1 (begins_tuple a its.toArray) pt fun h1 he hit hk => wpAny_pyIter_enum he ?_
    refine ⟨s1.heap.objs.size + 1, [s1.heap.objs.size + 1, s1.heap.objs.size], _, _, H1, rfl, I1.kept (t' := s1.toks) hk, turn_ent a (s1.heap.objs.size + 1) s1.heap.objs.size, ⟨⟨.none, he⟩, ⟨_, hit, rfl, rfl⟩, Nat.succ_ne_self _⟩, fun b hb => ?_, q⟩
    have low : s1.heap.objs.size ≤ b := by
      rcases List.mem_cons.mp hb with z | z
      · rw [z]; exact Nat.le_succ _
      · rw [List.mem_singleton.mp z]; exact Nat.le_refl _
    exact I1.fpOk low (I1.hok.fresh low)
theorem for_ent {K : PySem.W.Frag} {a : Addr} {xs : List V} {g : TG} {tb : TS} {D : Ends} {σ : L2.St} {H : Hp} (Pv : Nat → L2.St → Hp → Prop) (h0 : Pv 0 σ H) (hl : ∀ i σ H, i ≤ xs.length → Pv i σ H → SqT K H a xs)
    (hs : ∀ i x σ H T, xs[i]? = some x → Pv i σ H → H T = none → g (.ref T) σ (upd H T (.tup [.int (i : Nat), x])) fun σ2 H2 => tb { D with nx := Pv (i + 1), ct := Pv (i + 1), bk := D.nx } σ2 H2) (hd : ∀ σ H, Pv xs.length σ H → D.nx σ H) :
    ∃ W : Nat → Nat → L2.St → Hp → Prop, (∃ m, W 0 m σ H) ∧ ∀ i m σ H, W i m σ H →
      ((Ent K a).stop i H ∧ D.nx σ H) ∨ ((Ent K a).go i H ∧ ∃ N : L2.St → Hp → Prop, (∀ σ' H', N σ' H' → ∃ m', m' < m ∧ W (i + 1) m' σ' H') ∧ ∀ x H', (Ent K a).yld i H x H' → g x σ H' fun σ2 H2 => tb { D with nx := N, ct := N, bk := D.nx } σ2 H2) := by
  refine ⟨fun i m σ H => m = xs.length - i ∧ i ≤ xs.length ∧ Pv i σ H, ⟨xs.length, by simp, Nat.zero_le _, h0⟩, ?_⟩
  rintro i m σ H ⟨rfl, hi, p⟩
  have q := hl i σ H hi p
  by_cases lt : i < xs.length
  · have at_ : xs[i]? = some xs[i] := List.getElem?_eq_getElem lt
    refine .inr ⟨⟨xs, xs[i], q, at_⟩, Pv (i + 1), fun σ1 H1 p1 => ⟨xs.length - (i + 1), by omega, rfl, lt, p1⟩, fun y H1 ⟨T, x, ey, hT, eH, hx⟩ => ?_⟩
    subst ey eH
    exact hs i x σ H T (hx xs q) p hT
  · obtain rfl : i = xs.length := by omega
    exact .inl ⟨⟨xs, q, Nat.le_refl _⟩, hd σ H p⟩
theorem for_enl {K : PySem.W.Frag} {a : Addr} {xs : List V} {g : TG} {tb : TS} {D : Ends} {σ : L2.St} {H : Hp} (Pv : Nat → L2.St → Hp → Prop) (h0 : Pv 0 σ H) (hl : ∀ i σ H, i ≤ xs.length → Pv i σ H → SqL K H a xs)
    (hs : ∀ i x σ H T, xs[i]? = some x → Pv i σ H → H T = none → g (.ref T) σ (upd H T (.tup [.int (i : Nat), x])) fun σ2 H2 => tb { D with nx := Pv (i + 1), ct := Pv (i + 1), bk := D.nx } σ2 H2) (hd : ∀ σ H, Pv xs.length σ H → D.nx σ H) :
    ∃ W : Nat → Nat → L2.St → Hp → Prop, (∃ m, W 0 m σ H) ∧ ∀ i m σ H, W i m σ H →
      ((Ite K a).stop i H ∧ D.nx σ H) ∨ ((Ite K a).go i H ∧ ∃ N : L2.St → Hp → Prop, (∀ σ' H', N σ' H' → ∃ m', m' < m ∧ W (i + 1) m' σ' H') ∧ ∀ x H', (Ite K a).yld i H x H' → g x σ H' fun σ2 H2 => tb { D with nx := N, ct := N, bk := D.nx } σ2 H2) := by
  refine ⟨fun i m σ H => m = xs.length - i ∧ i ≤ xs.length ∧ Pv i σ H, ⟨xs.length, by simp, Nat.zero_le _, h0⟩, ?_⟩
  rintro i m σ H ⟨rfl, hi, p⟩
  have q := hl i σ H hi p
  by_cases lt : i < xs.length
  · have at_ : xs[i]? = some xs[i] := List.getElem?_eq_getElem lt
    refine .inr ⟨⟨xs, xs[i], q, at_⟩, Pv (i + 1), fun σ1 H1 p1 => ⟨xs.length - (i + 1), by omega, rfl, lt, p1⟩, fun y H1 ⟨T, x, ey, hT, eH, hx⟩ => ?_⟩
    subst ey eH
    exact hs i x σ H T (hx xs q) p hT
  · obtain rfl : i = xs.length := by omega
    exact .inl ⟨⟨xs, q, Nat.le_refl _⟩, hd σ H p⟩
end NEn

set_option Elab.async false
set_option linter.all false
set_option maxRecDepth 100000
set_option maxHeartbeats 8000000
namespace K95
open PySem L2 NX
abbrev sFa : Stmt := top 30
theorem scFa : FnScope ["_law_thing", "_law_at", "_law_entry", "_law_fault_here"] ["_law_thing"] (defScope sFa) := ⟨rfl, rfl, rfl, by decide +kernel, rfl, by decide +kernel, by decide +kernel⟩
def FEnds (H : Hp) (Q : VK) : (Nat × Nat) ⊕ List (List Ent) → Prop
  | .inl q => ∀ p H', Same H H' → H' p = some (.tup [.int (q.1 : Nat), .int (q.2 : Nat)]) → Q (.ref p) H'
  | .inr _ => ∀ H', Same H H' → Q .non H'
def spFa (K : PySem.W.Frag) : Sp := fun vs H Q _ => ∃ v, vs = [v] ∧ ((∃ z, v = .str z ∧ z.length ≤ 990 ∧ okS z ∧ FEnds H Q (planScan (linesOf z))) ∨ (NoStr K H v ∧ ∀ p H', Same H H' → H' p = some (.tup [.int 0, .int 0]) → Q (.ref p) H'))
theorem part_ok {z a s : Str} (h : okS z) (m : a ∈ Txt.split z s) : okS a := fun ch hc => by
  have e := StrLaws.join_split z s
  have sub : ∀ (ts : List Str), a ∈ ts → ch ∈ (Str.join s ts).cps.toList := by
    intro ts
    induction ts with
    | nil => intro m; cases m
    | cons x r ih =>
      intro m
      cases r with
      | nil =>
        rw [List.mem_singleton.mp m] at hc
        exact hc
      | cons y l =>
        show ch ∈ (x ++ s ++ Str.join s (y :: l)).cps.toList
        rw [cps_append, cps_append, List.mem_append, List.mem_append]
        rcases List.mem_cons.mp m with e | e
        · exact .inl (.inl (e ▸ hc))
        · exact .inr (ih e)
  exact h ch (by
    have q := sub _ m
    rw [e] at q
    exact q)
section
variable {P : Program} {w : World} {K : PySem.W.Frag} {mg : Str → Option Value} {base : Heap}
theorem ok_fa {f : Addr} {fd : FuncData} (F : Fun K "_law_fault" "_law_fault" sFa f fd) (T : TxtB mg) (cRF : C8.Cal P w K mg base 3 "_law_row_fault" (spRF K) []) : FnOk P w K mg base CX0 5 f fd ["_law_thing"] (spFa K) := by
  refine F.ok scFa (fun vs H Q E h => ?_) (fun cdv A outer s H vs Q E hr h => ?_)
  · obtain ⟨v, rfl, _⟩ := h
    rfl
  · obtain ⟨v, rfl, h⟩ := h
    refine ⟨_, (pss_cons (ps_if (pt_not (pt_val (pe_callB call_isi (by rfl) T.bisinstance (by decide +kernel) (pa_cons (pv 0) (pa_cons (pe_bltn (v := .ty "str") (by rfl) T.bstr (by decide +kernel) rfl) pa_nil))))) (pss_one (ps_ret (pe_tup (pa_cons pe_int (pa_cons pe_int pa_nil))))) pss_nil)
      (pss_cons (ps_for PassesOwn.never rfl (pi_enum (by rfl) T.benumerate (pa_cons (pe_split (pv 0) pe_str) pa_nil)) (pg_tup rfl (pgs_cons (pg_name (i := 1) scFa.nd rfl (Or.inl rfl)) (pgs_cons (pg_name (i := 2) scFa.nd rfl (Or.inl rfl)) pgs_nil)))
        (pss_cons (ps_set (i := 3) scFa.nd rfl (Or.inl rfl) (C8.pe_c cRF hr (by decide) rfl (pa_cons (pe_split (pv 2) pe_str) pa_nil)))
        (pss_one (ps_if (pt_cmpR op_notN (pv 3) pe_non (nomark _)) (pss_one (ps_ret (pe_tup (pa_cons (pv 1) (pa_cons (pv 3) pa_nil))))) pss_nil))))
      (pss_one (ps_ret pe_non)))), ?_⟩
    rcases h with ⟨z, rfl, hz, ho, h⟩ | ⟨⟨t, ty, k⟩, q⟩
    · have hle := PyProof.Rows.split_le z (Str.ofString "\n")
      have z1100 : (1100 : Nat) ≤ sizeLine := by decide
      refine ⟨_, rfl, _, _, _, _, true, rfl, .ty "str", .base (.str _), kit_ty (by decide +kernel), true, rfl, iteF ?_⟩
      refine ⟨_, rfl, ⟨_, rfl⟩, z, _, rfl, rfl, by decide +kernel, Nat.le_trans (Nat.add_le_add_right hz 2) (by decide), fun p hp => ?_⟩
      obtain ⟨ls, hls⟩ : ∃ ls, ls = linesOf z := ⟨_, rfl⟩
      have short : ∀ l ∈ ls, l.length ≤ 990 ∧ okS l := fun l hl => ⟨Nat.le_trans (PyProof.Rows.part_short (hls ▸ hl)) hz, part_ok ho (hls ▸ hl)⟩
      rw [← hls] at h
      rw [show Txt.split z (Str.ofString "\n") = ls from hls.symm] at hle ⊢
      have s1 : Same H (upd H p (.lst (ls.map V.str))) := Same.new hp
      refine ⟨p, _, rfl, SqL.of upd_same, ?_⟩
      have hp1 : (upd H p (.lst (ls.map V.str))) p = some (.lst (ls.map V.str)) := upd_same
      clear hp
      generalize (upd H p (.lst (ls.map V.str))) = H1 at *
      refine NEn.for_enl (xs := ls.map V.str) (fun i σ H' => Same H1 H' ∧ (∃ e0 : List (List Ent), e0.length = i ∧ planScan ls = shiftP e0 (planScan (ls.drop i))) ∧ ∃ y1 y2 y3, σ = [some (.str z), y1, y2, y3]) ⟨fun _ _ z => z, ⟨[], rfl, ?_⟩, _, _, _, rfl⟩ (fun i σ H' _ ⟨s, _⟩ => SqL.of (s _ _ hp1)) (fun i x σ H2 T hi ⟨s2, ⟨e0, hb0, tot⟩, y1, y2, y3, eσ⟩ hT => ?_) (fun σ H2 ⟨s2, ⟨e0, hb0, tot⟩, y1, y2, y3, eσ⟩ => ?_)
      · show planScan ls = shiftP [] (planScan ls)
        cases planScan ls with
        | inl q => show Sum.inl q = Sum.inl (0 + q.1, q.2); rw [Nat.zero_add]
        | inr ess => rfl
      · subst eσ
        rw [List.getElem?_map] at hi
        obtain ⟨l, he, rfl⟩ := Option.map_eq_some_iff.mp hi
        obtain ⟨hll, hol⟩ := short l (List.mem_of_getElem? he)
        have hil := (List.getElem?_eq_some_iff.mp he).1
        have hdr : ls.drop i = l :: ls.drop (i + 1) := by
          rw [List.drop_eq_getElem_cons hil]
          congr 1
          exact (List.getElem?_eq_some_iff.mp he).2
        rw [hdr] at tot
        have s3 : Same H2 (upd H2 T (.tup [.int (i : Nat), .str l])) := Same.new hT
        refine ⟨T, _, rfl, SqT.of upd_same, rfl, _, _, rfl, _, _, rfl, rfl, ?_⟩
        clear hT
        generalize (upd H2 T (.tup [.int (i : Nat), .str l])) = H3 at *
        refine ⟨_, rfl, ⟨_, rfl⟩, l, _, rfl, rfl, by decide +kernel, by omega, fun p2 hp2 => ?_⟩
        have wpos := PyProof.Rows.split_pos l (Str.ofString " ")
        have wle := PyProof.Rows.split_le l (Str.ofString " ")
        obtain ⟨ws, hws⟩ : ∃ ws, ws = wordsIn l := ⟨_, rfl⟩
        rw [show Txt.split l (Str.ofString " ") = ws from hws.symm] at wpos wle ⊢
        have wne : ws ≠ [] := fun e => by rw [e] at wpos; exact absurd wpos (by decide)
        have s4 : Same H3 (upd H3 p2 (.lst (ws.map V.str))) := Same.new hp2
        refine ⟨p2, ws, rfl, SqL.of upd_same, wne, by omega, fun w hw => ⟨Nat.le_trans (PyProof.Rows.part_short (hws ▸ hw)) (Nat.le_trans hll (by decide)), part_ok hol (hws ▸ hw)⟩, ?_⟩
        have s24 := s2.trans (s3.trans s4)
        clear hp2
        generalize (upd H3 p2 (.lst (ws.map V.str))) = H4 at *
        cases hrs : rowScan ws with
        | inl k =>
          intro H5 s5
          have e1 : planScan (l :: ls.drop (i + 1)) = .inl (0, k) := by rw [planScan.eq_2, ← hws, hrs]
          rw [tot, e1] at h
          have h : ∀ p H', Same H H' → H' p = some (.tup [.int ((e0.length + 0 : Nat) : Int), .int (k : Nat)]) → Q (.ref p) H' := h
          rw [hb0, Nat.add_zero] at h
          refine ⟨_, rfl, rfl, _, rfl, iteT ⟨_, rfl, _, rfl, by show 2 ≤ sizeLine; decide, fun q hq => h q _ ((s1.trans s24).trans (s5.trans (Same.new hq))) upd_same⟩⟩
        | inr es =>
          intro H5 s5
          refine ⟨_, rfl, rfl, _, rfl, iteF ⟨s24.trans s5, ⟨e0 ++ [es], by rw [List.length_append, hb0]; rfl, ?_⟩, _, _, _, rfl⟩⟩
          rw [tot, planScan.eq_2, ← hws, hrs]
          cases planScan (ls.drop (i + 1)) with
          | inl q =>
            show Sum.inl (e0.length + (q.1 + 1), q.2) = Sum.inl ((e0 ++ [es]).length + q.1, q.2)
            rw [List.length_append, List.length_singleton, Nat.add_assoc, Nat.add_comm q.1 1]
          | inr ess =>
            show Sum.inr (e0 ++ es :: ess) = Sum.inr (e0 ++ [es] ++ ess)
            rw [List.append_assoc]
            rfl
      · rw [List.length_map, List.drop_length] at tot
        rw [tot] at h
        exact h H2 (s1.trans s2)
    · exact ⟨_, rfl, _, _, _, _, false, rfl, .ty "str", ty, k, false, rfl, iteT ⟨by show 2 ≤ sizeLine; decide, fun p hp => q p _ (Same.new hp) upd_same⟩⟩
end
end K95

set_option Elab.async false
set_option linter.all false
set_option maxRecDepth 100000
set_option maxHeartbeats 8000000
namespace K95
open PySem L2 NX LamX
abbrev sHeard : Stmt := top 31
abbrev NHeard : List Str := ["_law_ask", "_law_caught", "_law_found", "error"]
theorem scHeard : FnScope NHeard ["_law_ask"] (defScope sHeard) := ⟨rfl, rfl, rfl, by decide +kernel, rfl, by decide +kernel, by decide +kernel⟩
/-- what the written part says of BadText -/
structure KErr (K : PySem.W.Frag) (mg : Str → Option Value) (CS CT : Addr) : Prop where
  gS : mg "StowError" = some (.ref CS)
  gT : mg "BadText" = some (.ref CT)
  e : PySem.W.exmOne K (.ref CT) (.ref CS) = some true
  ec : ExcC K CT
  x : XfC K CT
  vl : PySem.W.findIn K (.ref CT) "line" = some none
  vw : PySem.W.findIn K (.ref CT) "word" = some none
  k : PySem.W.kitOne K (.ref CT) (.ref CT) = some true
def HErr (CT : Addr) (Q : VK) : XK := fun cls d H' => ∃ (l u : V) (dd : Addr), cls = .ref CT ∧ d = some dd ∧ H' dd = some (.xd [("word", u), ("line", l)]) ∧ ∀ p H'', Same H' H'' → H' p = none → H'' p = some (.tup [l, u]) → Q (.ref p) H''
/-- what _law_heard makes of what it asks -/
def THeard (K : PySem.W.Frag) (m : M4) (CT : Addr) : (XK → Hp → VK → Prop) → Hp → VK → Prop := fun tl H Q => ∀ p0, H p0 = none → ∀ R : VK,
  (∀ r ess H1, PlanAt K m H1 r ess → (∀ H2, Same H1 H2 → Q (.str (planT ess)) H2) → R (.ref r) H1) → tl (HErr CT Q) (upd H p0 (.tup [.non, .non])) R
section
variable {X : Cx}
theorem takesLen {X : Cx} {W : WX} (h : Takes X W) : Takes X (fun cls d σ H => σ.length = X.N.length → W cls d σ H) := fun u s' ⟨a, B, sI, pins, σ, H, cls, d, e1, I, e2, e3, e4, e5, e6, e7, w⟩ => h u s' ⟨a, B, sI, pins, σ, H, cls, d, e1, I, e2, e3, e4, e5, e6, e7, w I.len⟩
theorem heard_gives {q : Str} {g CS CT : Addr} {m : M4} {cdg : Value} (hr : Room 7 X.A) (T : TxtB X.mg) (E : KErr X.K X.mg CS CT) (cShow : C8.Cal X.prog X.w X.K X.mg X.base 5 "show_plan" (spShow X.K m) []) :
    GivesTo X NHeard "_law_heard" (defScope sHeard) g cdg (defBody sHeard) "_law_ask" q (THeard X.K m CT) := by
  intro f c' s H Q tl act hc h
  have hr2 : Room 6 (X.A.deeper (PyProof.Rows.envOfC "_law_heard" (defScope sHeard) s.heap.objs.size g cdg)) := hr.deeper _
  refine ⟨_, (pss_cons (ps_asg (pe_tup (pa_cons pe_non (pa_cons pe_non pa_nil))) (pg_tup rfl (pgs_cons (pg_name (i := 1) scHeard.nd rfl (Or.inl rfl)) (pgs_cons (pg_name (i := 2) scHeard.nd rfl (Or.inl rfl)) pgs_nil))))
      (pss_cons (ps_try_keep (X := (cxOf C8.CX0 X.prog X.w X.K X.mg X.base NHeard "_law_heard" (defScope sHeard) g cdg X.A X.stack s H C8.E0).nox) (c := .ref CS) (i := 3)
      (tb := fun W D σ H => ∃ Ech : XK, (∀ cls d σ' H', Ech cls d H' → σ'.length = 4 → W cls d σ' H') ∧ σ[0]? = some (some (.ref f)) ∧ H c' = some (CodeO c' q) ∧ tl Ech H fun v H1 => gName 2 v σ H1 D.nx)
      rfl rfl scHeard.nd rfl rfl rfl ⟨rfl, by decide, .inl E.gS⟩ L2.takes0 (fun W pn xe tk _ => ?_) (fun a oe cls d pn _ _ => pss_one (ps_set (i := 1) scHeard.nd rfl (Or.inl rfl) (pv 3))))
      (pss_cons (ps_if (pt_cmpR op_isN (pv 1) pe_non (nomark _)) (pss_one (ps_ret (C8.pe_c cShow hr2 (by decide) rfl (pa_cons (pv 2) pa_nil)))) pss_nil)
      (pss_one (ps_ret (pe_ifExp (pt_val (pe_callB (CallR.or call_isKept call_isi) (by rfl) T.bisinstance (by decide +kernel) (pa_cons (pv 1) (pa_cons (C8.pe_gc (v := .ref CT) rfl ⟨_, E.gT, rfl⟩) pa_nil)))) (pe_tup (pa_cons (pe_kept (pv 1)) (pa_cons (pe_kept (pv 1)) pa_nil))) pe_str)))))), ?_⟩
  · refine ⟨fun pins s' σ H' D I h' => ?_⟩
    obtain ⟨Ech, hW, h1, h2, h3⟩ := h'
    exact (pss_one (ps_set (i := 2) scHeard.nd rfl (Or.inl rfl) (act (fun cls d σ H => σ.length = 4 → W cls d σ H) pn xe Ech _ _ (takesLen tk) hW))).run pins s' σ H' D I ⟨h1, h2, h3⟩
  · refine ⟨by show 2 ≤ sizeLine; decide, fun p0 hp0 => ?_⟩
    have s0 : Same H (upd H p0 (.tup [.non, .non])) := Same.new hp0
    have hc0 := s0 _ _ hc
    refine ⟨p0, _, rfl, SqT.of upd_same, rfl, _, _, rfl, _, _, rfl, rfl, ?_⟩
    refine ⟨HErr CT Q, fun cls d σ' H' hx hlen => ?_, rfl, hc0, h p0 hp0 _ fun r ess H1 pa k => ?_⟩
    · obtain ⟨l, u, dd, rfl, rfl, hdd, k⟩ := hx
      match σ', hlen with
      | [x0, x1, x2, x3], _ =>
      refine ⟨true, E.e, (fun h => by cases h), fun _ a ha => ?_⟩
      have hd' : upd H' a (Kept a (.ref CT) (some dd)) dd = some (.xd [("word", u), ("line", l)]) := (upd_ne (ne_of_none hdd ha)).trans hdd
      have s1 : Same H' (upd H' a (Kept a (.ref CT) (some dd))) := Same.new ha
      have hk : upd H' a (Kept a (.ref CT) (some dd)) a = some (Kept a (.ref CT) (some dd)) := upd_same
      refine ⟨_, rfl, _, rfl, rfl, _, rfl, iteF ?_⟩
      refine ⟨_, rfl, .inl ⟨a, _, dd, _, _, _, true, rfl, .own CT, hk, hd', E.ec, E.k, true, rfl, iteT ?_⟩⟩
      exact ⟨_, rfl, a, _, dd, _, _, rfl, hk, hd', E.x, E.vl, rfl, _, rfl, a, _, dd, _, _, rfl, hk, hd', E.x, E.vw, rfl, by show 2 ≤ sizeLine; decide, fun p hp => k p _ (s1.trans (Same.new hp)) (sameNone s1 hp) upd_same⟩
    · refine ⟨_, rfl, rfl, _, rfl, iteT ?_⟩
      exact ⟨_, rfl, r, ess, rfl, pa, k⟩
end
end K95

set_option Elab.async false
set_option linter.all false
set_option maxRecDepth 100000
set_option maxHeartbeats 4000000
/-! z[::-1], z a text. -/
namespace NRV
open PySem PySem.Spec PyProof.Rows L2
/-- the same signs, as many -/
def SameS (z z2 : Str) : Prop := (∀ ch ∈ z2.cps.toList, ch ∈ z.cps.toList) ∧ z2.length = z.length
def tRevS (te : TE) : TE := fun σ H Q => te σ H fun x H1 => ∃ z, x = .str z ∧ z.length ≤ sizeLine ∧ ∀ z2, SameS z z2 → Q (.str z2) H1
theorem picked (z : Str) : SameS z ⟨((Builtin.Str.strSliceIndices none none (-1) z.length).filterMap (z.cps[·]?)).toArray⟩ := by
  have lt : ∀ i ∈ (List.range z.length).map (fun k => z.length - 1 - k), i < z.cps.size := fun i hi => by
    obtain ⟨k, hk, rfl⟩ := List.mem_map.mp hi
    have := List.mem_range.mp hk
    show z.length - 1 - k < z.length
    omega
  have e : (Builtin.Str.strSliceIndices none none (-1) z.length).filterMap (z.cps[·]?) = ((List.range z.length).map (fun k => z.length - 1 - k)).map (z.cps.getD · 0) := by
    rw [picked_rev, filterMap_get _ _ lt]
  rw [e]
  refine ⟨fun ch hc => ?_, ?_⟩
  · have hc : ch ∈ ((List.range z.length).map (fun k => z.length - 1 - k)).map (z.cps.getD · 0) := hc
    obtain ⟨i, hi, rfl⟩ := List.mem_map.mp hc
    have q := lt i hi
    have : z.cps.getD i 0 = z.cps[i] := by simp [Array.getD, q]
    rw [this]
    exact Array.mem_toList_iff.mpr (Array.getElem_mem q)
  · show (((List.range z.length).map (fun k => z.length - 1 - k)).map (z.cps.getD · 0)).toArray.size = z.length
    rw [List.size_toArray, List.length_map, List.length_map, List.length_range]
section
variable {X : Cx}
theorem pe_revS {e : Expr} {te : TE} {k : Nat} {p1 p2 p3 pos : Pos} (he : PE X e te) : PE X (.Subscript e (.Slice none none (some (.UnaryOp .USub (.Constant (.int 1) k p1) p2)) p3) pos) (tRevS te) := by
  refine ⟨fun pins s σ H Q I h => Subscript_ (thn (he.run pins s σ H _ I h) fun v s1 ⟨x, H1, I1, r1, z, ex, hz, q⟩ => ?_)⟩
  subst ex
  obtain ⟨t, rfl⟩ := r1
  have step : PO X (some (.UnaryOp .USub (.Constant (.int 1) k p1) p2)) (tPart (tUn (rU fun i => .int (-i)) (tC (.int 1)))) := po_some (pe_un un_neg pe_int)
  refine wpAny_Slice (thn (po_none.run pins s1 σ H1 (fun o G => o = none ∧ G = H1) I1 ⟨rfl, rfl⟩) fun vl s2 ⟨l, G2, I2, pl, el, e2⟩ => ?_)
  subst el e2
  refine thn (po_none.run pins s2 σ G2 (fun o G => o = none ∧ G = G2) I2 ⟨rfl, rfl⟩) fun vu s3 ⟨u, G3, I3, pu, eu, e3⟩ => ?_
  subst eu e3
  refine thn (step.run pins s3 σ G3 (fun o G => o = some (-1) ∧ G = G3) I3 ⟨1, rfl, -1, rfl, rfl, rfl⟩) fun vs s4 ⟨o, G4, I4, ps, eo, e4⟩ => ?_
  subst eo e4
  have I5 : Inv X pins σ G4 { s4 with heap := s4.heap.push { cls := .type "slice", data := .fields #[vl, vu, vs] } } := I4.kept (t' := s4.toks) fun b ob q => Heap.get?_push_of_some _ q
  show wpAny (model X.prog X.w) X.A (subscriptTail e (.Slice none none (some (.UnaryOp .USub (.Constant (.int 1) k p1) p2)) p3) (.str z t) (.ref s4.heap.objs.size)) (EP X pins σ Q) X.xe { s4 with heap := s4.heap.push { cls := .type "slice", data := .fields #[vl, vu, vs] } }
  refine tail_any (ops := [.str z t, .ref s4.heap.objs.size]) (typeIs_str _ _ _) (PySem.F.slot_str_getitem.lookup) ?_ (by with_unfolding_all rfl)
  obtain ⟨l1, rfl, el⟩ := L2.IsPart.raw pl
  obtain ⟨u1, rfl, eu⟩ := L2.IsPart.raw pu
  obtain ⟨o1, rfl, eo⟩ := L2.IsPart.raw ps
  refine wpAny_getItem_str_slice (l := l1) (u := u1) (st := o1) ⟨_, Heap.get?_push_size _ rfl, rfl, rfl⟩ ?_ ?_
  · rw [eo]
    rfl
  · have sm := picked z
    unfold sliceMade slicePicked
    rw [el, eu, eo]
    rw [if_neg (by show ¬ (((-1 : Int) == 1 && _) = true); simp)]
    exact ⟨by show Str.length _ ≤ sizeLine; exact Nat.le_trans (Nat.le_of_eq sm.2) hz, .str _, _, I5.tok _, ⟨_, rfl⟩, q _ sm⟩
end
end NRV

set_option Elab.async false
set_option linter.all false
set_option maxRecDepth 100000
set_option maxHeartbeats 8000000
namespace K95
open PySem L2 NX
/-- the signs of some texts and one more for each -/
def Ns (ts : List Str) : Nat := (ts.map (·.length)).sum + ts.length
theorem ns_nil : Ns [] = 0 := rfl
theorem ns_cons (a : Str) (r : List Str) : Ns (a :: r) = a.length + 1 + Ns r := by
  unfold Ns
  simp only [List.map_cons, List.sum_cons, List.length_cons]
  omega
theorem ns_app : ∀ (a b : List Str), Ns (a ++ b) = Ns a + Ns b
  | [], b => by rw [List.nil_append, ns_nil, Nat.zero_add]
  | x :: r, b => by rw [List.cons_append, ns_cons, ns_cons, ns_app r b]; omega
theorem ns_join {s : Str} (h1 : s.length = 1) : ∀ {ts : List Str}, ts ≠ [] → (Str.join s ts).length + 1 = Ns ts
  | [], h => absurd rfl h
  | [a], _ => by rw [ns_cons, ns_nil]; rfl
  | a :: b :: r, _ => by
    have ih := ns_join h1 (ts := b :: r) (by simp)
    rw [ns_cons, ← ih]
    show (a ++ s ++ Str.join s (b :: r)).length + 1 = _
    rw [Str.length_append, Str.length_append, h1]
    omega
theorem join_len {s : Str} (h1 : s.length = 1) (ts : List Str) : (Str.join s ts).length ≤ Ns ts := by
  cases ts with
  | nil => exact Nat.le_of_eq (by show (Str.empty : Str).length = 0; decide +kernel)
  | cons a r => have := ns_join h1 (ts := a :: r) (by simp); omega
theorem ns_split {z s : Str} (h1 : s.length = 1) : Ns (Txt.split z s) = z.length + 1 := by
  have pos := PyProof.Rows.split_pos z s
  rw [← ns_join h1 (fun e => by rw [e] at pos; exact absurd pos (by decide)), StrLaws.join_split]
theorem ns_cut {ts : List Str} {i : Nat} {w : Str} (h : ts[i]? = some w) : Ns (ts.take i) + (w.length + 1) + Ns (ts.drop (i + 1)) = Ns ts := by
  have hi := (List.getElem?_eq_some_iff.mp h).1
  have e : ts.take i ++ w :: ts.drop (i + 1) = ts := by
    have q := (List.getElem?_eq_some_iff.mp h).2
    rw [← q, ← List.drop_eq_getElem_cons hi, List.take_append_drop]
  rw [← congrArg Ns e, ns_app, ns_cons]
  omega
theorem ns_take (ts : List Str) (i : Nat) : Ns (ts.take i) + Ns (ts.drop i) = Ns ts := by rw [← ns_app, List.take_append_drop]
theorem ns_set {ts : List Str} {i : Nat} {w x : Str} (h : ts[i]? = some w) : Ns (ts.set i x) + w.length = Ns ts + x.length := by
  have hi := (List.getElem?_eq_some_iff.mp h).1
  rw [List.set_eq_take_append_cons_drop, if_pos hi, ns_app, ns_cons, ← ns_cut h]
  omega
theorem join_ok {s : Str} (hs : okS s) : ∀ {ts : List Str}, (∀ t ∈ ts, okS t) → okS (Str.join s ts)
  | [], _ => fun ch hc => by
    have e : (Str.join s []).cps.toList = [] := by show (Str.empty : Str).cps.toList = []; decide +kernel
    rw [e] at hc
    cases hc
  | [a], h => h a (by simp)
  | a :: b :: r, h => fun ch hc => by
    have hc : ch ∈ (a ++ s ++ Str.join s (b :: r)).cps.toList := hc
    rw [cps_append, cps_append, List.mem_append, List.mem_append] at hc
    rcases hc with (q | q) | q
    · exact h a (by simp) ch q
    · exact hs ch q
    · exact join_ok hs (fun t ht => h t (List.mem_cons_of_mem _ ht)) ch q
end K95

set_option Elab.async false
set_option linter.all false
set_option maxRecDepth 100000
set_option maxHeartbeats 8000000
namespace K95
open PySem L2 NX
abbrev sBe : Stmt := top 28
theorem scBe : FnScope ["_law_pen_here", "_law_wording", "_law_odd", "_law_lines", "_law_way", "_law_at", "_law_words", "_law_spot", "_law_other", "_law_held", "_law_word", "_law_more", "_law_sign", "_law_cut"] ["_law_pen_here", "_law_wording", "_law_odd"] (defScope sBe) := ⟨rfl, rfl, rfl, by decide +kernel, rfl, by decide +kernel, by decide +kernel⟩
def spBe (K : PySem.W.Frag) : Sp := fun vs H Q _ => ∃ (p c : Addr) (ns : List Int) (r s n : Int) (z : Str) (o : Addr) (os : List Str), vs = [.ref p, .str z, .ref o] ∧ Pen H p c ns r s n ∧ n ≤ 900000 ∧ SqL K H o (os.map V.str) ∧ o ≠ p ∧ o ≠ c ∧ 0 < os.length ∧ os.length < 100 ∧ (∀ w ∈ os, w.length ≤ 10 ∧ okS w) ∧ z.length ≤ 400 ∧ okS z ∧
  ∀ z2 H', okS z2 → z2.length ≤ 2 * z.length + 20 → Drawn H p c (n + 10) H' → Q (.str z2) H'
theorem cut_toS (ts : List Str) (i : Nat) : cutV (ts.map V.str) none (some (i : Int)) = (ts.take i).map V.str := by
  unfold cutV
  rw [HT.sIx_nat, HT.sIx_none, List.drop_zero, Nat.sub_zero, List.map_take, ← List.take_eq_take_min]
theorem cut_fromS (ts : List Str) (i : Nat) : cutV (ts.map V.str) (some (i : Int)) none = (ts.drop i).map V.str := by
  unfold cutV
  rw [HT.sIx_nat, HT.sIx_none, List.map_drop]
  rw [List.take_of_length_le (by rw [List.length_drop]; exact Nat.le_refl _)]
  rcases Nat.le_total i (ts.map V.str).length with h | h
  · rw [Nat.min_eq_left h]
  · rw [Nat.min_eq_right h, List.drop_of_length_le (Nat.le_refl _), List.drop_of_length_le h]
theorem ixS {n j : Nat} (hj : j < n) : ixN n (j : Int) = some j := by
  unfold ixN
  rw [if_pos (by omega), if_pos (by omega)]
  simp
theorem atS {ts : List Str} {i : Nat} {t : Str} (h : ts[i]? = some t) : atI (ts.map V.str) (i : Int) = some (.str t) := by
  unfold atI
  rw [ixS (by rw [List.length_map]; exact (List.getElem?_eq_some_iff.mp h).1)]
  show (ts.map V.str)[i]? = some (.str t)
  rw [List.getElem?_map, h]
  rfl
theorem ns_sum {s : Str} (h : s.length = 1) (ts : List Str) : (ts.map (·.length)).sum + ts.length * s.length = Ns ts := by rw [h, Nat.mul_one]; rfl
theorem cutS_le (z : Str) (lo hi : Option Int) : (cutS z lo hi).length ≤ z.length := by
  show (((z.cps.toList.drop _).take _).toArray).size ≤ z.cps.size
  rw [List.size_toArray, List.length_take, List.length_drop]
  have : z.cps.toList.length = z.cps.size := Array.length_toList
  omega
theorem cutS_ok {z : Str} (h : okS z) (lo hi : Option Int) : okS (cutS z lo hi) := fun ch hc => h ch (List.mem_of_mem_drop (List.mem_of_mem_take (show ch ∈ (z.cps.toList.drop _).take _ from hc)))
theorem app_ok {a b : Str} (ha : okS a) (hb : okS b) : okS (a ++ b) := fun ch hc => by
  rw [cps_append, List.mem_append] at hc
  exact hc.elim (ha ch) (hb ch)
theorem sameS_ok {a b : Str} (h : NRV.SameS a b) (ha : okS a) : okS b := fun ch hc => ha ch (h.1 ch hc)
section
variable {P : Program} {w : World} {K : PySem.W.Frag} {mg : Str → Option Value} {base : Heap}
theorem ok_be {f : Addr} {fd : FuncData} (F : Fun K "_law_bent" "_law_bent" sBe f fd) (T : TxtB mg) (cDraw : C8.Cal P w K mg base 1 "_law_draw" spDraw []) (cPick : C8.Cal P w K mg base 2 "_law_pick" (spPick K) []) :
    FnOk P w K mg base CX0 3 f fd ["_law_pen_here", "_law_wording", "_law_odd"] (spBe K) := by
  refine F.ok scBe (fun vs H Q E h => ?_) (fun cdv A outer s H vs Q E hr h => ?_)
  · obtain ⟨p, c, ns, r, s, n, z, o, os, rfl, _⟩ := h
    rfl
  · obtain ⟨p, c, ns, r, sd, n, z, o, os, rfl, Pn, hn, hS, op, oc, o1, o2, hos, hz, hk, k⟩ := h
    refine ⟨_, (pss_cons (ps_par (i := 3) (j := 4) rfl scBe.nd rfl rfl (by decide) rfl rfl (pa_cons (pe_split (pv 1) pe_str) (pa_cons (C8.pe_c cDraw hr (by decide) rfl (pa_cons (pv 0) (pa_cons pe_int pa_nil))) pa_nil)) (by rfl))
      (pss_cons (ps_set (i := 5) scBe.nd rfl (Or.inl rfl) (C8.pe_c cDraw hr (by decide) rfl (pa_cons (pv 0) (pa_cons (pe_callB call_len_seq (by rfl) T.blen (by decide +kernel) (pa_cons (pv 3) pa_nil)) pa_nil))))
      (pss_cons (ps_set (i := 6) scBe.nd rfl (Or.inl rfl) (pe_split (pe_ix ix_list (pv 3) (pv 5) (fun _ _ => rfl)) pe_str))
      (pss_cons (ps_set (i := 7) scBe.nd rfl (Or.inl rfl) (C8.pe_c cDraw hr (by decide) rfl (pa_cons (pv 0) (pa_cons (pe_callB call_len_seq (by rfl) T.blen (by decide +kernel) (pa_cons (pv 6) pa_nil)) pa_nil))))
      (pss_cons (ps_if (pt_cmpR op_eq (pv 4) pe_int (nomark _)) (pss_one (ps_ret (pe_join pe_str (pe_op op_cat (pe_slice sl_list (pv 3) po_none (po_some (pv 5))) (pe_slice sl_list (pv 3) (po_some (pe_op op_add (pv 5) pe_int)) po_none))))) pss_nil)
      (pss_cons (ps_if (pt_cmpR op_eq (pv 4) pe_int (nomark _)) (pss_one (ps_ret (pe_join pe_str (pe_op op_cat (pe_slice sl_list (pv 3) po_none (po_some (pe_op op_add (pv 5) pe_int))) (pe_slice sl_list (pv 3) (po_some (pv 5)) po_none))))) pss_nil)
      (pss_cons (ps_if (pt_cmpR op_eq (pv 4) pe_int (nomark _)) (pss_cons (ps_set (i := 8) scBe.nd rfl (Or.inl rfl) (C8.pe_c cDraw hr (by decide) rfl (pa_cons (pv 0) (pa_cons (pe_callB call_len_seq (by rfl) T.blen (by decide +kernel) (pa_cons (pv 3) pa_nil)) pa_nil))))
      (pss_cons (ps_set (i := 9) scBe.nd rfl (Or.inl rfl) (pe_ix ix_list (pv 3) (pv 5) (fun _ _ => rfl)))
      (pss_cons (ps_asg (pe_ix ix_list (pv 3) (pv 8) (fun _ _ => rfl)) (pg_sub (pv 3) (pv 5) set_list))
      (pss_cons (ps_asg (pv 9) (pg_sub (pv 3) (pv 8) set_list))
      (pss_one (ps_ret (pe_join pe_str (pv 3)))))))) pss_nil)
      (pss_cons (ps_if (pt_cmpR op_lt (pv 4) pe_int (nomark _)) (pss_cons (ps_set (i := 10) scBe.nd rfl (Or.inl rfl) (C8.pe_c cPick hr (by decide) rfl (pa_cons (pv 0) (pa_cons (pv 2) pa_nil))))
      (pss_cons (ps_set (i := 11) scBe.nd rfl (Or.inl rfl) (pe_ix ix_list (pe_lst (pa_cons (pe_lst pa_nil) (pa_cons (pe_lst (pa_cons (pv 10) pa_nil)) (pa_cons (pe_lst (pa_cons (pv 10) (pa_cons (pe_ix ix_list (pv 6) (pv 7) (fun _ _ => rfl)) pa_nil))) (pa_cons (pe_lst (pa_cons (pe_ix ix_list (pv 6) (pv 7) (fun _ _ => rfl)) (pa_cons (pe_ix ix_list (pv 6) (pv 7) (fun _ _ => rfl)) pa_nil))) (pa_cons (pe_lst (pa_cons (NRV.pe_revS (pe_ix ix_list (pv 6) (pv 7) (fun _ _ => rfl))) pa_nil)) pa_nil)))))) (pe_op op_sub (pv 4) pe_int) (fun _ _ => rfl)))
      (pss_cons (ps_set (i := 6) scBe.nd rfl (Or.inl rfl) (pe_op op_cat (pe_op op_cat (pe_slice sl_list (pv 6) po_none (po_some (pv 7))) (pv 11)) (pe_slice sl_list (pv 6) (po_some (pe_op op_add (pv 7) pe_int)) po_none)))
      (pss_one (ps_ret (pe_join pe_str (pe_op op_cat (pe_op op_cat (pe_slice sl_list (pv 3) po_none (po_some (pv 5))) (pe_lst (pa_cons (pe_join pe_str (pv 6)) pa_nil))) (pe_slice sl_list (pv 3) (po_some (pe_op op_add (pv 5) pe_int)) po_none)))))))) pss_nil)
      (pss_cons (ps_set (i := 12) scBe.nd rfl (Or.inl rfl) (C8.pe_c cPick hr (by decide) rfl (pa_cons (pv 0) (pa_cons (pe_lst (pa_cons pe_str (pa_cons pe_str (pa_cons pe_str (pa_cons pe_str (pa_cons pe_str (pa_cons pe_str (pa_cons pe_str pa_nil)))))))) pa_nil))))
      (pss_cons (ps_set (i := 13) scBe.nd rfl (Or.inl rfl) (C8.pe_c cDraw hr (by decide) rfl (pa_cons (pv 0) (pa_cons (pe_op op_add (pe_callB call_len_str (by rfl) T.blen (by decide +kernel) (pa_cons (pv 1) pa_nil)) pe_int) pa_nil))))
      (pss_one (ps_ret (pe_op op_add_str (pe_op op_add_str (pe_slice sl_str (pv 1) po_none (po_some (pv 13))) (pv 12)) (pe_slice sl_str (pv 1) (po_some (pe_op op_sub (pe_op op_add (pv 13) pe_int) (pv 4))) po_none)))))))))))))), ?_⟩
    have h402 : (402 : Nat) ≤ sizeLine := by decide
    refine ⟨_, rfl, ⟨_, rfl⟩, _, _, rfl, rfl, by decide +kernel, Nat.le_trans (by omega) h402, fun D hD => ?_⟩
    have pos := PyProof.Rows.split_pos z (Str.ofString "\n")
    have l1 : (Str.ofString "\n").length = 1 := by decide +kernel
    have hN := ns_split (z := z) l1
    have hokp : ∀ t ∈ Txt.split z (Str.ofString "\n"), okS t := fun t ht => part_ok hk ht
    generalize Txt.split z (Str.ofString "\n") = zs at *
    have nDp : D ≠ p := fun e => by rw [e, Pn.hp] at hD; cases hD
    refine ⟨_, rfl, p, c, ns, r, sd, n, 10, rfl, Pn.same (Same.new hD), by omega, by decide, by decide, fun d H1 d0 d1 hD1 => ?_⟩
    have nDc : D ≠ c := fun e => by rw [e, Pn.hc] at hD; cases hD
    obtain ⟨ns1, r1, s1, n1, P1, m1, B1⟩ := hD1
    have gD : H1 D = some (.lst (zs.map V.str)) := B1 _ _ upd_same nDp nDc
    have B1 : But p c H H1 := (But.same (Same.new hD)).trans B1
    have : zs.length ≤ Ns zs := by unfold Ns; omega
    have zl : zs.length ≤ 401 := by omega
    refine ⟨_, _, rfl, ?_⟩
    refine ⟨_, rfl, _, rfl, D, _, rfl, .inl (SqL.of gD), p, c, ns1, r1, s1, n1, _, rfl, P1, by omega, by rw [List.length_map]; omega, by rw [List.length_map]; omega, fun i H2 i0 i1 hD2 => ?_⟩
    rw [List.length_map] at i1
    obtain ⟨ns2, r2, s2, n2, P2, m2, B2⟩ := hD2
    have gD2 := B2 _ _ gD nDp nDc
    have B2 : But p c H H2 := B1.trans B2
    obtain ⟨i, rfl⟩ := Int.eq_ofNat_of_zero_le i0
    have hi : i < zs.length := by omega
    obtain ⟨ln, hln⟩ : ∃ ln, zs[i]? = some ln := ⟨_, List.getElem?_eq_getElem hi⟩
    have cut := ns_cut hln
    have lnl : ln.length ≤ 400 := by omega
    refine ⟨_, rfl, _, rfl, D, _, _, _, rfl, rfl, SqL.of gD2, atS hln, ⟨_, rfl⟩, _, _, rfl, rfl, by decide +kernel, Nat.le_trans (by omega) h402, fun W hW => ?_⟩
    have posw := PyProof.Rows.split_pos ln (Str.ofString " ")
    have l2 : (Str.ofString " ").length = 1 := by decide +kernel
    have hM := ns_split (z := ln) l2
    have hokw : ∀ t ∈ Txt.split ln (Str.ofString " "), okS t := fun t ht => part_ok (hokp _ (List.mem_of_getElem? hln)) ht
    generalize Txt.split ln (Str.ofString " ") = ws at *
    have nWp : W ≠ p := fun e => by rw [e, P2.hp] at hW; cases hW
    have nWc : W ≠ c := fun e => by rw [e, P2.hc] at hW; cases hW
    have wl : ws.length ≤ Ns ws := by unfold Ns; omega
    refine ⟨_, rfl, _, rfl, W, _, rfl, .inl (SqL.of upd_same), p, c, ns2, r2, s2, n2, _, rfl, P2.same (Same.new hW), by omega, by rw [List.length_map]; omega, by rw [List.length_map]; omega, fun j H3 j0 j1 hD3 => ?_⟩
    rw [List.length_map] at j1
    obtain ⟨ns3, r3, s3, n3, P3, m3, B3⟩ := hD3
    have gW := B3 _ _ upd_same nWp nWc
    have gD3 := B3 _ _ ((Same.new hW) _ _ gD2) nDp nDc
    have B3 : But p c H H3 := (B2.trans (But.same (Same.new hW))).trans B3
    obtain ⟨j, rfl⟩ := Int.eq_ofNat_of_zero_le j0
    have hj : j < ws.length := by omega
    obtain ⟨wj, hwj⟩ : ∃ wj, ws[j]? = some wj := ⟨_, List.getElem?_eq_getElem hj⟩
    have cutw := ns_cut hwj
    have okN : okS (Str.ofString "\n") := fun ch hc => by
      have e : (Str.ofString "\n").cps.toList = [10] := by decide +kernel
      rw [e, List.mem_singleton] at hc
      rw [hc]; decide
    have okB : okS (Str.ofString " ") := fun ch hc => by
      have e : (Str.ofString " ").cps.toList = [32] := by decide +kernel
      rw [e, List.mem_singleton] at hc
      rw [hc]; decide
    have fin : ∀ (ts : List Str) (G : Hp), (∀ t ∈ ts, okS t) → Ns ts ≤ 2 * z.length + 20 → Drawn H p c (n + 10) G → Q (.str (Txt.join (Str.ofString "\n") ts)) G := fun ts G h1 h2 h3 => by
      rw [TL.join_eq]
      exact k _ _ (join_ok okN h1) (Nat.le_trans (join_len l1 ts) h2) h3
    have big : ∀ {a : Nat}, a ≤ 2 * z.length + 20 → a ≤ sizeLine := fun h => Nat.le_trans (by omega) (show 1000 ≤ sizeLine by decide)
    have big2 : ∀ {a : Nat}, a ≤ 2 * z.length + 20 → a ≤ 16777216 := fun h => by omega
    have dr3 : ∀ {G : Hp}, Same H3 G → Drawn H p c (n + 10) G := fun h => ⟨ns3, r3, s3, n3, P3.same h, by omega, B3.trans (But.same h)⟩
    have tk : ∀ (m : Nat) t, t ∈ zs.take m → okS t := fun m t ht => hokp t (List.mem_of_mem_take ht)
    have dp : ∀ (m : Nat) t, t ∈ zs.drop m → okS t := fun m t ht => hokp t (List.mem_of_mem_drop ht)
    have nt := ns_take zs
    have ln0 : ∀ ts : List Str, ts.length ≤ Ns ts := fun ts => by unfold Ns; omega
    refine ⟨_, rfl, rfl, _, rfl, ite2 (fun h0 => ?_) (fun h0 => ?_)⟩
    · refine ⟨⟨_, rfl⟩, _, rfl, _, rfl, _, rfl, D, _, rfl, SqL.of gD3, fun a ha => ⟨_, rfl, _, rfl, _, _, rfl, rfl, _, rfl, D, _, rfl, SqL.of ((Same.new ha) _ _ gD3), fun b hb => ?_⟩⟩
      rw [cut_toS, ← Int.ofNat_one, ← Int.natCast_add, cut_fromS] at *
      refine ⟨a, b, _, _, rfl, rfl, (upd_ne (ne_of_none upd_same hb)).trans upd_same, upd_same, ?_, fun e he => ⟨_, _, _, rfl, rfl, .inl (SqL.of (upd_same.trans (by rw [← List.map_append]))), ?_, fin _ _ ?_ ?_ (dr3 (((Same.new ha).trans (Same.new hb)).trans (Same.new he)))⟩⟩
      · simp only [List.length_map]
        have := ln0 (zs.take i)
        have := ln0 (zs.drop (i + 1))
        exact big (by omega)
      · rw [ns_sum l1, ns_app]
        exact big2 (by omega)
      · exact fun t ht => (List.mem_append.mp ht).elim (tk i t) (dp (i + 1) t)
      · rw [ns_app]
        omega
    refine ⟨_, rfl, rfl, _, rfl, ite2 (fun h1 => ?_) (fun h1 => ?_)⟩
    · refine ⟨⟨_, rfl⟩, _, rfl, _, rfl, _, _, rfl, rfl, _, rfl, D, _, rfl, SqL.of gD3, fun a ha => ⟨_, rfl, _, rfl, _, rfl, D, _, rfl, SqL.of ((Same.new ha) _ _ gD3), fun b hb => ?_⟩⟩
      rw [cut_fromS, ← Int.ofNat_one, ← Int.natCast_add, cut_toS] at *
      have n1 := nt i
      have n2 := nt (i + 1)
      refine ⟨a, b, _, _, rfl, rfl, (upd_ne (ne_of_none upd_same hb)).trans upd_same, upd_same, ?_, fun e he => ⟨_, _, _, rfl, rfl, .inl (SqL.of (upd_same.trans (by rw [← List.map_append]))), ?_, fin _ _ ?_ ?_ (dr3 (((Same.new ha).trans (Same.new hb)).trans (Same.new he)))⟩⟩
      · simp only [List.length_map]
        have := ln0 (zs.take (i + 1))
        have := ln0 (zs.drop i)
        exact big (by omega)
      · rw [ns_sum l1, ns_app]
        exact big2 (by omega)
      · exact fun t ht => (List.mem_append.mp ht).elim (tk (i + 1) t) (dp i t)
      · rw [ns_app]
        omega
    refine ⟨_, rfl, rfl, _, rfl, ite2 (fun h2 => ?_) (fun h2 => ?_)⟩
    · refine ⟨_, rfl, _, rfl, D, _, rfl, .inl (SqL.of gD3), p, c, ns3, r3, s3, n3, _, rfl, P3, by omega, by rw [List.length_map]; omega, by rw [List.length_map]; omega, fun m H4 m0 m1 hD4 => ?_⟩
      rw [List.length_map] at m1
      obtain ⟨ns4, r4, s4, n4, P4, m4, B4⟩ := hD4
      have gD4 := B4 _ _ gD3 nDp nDc
      have B4 : But p c H H4 := B3.trans B4
      obtain ⟨m, rfl⟩ := Int.eq_ofNat_of_zero_le m0
      have hm : m < zs.length := by omega
      obtain ⟨lm, hlm⟩ : ∃ lm, zs[m]? = some lm := ⟨_, List.getElem?_eq_getElem hm⟩
      have cutm := ns_cut hlm
      have hs1 := ns_set (x := lm) hln
      have hm2 : m < (zs.set i lm).length := by rw [List.length_set]; exact hm
      obtain ⟨y, hy⟩ : ∃ y, (zs.set i lm)[m]? = some y := ⟨_, List.getElem?_eq_getElem hm2⟩
      have hs2 := ns_set (x := ln) hy
      refine ⟨_, rfl, _, rfl, D, _, _, _, rfl, rfl, SqL.of gD4, atS hln, ?_⟩
      refine ⟨_, rfl, _, rfl, D, _, _, _, rfl, rfl, SqL.of gD4, atS hlm, ?_⟩
      refine ⟨_, rfl, _, rfl, D, _, _, i, rfl, rfl, gD4, ixS (by rw [List.length_map]; exact hi), ?_⟩
      rw [← List.map_set]
      refine ⟨_, rfl, _, rfl, _, rfl, D, _, _, m, rfl, rfl, upd_same, ixS (by rw [List.length_map]; exact hm2), ?_⟩
      rw [← List.map_set]
      refine ⟨⟨_, rfl⟩, _, rfl, _, _, _, rfl, rfl, .inl (SqL.of upd_same), ?_, fin _ _ ?_ ?_ ⟨ns4, r4, s4, n4, ?_, by omega, ?_⟩⟩
      · rw [ns_sum l1]
        exact big2 (by omega)
      · intro t ht
        rcases List.mem_or_eq_of_mem_set ht with ht | rfl
        · rcases List.mem_or_eq_of_mem_set ht with ht | rfl
          · exact hokp t ht
          · exact hokp _ (List.mem_of_getElem? hlm)
        · exact hokp _ (List.mem_of_getElem? hln)
      · omega
      · exact ⟨(upd_ne (Ne.symm nDp)).trans ((upd_ne (Ne.symm nDp)).trans P4.hp), (upd_ne (Ne.symm nDc)).trans ((upd_ne (Ne.symm nDc)).trans P4.hc), P4.lr, P4.ls, P4.lt, P4.ln⟩
      · intro b o' hb n' m'
        have nb : b ≠ D := fun e => by rw [e, hD] at hb; cases hb
        exact (upd_ne nb).trans ((upd_ne nb).trans (B4 b o' hb n' m'))
    refine ⟨_, rfl, _, _, rfl, rfl, _, rfl, ite2 (fun h3 => ?_) (fun h3 => ?_)⟩
    · refine ⟨_, rfl, _, rfl, p, c, ns3, r3, s3, n3, o, _, rfl, P3, by omega, B3.seq op oc hS, op, oc, by rw [List.length_map]; exact o1, by rw [List.length_map]; omega, fun v H4 hv hD4 => ?_⟩
      obtain ⟨wo, hwo, rfl⟩ := List.mem_map.mp hv
      obtain ⟨wol, wok⟩ := hos wo hwo
      obtain ⟨ns4, r4, s4, n4, P4, m4, B4⟩ := hD4
      have gD4 := B4 _ _ gD3 nDp nDc
      have gW4 := B4 _ _ gW nWp nWc
      have B4 : But p c H H4 := B3.trans B4
      have wjl : wj.length ≤ sizeLine := Nat.le_trans (by omega) h402
      refine ⟨by show 0 ≤ sizeLine; decide, fun a0 ha0 => ?_⟩
      have e0 := Same.new (o := .lst []) ha0
      refine ⟨_, rfl, by show 1 ≤ sizeLine; decide, fun a1 ha1 => ?_⟩
      have e1 := e0.trans (Same.new (o := .lst [.str wo]) ha1)
      refine ⟨_, rfl, _, rfl, _, rfl, W, _, _, _, rfl, rfl, SqL.of (e1 _ _ gW4), atS hwj, by show 2 ≤ sizeLine; decide, fun a2 ha2 => ?_⟩
      have e2 := e1.trans (Same.new (o := .lst [.str wo, .str wj]) ha2)
      refine ⟨_, rfl, _, rfl, W, _, _, _, rfl, rfl, SqL.of (e2 _ _ gW4), atS hwj, _, rfl, _, rfl, W, _, _, _, rfl, rfl, SqL.of (e2 _ _ gW4), atS hwj, by show 2 ≤ sizeLine; decide, fun a3 ha3 => ?_⟩
      have e3 := e2.trans (Same.new (o := .lst [.str wj, .str wj]) ha3)
      refine ⟨_, rfl, _, rfl, W, _, _, _, rfl, rfl, SqL.of (e3 _ _ gW4), atS hwj, _, rfl, wjl, fun rv hrv => ⟨by show 1 ≤ sizeLine; decide, fun a4 ha4 => ?_⟩⟩
      have e4 := e3.trans (Same.new (o := .lst [.str rv]) ha4)
      refine ⟨by show 5 ≤ sizeLine; decide, fun a5 ha5 => ?_⟩
      have e5 := e4.trans (Same.new (o := .lst [.ref a0, .ref a1, .ref a2, .ref a3, .ref a4]) ha5)
      have f0 := ((((Same.new (o := .lst [.str wo]) ha1).trans (Same.new (o := .lst [.str wo, .str wj]) ha2)).trans (Same.new (o := .lst [.str wj, .str wj]) ha3)).trans (Same.new (o := .lst [.str rv]) ha4)).trans (Same.new (o := .lst [.ref a0, .ref a1, .ref a2, .ref a3, .ref a4]) ha5) _ _ upd_same
      have f1 := (((Same.new (o := .lst [.str wo, .str wj]) ha2).trans (Same.new (o := .lst [.str wj, .str wj]) ha3)).trans (Same.new (o := .lst [.str rv]) ha4)).trans (Same.new (o := .lst [.ref a0, .ref a1, .ref a2, .ref a3, .ref a4]) ha5) _ _ upd_same
      have f2 := ((Same.new (o := .lst [.str wj, .str wj]) ha3).trans (Same.new (o := .lst [.str rv]) ha4)).trans (Same.new (o := .lst [.ref a0, .ref a1, .ref a2, .ref a3, .ref a4]) ha5) _ _ upd_same
      have f3 := (Same.new (o := .lst [.str rv]) ha4).trans (Same.new (o := .lst [.ref a0, .ref a1, .ref a2, .ref a3, .ref a4]) ha5) _ _ upd_same
      have f4 := (Same.new (o := .lst [.ref a0, .ref a1, .ref a2, .ref a3, .ref a4]) ha5) _ _ upd_same
      have f5 : (upd (upd (upd (upd (upd (upd H4 a0 (.lst [])) a1 (.lst [.str wo])) a2 (.lst [.str wo, .str wj])) a3 (.lst [.str wj, .str wj])) a4 (.lst [.str rv])) a5 (.lst [.ref a0, .ref a1, .ref a2, .ref a3, .ref a4])) a5 = some (.lst [.ref a0, .ref a1, .ref a2, .ref a3, .ref a4]) := upd_same
      clear ha1 ha2 ha3 ha4 ha5 e0 e1 e2 e3 e4
      generalize (upd (upd (upd (upd (upd (upd H4 a0 (.lst [])) a1 (.lst [.str wo])) a2 (.lst [.str wo, .str wj])) a3 (.lst [.str wj, .str wj])) a4 (.lst [.str rv])) a5 (.lst [.ref a0, .ref a1, .ref a2, .ref a3, .ref a4])) = G at *
      have gDG := e5 _ _ gD4
      have gWG := e5 _ _ gW4
      have wjok : okS wj := hokw _ (List.mem_of_getElem? hwj)
      have rvok : okS rv := sameS_ok hrv wjok
      have rvl : rv.length = wj.length := hrv.2
      obtain ⟨aw, ls, hat, hls, lok, lsl⟩ : ∃ aw, ∃ ls : List Str, atI [V.ref a0, .ref a1, .ref a2, .ref a3, .ref a4] (d - 3) = some (.ref aw) ∧ G aw = some (.lst (ls.map V.str)) ∧ (∀ t ∈ ls, okS t) ∧ Ns ls ≤ 2 * wj.length + 12 := by
        have c0 : d ≠ 0 := fun e => h0 (by rw [e]; exact decide_eq_true rfl)
        have c1 : d ≠ 1 := fun e => h1 (by rw [e]; exact decide_eq_true rfl)
        have c2 : d ≠ 2 := fun e => h2 (by rw [e]; exact decide_eq_true rfl)
        have c3 : d < 8 := of_decide_eq_true h3
        rcases (by omega : d = 3 ∨ d = 4 ∨ d = 5 ∨ d = 6 ∨ d = 7) with rfl | rfl | rfl | rfl | rfl
        · exact ⟨a0, [], rfl, f0, fun t ht => (nomatch ht), by rw [ns_nil]; omega⟩
        · exact ⟨a1, [wo], rfl, f1, fun t ht => by rw [List.mem_singleton.mp ht]; exact wok, by rw [ns_cons, ns_nil]; omega⟩
        · exact ⟨a2, [wo, wj], rfl, f2, fun t ht => by
            rcases List.mem_cons.mp ht with h | h
            · rw [h]; exact wok
            · rw [List.mem_singleton.mp h]; exact wjok, by rw [ns_cons, ns_cons, ns_nil]; omega⟩
        · exact ⟨a3, [wj, wj], rfl, f3, fun t ht => by
            rcases List.mem_cons.mp ht with h | h
            · rw [h]; exact wjok
            · rw [List.mem_singleton.mp h]; exact wjok, by rw [ns_cons, ns_cons, ns_nil]; omega⟩
        · exact ⟨a4, [rv], rfl, f4, fun t ht => by rw [List.mem_singleton.mp ht]; exact rvok, by rw [ns_cons, ns_nil]; omega⟩
      have drG : ∀ {G2 : Hp}, Same G G2 → Drawn H p c (n + 10) G2 := fun h => ⟨ns4, r4, s4, n4, P4.same (e5.trans h), by omega, B4.trans (But.same (e5.trans h))⟩
      refine ⟨_, rfl, _, _, rfl, rfl, a5, _, _, _, rfl, rfl, SqL.of f5, hat, ?_⟩
      have lj := ln0 (ws.take j)
      have ld := ln0 (ws.drop (j + 1))
      have ll := ln0 ls
      refine ⟨_, rfl, _, rfl, _, rfl, W, _, rfl, SqL.of gWG, fun b1 hb1 => ⟨_, rfl, b1, aw, _, _, rfl, rfl, upd_same, (Same.new hb1) _ _ hls, ?_, fun b2 hb2 => ⟨_, rfl, _, rfl, _, _, rfl, rfl, _, rfl, W, _, rfl, SqL.of (((Same.new hb1).trans (Same.new hb2)) _ _ gWG), fun b3 hb3 => ⟨b2, b3, _, _, rfl, rfl, (Same.new hb3) _ _ upd_same, upd_same, ?_, fun W2 hW2 => ?_⟩⟩⟩⟩
      · rw [cut_toS]
        simp only [List.length_map]
        exact big (by omega)
      · rw [cut_toS, ← Int.ofNat_one, ← Int.natCast_add, cut_fromS]
        simp only [List.length_map, List.length_append]
        exact big (by omega)
      rw [cut_toS, ← Int.ofNat_one, ← Int.natCast_add, cut_fromS, ← List.map_append, ← List.map_append] at *
      have S2 := (((Same.new hb1).trans (Same.new hb2)).trans (Same.new hb3)).trans (Same.new (o := .lst ((ws.take j ++ ls ++ ws.drop (j + 1)).map V.str)) hW2)
      have gD5 := S2 _ _ gDG
      have nwN : Ns (ws.take j ++ ls ++ ws.drop (j + 1)) ≤ ln.length + wj.length + 12 := by rw [ns_app, ns_app]; omega
      have nwok : ∀ t ∈ ws.take j ++ ls ++ ws.drop (j + 1), okS t := fun t ht => (List.mem_append.mp ht).elim (fun h => (List.mem_append.mp h).elim (fun h => hokw t (List.mem_of_mem_take h)) (lok t)) (fun h => hokw t (List.mem_of_mem_drop h))
      have gW2 : (upd (upd (upd (upd G b1 (.lst ((ws.take j).map V.str))) b2 (.lst ((ws.take j ++ ls).map V.str))) b3 (.lst ((ws.drop (j + 1)).map V.str))) W2 (.lst ((ws.take j ++ ls ++ ws.drop (j + 1)).map V.str))) W2 = some (.lst ((ws.take j ++ ls ++ ws.drop (j + 1)).map V.str)) := upd_same
      generalize (upd (upd (upd (upd G b1 (.lst ((ws.take j).map V.str))) b2 (.lst ((ws.take j ++ ls).map V.str))) b3 (.lst ((ws.drop (j + 1)).map V.str))) W2 (.lst ((ws.take j ++ ls ++ ws.drop (j + 1)).map V.str))) = G2 at *
      generalize ws.take j ++ ls ++ ws.drop (j + 1) = nw at *
      have jl : (Str.join (Str.ofString " ") nw).length ≤ ln.length + wj.length + 12 := Nat.le_trans (join_len l2 nw) nwN
      have jok : okS (Str.join (Str.ofString " ") nw) := join_ok okB nwok
      have zi := ln0 (zs.take i)
      have zd := ln0 (zs.drop (i + 1))
      refine ⟨⟨_, rfl⟩, _, rfl, _, rfl, _, rfl, D, _, rfl, SqL.of gD5, fun x1 hx1 => ⟨⟨_, rfl⟩, _, rfl, _, W2, nw, rfl, rfl, .inl (SqL.of ((Same.new hx1) _ _ gW2)), ?_, by show 1 ≤ sizeLine; decide, fun x2 hx2 => ⟨x1, x2, _, _, rfl, rfl, (Same.new hx2) _ _ upd_same, upd_same, ?_, fun x3 hx3 => ⟨_, rfl, _, rfl, _, _, rfl, rfl, _, rfl, D, _, rfl, SqL.of ((((Same.new hx1).trans (Same.new hx2)).trans (Same.new hx3)) _ _ gD5), fun x4 hx4 => ⟨x3, x4, _, _, rfl, rfl, (Same.new hx4) _ _ upd_same, upd_same, ?_, fun x5 hx5 => ?_⟩⟩⟩⟩⟩
      · rw [ns_sum l2]
        exact big2 (by omega)
      · rw [cut_toS]
        simp only [List.length_map, List.length_singleton]
        exact big (by omega)
      · rw [cut_toS, ← Int.natCast_add, cut_fromS]
        simp only [List.length_map, List.length_append, List.length_singleton]
        exact big (by omega)
      rw [cut_toS, ← Int.natCast_add, cut_fromS, TL.join_eq] at *
      have S3 := ((((S2.trans (Same.new hx1)).trans (Same.new hx2)).trans (Same.new hx3)).trans (Same.new hx4)).trans (Same.new (o := .lst ((zs.take i).map V.str ++ [.str (Str.join (Str.ofString " ") nw)] ++ (zs.drop (i + 1)).map V.str)) hx5)
      have eL : (zs.take i).map V.str ++ [V.str (Str.join (Str.ofString " ") nw)] ++ (zs.drop (i + 1)).map V.str = (zs.take i ++ [Str.join (Str.ofString " ") nw] ++ zs.drop (i + 1)).map V.str := by simp
      refine ⟨_, _, zs.take i ++ [Str.join (Str.ofString " ") nw] ++ zs.drop (i + 1), rfl, rfl, .inl (SqL.of (upd_same.trans (by rw [eL]))), ?_, fin _ _ ?_ ?_ (drG S3)⟩
      · rw [ns_sum l1, ns_app, ns_app, ns_cons, ns_nil]
        exact big2 (by omega)
      · exact fun t ht => (List.mem_append.mp ht).elim (fun h => (List.mem_append.mp h).elim (tk i t) (fun h => by rw [List.mem_singleton.mp h]; exact jok)) (dp (i + 1) t)
      · rw [ns_app, ns_app, ns_cons, ns_nil]
        omega
    · refine ⟨_, rfl, by show 7 ≤ sizeLine; decide, fun q hq => ?_⟩
      have nqp : q ≠ p := fun e => by rw [e, P3.hp] at hq; cases hq
      have nqc : q ≠ c := fun e => by rw [e, P3.hc] at hq; cases hq
      refine ⟨p, c, ns3, r3, s3, n3, q, _, rfl, P3.same (Same.new hq), by omega, SqL.of upd_same, nqp, nqc, by show 0 < 7; decide, by show 7 < 1000; decide, fun v H4 hv hD4 => ?_⟩
      obtain ⟨ns4, r4, s4, n4, P4, m4, B4⟩ := hD4
      have B4 : But p c H H4 := (B3.trans (But.same (Same.new hq))).trans B4
      obtain ⟨sg, rfl, sl, so⟩ : ∃ sg, v = .str sg ∧ sg.length = 1 ∧ okS sg := by
        have key : ∀ sg : Str, sg.length = 1 → sg.cps.toList.all (· < 256) = true → V.str sg = v → ∃ sg, v = .str sg ∧ sg.length = 1 ∧ okS sg := fun sg a b e => ⟨sg, e.symm, a, fun ch hc => by simpa using List.all_eq_true.mp b ch hc⟩
        simp only [List.mem_cons, List.not_mem_nil, or_false] at hv
        rcases hv with h | h | h | h | h | h | h <;> exact key _ (by decide +kernel) (by decide +kernel) h.symm
      have hzl : z.length ≤ sizeLine := Nat.le_trans (by omega) h402
      refine ⟨_, rfl, _, rfl, _, rfl, hzl, _, _, rfl, rfl, p, c, ns4, r4, s4, n4, _, rfl, P4, by omega, by omega, by omega, fun m H5 m0 m1 hD5 => ?_⟩
      obtain ⟨ns5, r5, s5, n5, P5, m5, B5⟩ := hD5
      have B5 : But p c H H5 := B4.trans B5
      have q1 := fun a b => cutS_le z a b
      refine ⟨_, rfl, _, rfl, _, rfl, z, rfl, hzl, _, rfl, _, _, rfl, rfl, ?_, _, rfl, _, rfl, _, _, rfl, rfl, _, rfl, _, _, rfl, rfl, _, rfl, z, rfl, hzl, _, _, rfl, rfl, ?_, k _ _ (app_ok (app_ok (cutS_ok hk _ _) so) (cutS_ok hk _ _)) ?_ ⟨ns5, r5, s5, n5, P5, by omega, B5⟩⟩
      · rw [sl]
        have := q1 none (some m)
        exact big (by omega)
      · rw [Str.length_append, sl]
        have := q1 none (some m)
        have := q1 (some (m + 9 - d)) none
        exact big (by omega)
      · rw [Str.length_append, Str.length_append, sl]
        have := q1 none (some m)
        have := q1 (some (m + 9 - d)) none
        omega
end
end K95

set_option Elab.async false
set_option linter.all false
set_option maxRecDepth 100000
set_option maxHeartbeats 4000000
/-! The text that repr tells of made data of any kind; what is kept of data while objects are made and tables grow. -/
namespace NX
open PySem PySem.Spec PyProof.Rows L2 LamX
section
variable {X : Cx}
/-- repr(x), x any made data -/
def rReprD (K : PySem.W.Frag) : List V → Hp → VK → Prop := fun xs H Q => ∃ (v : V) (d : PyData), xs = [v] ∧ Dr K H v d ∧ d.showable = true ∧ d.depth ≤ 50 ∧ d.shown.length ≤ sizeLine ∧ (∀ i, d = .int i → i.natAbs.log2 < 1920) ∧ Q (.str d.shown) H
theorem call_reprD (hg : X.A.guards = some []) (hu : X.A.units + 64 < cLine) (S : SysB X.base) : CallR X (.builtin "repr") (rReprD X.K) := by
  intro pins s σ H xs us Q I r h
  obtain ⟨v, d, rfl, hd, hs, hdp, hl, hi, q⟩ := h
  cases hd with
  | non =>
    cases r with
    | cons r1 r2 =>
      cases r2
      cases r1
      exact PySem.P.repr_of_none ⟨.str _, H, I.tok _, ⟨_, rfl⟩, q⟩
  | bl b =>
    cases r with
    | cons r1 r2 =>
      cases r2
      cases r1
      exact PySem.P.repr_of_bool ⟨.str _, H, I.tok _, ⟨_, rfl⟩, q⟩
  | int i =>
    cases r with
    | cons r1 r2 =>
      cases r2
      obtain ⟨t, rfl⟩ := r1
      exact PySem.P.repr_of_int (hi i rfl) ⟨.str _, H, I.tok _, ⟨_, rfl⟩, q⟩
  | str x =>
    cases r with
    | cons r1 r2 =>
      cases r2
      obtain ⟨t, rfl⟩ := r1
      exact PySem.P.repr_of_str ⟨.str _, H, I.tok _, ⟨_, rfl⟩, q⟩ hl
  | lst a b => exact call_repr hg hu S pins s σ H _ us Q I r ⟨_, _, rfl, .lst a b, hs, hdp, hl, q⟩
  | tup a b => exact call_repr hg hu S pins s σ H _ us Q I r ⟨_, _, rfl, .tup a b, hs, hdp, hl, q⟩
  | dct a b => exact call_repr hg hu S pins s σ H _ us Q I r ⟨_, _, rfl, .dct a b, hs, hdp, hl, q⟩
end
theorem seqL_keep {K : PySem.W.Frag} {H H' : Hp} {a : Addr} {xs : List V} (k : ∀ o, H a = some o → (∀ ps, o ≠ .tbl ps) → H' a = some o) (h : SqL K H a xs) : SqL K H' a xs := by
  rcases h with (h | ⟨o, h⟩) | h
  · exact .inl (.inl (k _ h (by intro p e; cases e)))
  · exact .inl (.inr ⟨o, k _ h (by intro p e; cases e)⟩)
  · exact .inr h
theorem seqT_keep {K : PySem.W.Frag} {H H' : Hp} {a : Addr} {xs : List V} (k : ∀ o, H a = some o → (∀ ps, o ≠ .tbl ps) → H' a = some o) (h : SqT K H a xs) : SqT K H' a xs := by
  rcases h with (h | ⟨o, h⟩) | h
  · exact .inl (.inl (k _ h (by intro p e; cases e)))
  · exact .inl (.inr ⟨o, k _ h (by intro p e; cases e)⟩)
  · exact .inr h
mutual
theorem Dr.extN {K : PySem.W.Frag} {H H' : Hp} (s : ExtN H H') : ∀ {v : V} {d : PyData}, Dr K H v d → Dr K H' v d
  | _, _, .non => .non
  | _, _, .bl b => .bl b
  | _, _, .int i => .int i
  | _, _, .str x => .str x
  | _, _, .lst a b => .lst (seqL_keep (s _) a) (DrAll.extN s b)
  | _, _, .tup a b => .tup (seqT_keep (s _) a) (DrAll.extN s b)
  | _, _, .dct a b => .dct (s _ _ a (by intro p e; cases e)) (DrAll.extN s b)
theorem DrAll.extN {K : PySem.W.Frag} {H H' : Hp} (s : ExtN H H') : ∀ {v : List V} {d : List PyData}, DrAll K H v d → DrAll K H' v d
  | _, _, .nil => .nil
  | _, _, .cons a b => .cons (Dr.extN s a) (DrAll.extN s b)
end
/-- data whose text is short -/
def SmD (K : PySem.W.Frag) (H : Hp) (v : V) (d : PyData) : Prop := Dr K H v d ∧ d.showable = true ∧ d.depth ≤ 3 ∧ d.shown.length ≤ 100000 ∧ ∀ i, d = .int i → i.natAbs.log2 < 1920
theorem SmD.ext {K : PySem.W.Frag} {H H' : Hp} {v : V} {d : PyData} (s : ExtN H H') (h : SmD K H v d) : SmD K H' v d := ⟨h.1.extN s, h.2⟩
theorem SmD.same {K : PySem.W.Frag} {H H' : Hp} {v : V} {d : PyData} (s : Same H H') (h : SmD K H v d) : SmD K H' v d := h.ext (ExtN.of s)
/-- what repr asks of it -/
theorem SmD.ask {K : PySem.W.Frag} {H : Hp} {v : V} {d : PyData} {Q : VK} (h : SmD K H v d) (q : Q (.str d.shown) H) : rReprD K [v] H Q :=
  ⟨v, d, rfl, h.1, h.2.1, Nat.le_trans h.2.2.1 (by decide), Nat.le_trans h.2.2.2.1 (by decide), h.2.2.2.2, q⟩
/-- a pair of a short word and such -/
theorem SmD.pair {K : PySem.W.Frag} {H : Hp} {v : V} {d : PyData} {z : Str} {a : Addr} {Q : VK} (h : SmD K H v d) (hz : z.length ≤ 100) (hc : z.cps.toList.all (fun c => decide (c < 1114112)) = true) (ha : H a = some (.tup [.str z, v])) (q : Q (.str (PyData.tuple [.str z, d]).shown) H) : rReprD K [.ref a] H Q := by
  obtain ⟨h1, h2, h3, h4, _⟩ := h
  have hr : (reprText z).length ≤ 10 * z.length + 2 := StrLaws.reprText_len z (by rw [List.all_eq_true] at hc; exact fun i hi => Nat.lt_trans (of_decide_eq_true (hc i hi)) (by decide))
  refine ⟨_, _, rfl, .tup (SqT.of ha) (.cons (.str z) (.cons h1 .nil)), ?_, ?_, ?_, (fun i e => by cases e), q⟩
  · have e : (PyData.tuple [.str z, d]).showable = ((PyData.str z).showable && (d.showable && true)) := rfl
    rw [e, h2]
    rfl
  · have e : (PyData.tuple [.str z, d]).depth = max 0 (max d.depth 0) + 1 := rfl
    rw [e]
    omega
  · show (Str.ofString "(" ++ (reprText z ++ Str.ofString ", " ++ d.shown) ++ Str.ofString ")").length ≤ sizeLine
    repeat rw [Str.length_append]
    have a : (Str.ofString "(").length = 1 := by decide +kernel
    have b : (Str.ofString ", ").length = 2 := by decide +kernel
    have c : (Str.ofString ")").length = 1 := by decide +kernel
    exact Nat.le_trans (by omega : _ ≤ 300000) (by decide)
end NX

set_option Elab.async false
set_option linter.all false
set_option maxRecDepth 100000
set_option maxHeartbeats 8000000
namespace K95
open PySem L2 NX LamX
theorem scan_le : ∀ (ws : List Str) {k : Nat}, scan ws = .inl k → k ≤ ws.length
  | [], k, h => by
    rw [scan.eq_1] at h
    cases h
    exact Nat.le_refl _
  | [w], k, h => by
    rw [scan.eq_2] at h
    cases h
    split <;> simp
  | w :: n :: r, k, h => by
    rw [scan.eq_3] at h
    simp only [List.length_cons]
    split at h
    · split at h
      · split at h
        · split at h
          · cases h
          · cases h; omega
        · cases h2 : scan r with
          | inl j =>
            rw [h2] at h
            have := scan_le r h2
            cases h
            omega
          | inr es => rw [h2] at h; cases h
      · cases h; omega
    · cases h; omega
theorem rowScan_le {ws : List Str} {k : Nat} (h : rowScan ws = .inl k) : k ≤ ws.length + 1 := by
  unfold rowScan at h
  split at h
  · split at h
    · cases h; omega
    · cases h
  · exact Nat.le_succ_of_le (scan_le ws h)
theorem planScan_le {b : Nat} : ∀ (ls : List Str) {q : Nat × Nat}, (∀ l ∈ ls, (wordsIn l).length ≤ b) → planScan ls = .inl q → q.1 ≤ ls.length ∧ q.2 ≤ b + 1
  | [], q, _, h => by
    rw [planScan.eq_1] at h
    cases h
  | l :: r, q, hb, h => by
    rw [planScan.eq_2] at h
    cases h1 : rowScan (wordsIn l) with
    | inl k =>
      rw [h1] at h
      have h : Sum.inl (0, k) = (Sum.inl q : (Nat × Nat) ⊕ List (List Ent)) := h
      cases h
      exact ⟨Nat.zero_le _, Nat.le_trans (rowScan_le h1) (Nat.succ_le_succ (hb l List.mem_cons_self))⟩
    | inr es =>
      rw [h1] at h
      cases h2 : planScan r with
      | inl q2 =>
        rw [h2] at h
        have h : Sum.inl (q2.1 + 1, q2.2) = (Sum.inl q : (Nat × Nat) ⊕ List (List Ent)) := h
        cases h
        have := planScan_le r (fun l hl => hb l (List.mem_cons_of_mem _ hl)) h2
        exact ⟨Nat.succ_le_succ this.1, this.2⟩
      | inr e2 => rw [h2] at h; cases h
theorem fault_le {z : Str} {q : Nat × Nat} (hz : z.length ≤ 990) (h : planScan (linesOf z) = .inl q) : q.1 ≤ 2000 ∧ q.2 ≤ 2000 := by
  have a := planScan_le (b := 992) (linesOf z) (fun l hl => by
    have h1 := PyProof.Rows.part_short hl
    have h2 := PyProof.Rows.split_le l (Str.ofString " ")
    exact Nat.le_trans h2 (by omega)) h
  have h2 := PyProof.Rows.split_le z (Str.ofString "\n")
  exact ⟨Nat.le_trans a.1 (Nat.le_trans h2 (by omega)), Nat.le_trans a.2 (by omega)⟩
/-- what the law holds against read_plan -/
inductive Th (H : Hp) : V → Prop
  | tx {z : Str} : okS z → z.length ≤ 990 → Th H (.str z)
  | non : Th H .non
  | i7 : Th H (.int 7)
  | tr : Th H (.bl true)
  | lst {a b : Addr} : H a = some (.lst [.ref b]) → H b = some (.lst [.str "load a"]) → Th H (.ref a)
theorem Th.ext {H H' : Hp} {v : V} (s : ExtN H H') (h : Th H v) : Th H' v := by
  cases h with
  | tx h k => exact .tx h k
  | non => exact .non
  | i7 => exact .i7
  | tr => exact .tr
  | lst a b => exact .lst (s _ _ a (by intro p e; cases e)) (s _ _ b (by intro p e; cases e))
theorem Th.same {H H' : Hp} {v : V} (s : Same H H') (h : Th H v) : Th H' v := h.ext (ExtN.of s)
/-- where the fault is -/
def outOf : V → Option (Nat × Nat)
  | .str z => match planScan (linesOf z) with
    | .inl q => some q
    | .inr _ => none
  | _ => some (0, 0)
theorem Th.kind {K : PySem.W.Frag} {H : Hp} {v : V} (h : Th H v) : (∃ z, v = .str z ∧ okS z ∧ z.length ≤ 990) ∨ (NoStr K H v ∧ outOf v = some (0, 0)) := by
  cases h with
  | tx h k => exact .inl ⟨_, rfl, h, k⟩
  | non => exact .inr ⟨⟨_, .base .non, kit_ty (by decide +kernel)⟩, rfl⟩
  | i7 => exact .inr ⟨⟨_, .base (.int _), kit_ty (by decide +kernel)⟩, rfl⟩
  | tr => exact .inr ⟨⟨_, .base (.bl _), kit_ty (by decide +kernel)⟩, rfl⟩
  | lst a _ => exact .inr ⟨⟨_, .base (.lst a), kit_ty (by decide +kernel)⟩, rfl⟩
theorem Th.le {H : Hp} {v : V} {q : Nat × Nat} (h : Th H v) (e : outOf v = some q) : q.1 ≤ 2000 ∧ q.2 ≤ 2000 := by
  have z0 : ∀ u : V, outOf u = some (0, 0) → u = v → q.1 ≤ 2000 ∧ q.2 ≤ 2000 := fun u h1 h2 => by
    rw [h2, e] at h1
    cases h1
    exact ⟨Nat.zero_le _, Nat.zero_le _⟩
  cases h with
  | @tx z h k =>
    unfold outOf at e
    dsimp only at e
    cases h2 : planScan (linesOf z) with
    | inl q2 => rw [h2] at e; cases e; exact fault_le k h2
    | inr _ => rw [h2] at e; cases e
  | non => exact z0 _ rfl rfl
  | i7 => exact z0 _ rfl rfl
  | tr => exact z0 _ rfl rfl
  | lst a _ => exact z0 _ rfl rfl
theorem lgInt {n : Nat} (h : n ≤ 2000) : ((n : Int)).natAbs.log2 < 1920 := by
  rw [Int.natAbs_natCast]
  by_cases h0 : n = 0
  · rw [h0]; decide
  · exact Nat.lt_of_lt_of_le ((Nat.log2_lt h0).mpr (show n < 2 ^ 11 by omega)) (by decide)
theorem smInt {n : Nat} (h : n ≤ 2000) : (PyData.int (n : Int)).shown.length ≤ 1921 := PyProof.Rows.int_text_len_1921 (lgInt h)
theorem smStr {K : PySem.W.Frag} {H : Hp} {z : Str} (h : okS z) (k : z.length ≤ 990) : SmD K H (.str z) (.str z) := by
  refine ⟨.str _, rfl, by show (0 : Nat) ≤ 3; decide, ?_, fun i e => by cases e⟩
  have r := PySem.StrLaws.reprText_len z (fun c hc => Nat.lt_trans (h c hc) (by decide))
  exact Nat.le_trans r (by omega)
theorem smPair {K : PySem.W.Frag} {H : Hp} {p : Addr} {a b : Nat} (h : H p = some (.tup [.int (a : Nat), .int (b : Nat)])) (ha : a ≤ 2000) (hb : b ≤ 2000) : SmD K H (.ref p) (.tuple [.int (a : Nat), .int (b : Nat)]) := by
  refine ⟨.tup (SqT.of h) (.cons (.int _) (.cons (.int _) .nil)), ?_, by show (1 : Nat) ≤ 3; decide, ?_, fun i e => by cases e⟩
  · show (decide ((a : Int).natAbs.log2 < 1920) && (decide ((b : Int).natAbs.log2 < 1920) && true)) = true
    rw [decide_eq_true (lgInt ha), decide_eq_true (lgInt hb)]
    rfl
  have l := PySem.tupleText_len_le [(PyData.int (a : Nat)).shown, (PyData.int (b : Nat)).shown]
  have h1 := smInt ha
  have h2 := smInt hb
  simp only [List.map_cons, List.map_nil, List.sum_cons, List.sum_nil, List.length_cons, List.length_nil] at l
  exact Nat.le_trans l (by omega)
theorem fa_of {K : PySem.W.Frag} {H : Hp} {v : V} {Q : VK} {E : XK} (h : Th H v) (k1 : ∀ q p H', outOf v = some q → Same H H' → H' p = some (.tup [.int (q.1 : Nat), .int (q.2 : Nat)]) → Q (.ref p) H') (k2 : outOf v = none → ∀ H', Same H H' → Q .non H') : spFa K [v] H Q E := by
  rcases h.kind (K := K) with ⟨z, rfl, ok, le⟩ | ⟨ns, e⟩
  · refine ⟨_, rfl, .inl ⟨z, rfl, le, ok, ?_⟩⟩
    unfold outOf at k1 k2
    dsimp only at k1 k2
    cases h2 : planScan (linesOf z) with
    | inl q =>
      rw [h2] at k1
      exact fun p H' s hp => k1 q p H' rfl s hp
    | inr ess =>
      rw [h2] at k2
      exact fun H' s => k2 rfl H' s
  · exact ⟨_, rfl, .inr ⟨ns, fun p H' s hp => k1 _ p H' e s hp⟩⟩
theorem heard_of {K : PySem.W.Frag} {m : M4} {CT : Addr} {H : Hp} {v : V} {Q : VK} {tl : XK → Hp → VK → Prop} (h : Th H v) (pre : ∀ (E : XK) (R : VK) (H0 : Hp), spRP K m CT [v] H0 R E → tl E H0 R)
    (k1 : ∀ q p H', outOf v = some q → Same H H' → H' p = some (.tup [.int (q.1 : Nat), .int (q.2 : Nat)]) → Q (.ref p) H') (k2 : outOf v = none → ∀ H', Same H H' → Q v H') : THeard K m CT tl H Q := by
  intro p0 hp0 R hR
  have s0 : Same H (upd H p0 (.tup [.non, .non])) := Same.new hp0
  have bad : ∀ (q : Nat × Nat), outOf v = some q → ∀ d H', Told2 (upd H p0 (.tup [.non, .non])) d (.int (q.1 : Nat)) (.int (q.2 : Nat)) H' → HErr CT Q (.ref CT) (some d) H' := fun q e d H' t =>
    ⟨_, _, d, rfl, rfl, t.2.2, fun p H'' s hn hp => k1 q p H'' e ((s0.trans t.1).trans s) hp⟩
  refine pre _ _ _ ?_
  rcases (h.same s0).kind (K := K) with ⟨z, rfl, ok, le⟩ | ⟨ns, e⟩
  · refine ⟨_, rfl, .inl ⟨z, rfl, le, ?_⟩⟩
    unfold outOf at bad k2
    dsimp only at bad k2
    cases h2 : planScan (linesOf z) with
    | inl q =>
      rw [h2] at bad
      exact fun d H' t => bad q rfl d H' t
    | inr ess =>
      rw [h2] at k2
      refine fun r H' s pa => hR r ess H' pa fun H2 s2 => ?_
      rw [text_back h2]
      exact k2 rfl H2 ((s0.trans s).trans s2)
  · exact ⟨_, rfl, .inr ⟨ns, fun d H' t => bad _ e d H' t⟩⟩
end K95

set_option Elab.async false
set_option linter.all false
set_option maxRecDepth 100000
set_option maxHeartbeats 4000000
/-! Errors of ours as values: C(e, ..), C(), isinstance and fields of such. -/
namespace NX
open PySem L2 PySem.Spec PyProof.Rows
/-- C(e, ..) as a value, C's own __init__ keeping sp -/
def tMkV (C : Addr) (sp : Sp) (dvs : List V) (ta : TA) : TE := fun σ H Q => ta σ H fun vs H1 => vs.length ≤ 1000 ∧ ∀ a, H1 a = none → sp (.ref a :: (vs ++ dvs)) (upd H1 a (exo a C none)) (fun v H2 => v = .non ∧ Q (.ref a) H2) (fun _ _ _ => False)
def tMkV0 (C : Addr) : TE := fun σ H Q => ∀ a, H a = none → Q (.ref a) (upd H a (ExO (.ref C) a))
/-- an error of the class D at a -/
def IsEr (H : Hp) (a D : Addr) : Prop := (∃ d fs, H a = some (exo a D (some d)) ∧ H d = some (exd d fs)) ∨ H a = some (ExO (.ref D) a)
def rIsEr (K : PySem.W.Frag) : List V → Hp → VK → Prop := fun xs H Q => ∃ (a D : Addr) (c : V) (u : Value) (b : Bool), xs = [.ref a, c] ∧ ClsV c u ∧ IsEr H a D ∧ ExcC K D ∧ PySem.W.kitOne K (.ref D) u = some b ∧ Q (.bl b) H
def rIsErT (K : PySem.W.Frag) : List V → Hp → VK → Prop := fun xs H Q => ∃ (a D tp : Addr) (cs : List V) (us : List Value) (b : Bool), xs = [.ref a, .ref tp] ∧ H tp = some (.tup cs) ∧ Paired ClsV cs us ∧ IsEr H a D ∧ ExcC K D ∧ PySem.W.kitAny K (.ref D) us = some b ∧ Q (.bl b) H
def tErF (K : PySem.W.Frag) (n : Str) (te : TE) : TE := fun σ H Q => te σ H fun x H1 => ∃ (a D d : Addr) (fs : List (Str × V)) (v : V), x = .ref a ∧ H1 a = some (exo a D (some d)) ∧ H1 d = some (exd d fs) ∧ XfC K D ∧ PySem.W.findIn K (.ref D) n = some none ∧ fs.lookup n = some v ∧ Q v H1
section
variable {X : Cx} {pins : List (Addr × Obj)} {σ : L2.St} {H : Hp} {s : Shared}
theorem inst_exo {a D d : Addr} {fs : List (Str × V)} (I : Inv X pins σ H s) (ha : H a = some (exo a D (some d))) (hd : H d = some (exd d fs)) :
    ∃ o od, PySem.W.InstAt s.heap a o D (some od) ∧ s.heap.get? d = some od ∧ ∃ mA, s.heap.Ns1 d mA ∧ (∀ f, RelO (fs.lookup f) (mA f)) := by
  obtain ⟨t1, e1⟩ := exo_at I.hok ha
  obtain ⟨mA, hns, hr⟩ := exd_at I.hok hd
  obtain ⟨od, ho, _⟩ := lookIn_ns hns
  exact ⟨_, od, ⟨e1, rfl, rfl, ho⟩, ho, mA, hns, hr⟩
theorem inst_er {a D : Addr} (I : Inv X pins σ H s) (h : IsEr H a D) : ∃ o od, PySem.W.InstAt s.heap a o D od := by
  rcases h with ⟨d, fs, ha, hd⟩ | ha
  · obtain ⟨o, od, J, _⟩ := inst_exo I ha hd
    exact ⟨o, _, J⟩
  · have x : ObjOk X.prog X.w H s.heap a (.ext fun h => ∃ (oe : Obj) (vs : Array Value), h.get? a = some oe ∧ Zc (.ref D) none oe ∧ oe.data = .fields vs ∧ vs[1]? = some .none ∧ vs[2]? = some .none ∧ 4 < vs.size) := I.hok a _ ha
    obtain ⟨⟨oe, vs, e1, z, e4, _⟩, _, _⟩ := x
    exact ⟨oe, none, ⟨e1, z.1, by unfold PySem.W.notCls; rw [e4] <;> rfl, by rw [z.2] <;> trivial⟩⟩
end
section
variable {X : Cx} {e : Expr} {es : List Expr} {te : TE} {ta : TA} {pos p : Pos} {n : Str}
theorem clsSome {K : PySem.W.Frag} {D : Addr} (z : PySem.W.hasDictIn K D = true) : (PySem.W.clsIn K D).isSome = true := by
  unfold PySem.W.hasDictIn at z
  cases q : PySem.W.clsIn K D with
  | some cd => rfl
  | none => rw [q] at z; cases z
theorem call_isEr : CallR X (.builtin "isinstance") (rIsEr X.K) := by
  intro pins s σ H xs us Q I r h
  obtain ⟨a, D, c, u, b, rfl, hc, hE, E, k, q⟩ := h
  obtain ⟨u1, u2, rfl, r1, r2⟩ := vals2 r
  have e2 := hc.eq r2
  subst e2
  obtain rfl : u1 = Value.ref a := r1
  obtain ⟨o, od, J⟩ := inst_er I hE
  exact PySem.W.kia_one (PySem.W.kitx_exc (clsSome E.hd) E.hg E.hk E.hs E.ha E.hn E.ht E.hm) I.kIn J k (fun z => nomatch z) fun tk => ⟨.bl b, H, I.tok tk, rfl, q⟩
theorem call_isErT : CallR X (.builtin "isinstance") (rIsErT X.K) := by
  intro pins s σ H xs us Q I r h
  obtain ⟨a, D, tp, cs, ws, b, rfl, hT, k, hE, E, e, q⟩ := h
  obtain ⟨u1, u2, rfl, r1, r2⟩ := vals2 r
  cases (show u2 = Value.ref tp from r2)
  obtain rfl : u1 = Value.ref a := r1
  obtain ⟨o, od, J⟩ := inst_er I hE
  obtain ⟨_, its, rv, o, h1, h2, n, h3⟩ := (show ObjOk X.prog X.w H s.heap tp (.tup cs) from I.hok tp _ hT)
  have e3 := ClsV.all k rv
  subst e3
  obtain ⟨oc, od, dt, sl⟩ := o
  simp only at h2 h3
  subst h2 h3
  exact PySem.W.kia_tup (PySem.W.kitx_exc (clsSome E.hd) E.hg E.hk E.hs E.ha E.hn E.ht E.hm) I.kIn J h1 e (fun z => nomatch z) fun tk => ⟨.bl b, H, I.tok tk, rfl, q⟩
theorem pe_erF (he : PE X e te) (hb : attributeBase e n X.env (eval e X.env) = eval e X.env := by rfl) : PE X (.Attribute e n pos) (tErF X.K n te) := by
  refine ⟨fun pins s σ H Q I h => attr_of hb (thn (he.run pins s σ H _ I h) fun u s1 ⟨x, H1, I1, rx, a, D, d, fs, v, ex, ha, hd, T, hno, l, q⟩ => ?_)⟩
  subst ex
  obtain rfl : u = Value.ref a := rx
  obtain ⟨o, od, J, ho, mA, hns, hr⟩ := inst_exo I1 ha hd
  obtain ⟨od', ho', hl⟩ := lookIn_ns hns
  rw [ho] at ho'
  cases ho'
  obtain ⟨y, hy, ry⟩ := RelO.some_of (v := v) (o := mA n) (by rw [← l]; exact hr n)
  exact HandSPX.exc_get I1.kIn J T.ga T.gg T.exC (PySem.W.findObj_own T.hdC hno rfl (by rw [hl, hy])) (handed_of ry) ⟨v, H1, I1.tok _, ry, q⟩
theorem pe_oexV {CX : CXT} {x : Str} {C fI : Addr} {k : Nat} {fd : FuncData} {ps : List Str} {sp : Sp} {ds : List Value} {dvs : List V} (T : OexC X.K C) (iC : PySem.W.findIn X.K (.ref C) "__init__" = some (some (.ref fI))) (tI : PySem.W.typeIn X.K (.ref fI) = some (.type "function"))
    (F1 : FnOk X.prog X.w X.K X.mg X.base CX k fI fd ps sp) (hr : Room (k + 1) X.A) (hb : Binds X.K fd ps ds) (hd : Vals dvs ds) (hx : Passes CX X (fun _ _ _ => False)) (hg : Gl X x) (hm : X.mg x = some (.ref C)) (ha : PA X (e :: es) ta)
    (hdb : (x == ("__debug__" : Str)) = false := by decide) (he : starEach (e :: es) X.env = (false, eval e X.env) :: starEach es X.env := by rfl) (hpl : (backTo pos (starEach es X.env)).any (·.1) = false := by rfl) :
    PE X (.Call (.Name x p) (e :: es) [] pos) (tMkV C sp dvs ta) := by
  refine ⟨fun pins s σ H Q I h => ?_⟩
  obtain ⟨nm, q, N, bs, bm, sn, sub, ab, col, dd, k0, k1, k2, k3, k5, hC, hbm⟩ := T.cls
  refine wpAny_Call_Name_kw (ld_glob I hg hm ?_ hdb)
  refine PySem.W.callWith_K (h₀ := X.base) I.ok.mod.kin T.kC (thn (ha.run pos pins s σ H _ I h) fun us s1 ⟨vs, H1, I1, r1, hz, q1⟩ => ⟨I1.kIn, ?_⟩) he hpl
  show wpAny _ _ (call (.ref C) us) _ _ _
  obtain ⟨hp, g, dr, tk, os⟩ := s1
  have hsz : hp.objs.size ≤ hp.objs.size + 1 := Nat.le_succ _
  have hn : H1 (hp.objs.size + 1) = none := I1.hok.fresh hsz
  have hq := q1 (hp.objs.size + 1) hn
  have kk : ∀ b o, hp.get? b = some o → ((hp.push (PySem.W.kdv_tup us)).push (PySem.HandSPX.excO C hp.objs.size)).get? b = some o := fun b o e => Heap.get?_push_of_some _ (Heap.get?_push_of_some _ e)
  have hget : ((hp.push (PySem.W.kdv_tup us)).push (PySem.HandSPX.excO C hp.objs.size)).get? (hp.objs.size + 1) = some (PySem.HandSPX.excO C hp.objs.size) := by heap_get
  have I2 : Inv X pins σ (upd H1 (hp.objs.size + 1) (exo (hp.objs.size + 1) C none)) ⟨(hp.push (PySem.W.kdv_tup us)).push (PySem.HandSPX.excO C hp.objs.size), g, dr, tk, os⟩ :=
    I1.laid (t' := tk) (a := hp.objs.size + 1) (o := exo (hp.objs.size + 1) C none) (h' := (hp.push (PySem.W.kdv_tup us)).push (PySem.HandSPX.excO C hp.objs.size)) kk hsz (exo_ok hget)
  have r2 : Vals (V.ref (hp.objs.size + 1) :: (vs ++ dvs)) (Value.ref (hp.objs.size + 1) :: (us ++ ds)) := .cons rfl (r1.append hd)
  have hl : (Value.ref (hp.objs.size + 1) :: us ++ ds).length = ps.length := by
    have e := r2.length
    rw [F1.len _ _ _ _ hq] at e
    exact e.symm
  have hus : us.length ≤ sizeLine := by
    rw [← Paired.length r1, sizeLine_eq]
    omega
  refine wpAny_call (PySem.HandSPX.call_own F.excBase_ValueError (fun Y => PySem.HandSPX.refsVE_contains Y bm hbm) (I1.kIn _ _ hC) (PySem.W.looks_findIn I1.kIn iC) (fun self => PySem.W.bind_fn I1.kIn self tI) hus
    (codeAny_mono (F1.run _ X.stack _ _ ⟨Value.ref (hp.objs.size + 1) :: us, []⟩ (Value.ref (hp.objs.size + 1) :: (us ++ ds)) _ _ (fun _ _ _ => False) (hr.make C us []) (I2.env0.make C us []) (hb _ (Value.ref (hp.objs.size + 1) :: us) I2.kIn hl) r2 hq) fun r s' hq' => ?_))
  cases r with
  | error er => exact hx pins σ _ _ er s' I2 hq'
  | ok fl =>
    cases fl with
    | ret u =>
      obtain ⟨v, H2, os2, bare2, un2, hok2, rv, ev, q2⟩ := hq'
      subst ev
      exact ⟨rv, ⟨.ref (hp.objs.size + 1), H2, I2.call' (ch := []) os2 un2 hok2 bare2 (fun b z => absurd z (by simp)), rfl, q2⟩⟩
    | next => exact False.elim hq'
    | brk => exact False.elim hq'
    | cont => exact False.elim hq'
theorem pe_oexV0 {C : Addr} {bmB : List Value} {B newId initId : String} {x : Str} (F : ExcBaseFacts B newId initId bmB) (q : PySem.W.excIn X.K C bmB newId = true) (gC : X.mg x = some (.ref C)) (kC : PySem.W.keepIn X.K (.ref C) = true) (hg : Gl X x) (hdb : (x == ("__debug__" : Str)) = false := by decide) :
    PE X (.Call (.Name x p) [] [] pos) (tMkV0 C) := by
  refine ⟨fun pins s σ H Q I h => ?_⟩
  refine wpAny_Call_Name_kw (ld_glob I hg gC ?_ hdb)
  refine PySem.W.callWith_K0 I.kIn kC ?_
  show wpAny _ _ (call (.ref C) []) _ _ _
  obtain ⟨bm, N, nm, qn, bs, hdct, sn, sub, ab, col, dd, k0, k1, k2, k3, k5, mN, hC, hN, hni, T⟩ := exc_obj I.kIn q
  refine wpAny_call_exc_subT F T hC hN hni (fun h' a hm => ?_) (by show 0 ≤ sizeLine; rw [sizeLine_eq]; omega)
  have hn : H a = none := I.hok.gone hm.new
  obtain ⟨t, ht, _, _⟩ := hm.there
  exact ⟨.ref a, upd H a (ExO (.ref C) a), I.laidN hm.keeps hm.new hn (exO_ok ht ⟨rfl, rfl⟩ rfl rfl rfl (show 4 < 6 by decide)), rfl, h a hn⟩
end
end NX

-- UNFINISHED: the law: the derivation is accepted; three holes: the two after rNeD of a line (shaped; then the choice of join or "-", and fin), and what follows the lines in a lap
set_option Elab.async false
set_option linter.all false
set_option maxRecDepth 100000
set_option maxHeartbeats 16000000
namespace K95
open PySem L2 NX LamX
abbrev sLaw : Stmt := top 32
abbrev NLaw : List Str := ["_law_script", "_law_pen_here", "_law_odd", "_law_lap", "_law_lines", "_law_at", "_law_some", "_law_spot", "_law_wording", "_law_count", "_law_thing", "_law_due", "_law_made", "_law_told"]
theorem scLaw : FnScope NLaw ["_law_script"] (defScope sLaw) := ⟨rfl, rfl, rfl, by decide +kernel, rfl, by decide +kernel, by decide +kernel⟩
theorem L2passOf {X : Cx} {E : XK} (tk : Takes X (fun cls d _ H => E cls d H)) : Passes (CX X.prog X.w) X E := fun pins σ H s e s' I h => passAt tk σ pins H s e s' I h
theorem tabsDrawn {TT : List (Addr × Str)} {H H' : Hp} {p c : Addr} {ns : List Int} {r s n m : Int} (t : Tabs TT H) (P : Pen H p c ns r s n) (d : Drawn H p c m H') : Tabs TT H' := fun e he => by
  obtain ⟨_, _, _, _, _, _, B⟩ := d
  obtain ⟨ps, a, b, k⟩ := t e he
  refine ⟨ps, B _ _ a (fun z => by rw [z, P.hp] at a; cases a) (fun z => by rw [z, P.hc] at a; cases a), b, fun pos cv hc => ?_⟩
  obtain ⟨c', e1, e2⟩ := k pos cv hc
  exact ⟨c', e1, B _ _ e2 (fun z => by rw [z, P.hp] at e2; unfold CodeO at e2; cases e2) (fun z => by rw [z, P.hc] at e2; unfold CodeO at e2; cases e2)⟩
/-- the pen at p with its cells at c, at most B draws made, and the lambdas' tables -/
structure LawI (TT : List (Addr × Str)) (p c : Addr) (B : Int) (H : Hp) : Prop where
  pen : ∃ ns r s n, Pen H p c ns r s n ∧ n ≤ B
  tab : Tabs TT H
theorem LawI.ext {TT : List (Addr × Str)} {p c : Addr} {B : Int} {H H' : Hp} (h : LawI TT p c B H) (s : ExtN H H') (t : Tabs TT H') : LawI TT p c B H' := by
  obtain ⟨ns, r, sd, n, P, ha⟩ := h.pen
  exact ⟨⟨ns, r, sd, n, ⟨s _ _ P.hp (by intro p e; cases e), s _ _ P.hc (by intro p e; cases e), P.lr, P.ls, P.lt, P.ln⟩, ha⟩, t⟩
theorem LawI.same {TT : List (Addr × Str)} {p c : Addr} {B : Int} {H H' : Hp} (h : LawI TT p c B H) (s : Same H H') : LawI TT p c B H' := h.ext (ExtN.of s) (h.tab.ext s)
theorem LawI.drawn {TT : List (Addr × Str)} {p c : Addr} {B m : Int} {H H' : Hp} (h : LawI TT p c B H) (d : Drawn H p c m H') : LawI TT p c m H' := by
  obtain ⟨ns, r, sd, n, P, ha⟩ := h.pen
  obtain ⟨ns2, r2, s2, n2, P2, h2, B2⟩ := id d
  exact ⟨⟨ns2, r2, s2, n2, P2, h2⟩, tabsDrawn h.tab P d⟩
theorem LawI.mono {TT : List (Addr × Str)} {p c : Addr} {B B' : Int} {H : Hp} (h : LawI TT p c B H) (hb : B ≤ B') : LawI TT p c B' H := by
  obtain ⟨ns, r, sd, n, P, ha⟩ := h.pen
  exact ⟨⟨ns, r, sd, n, P, Int.le_trans ha hb⟩, h.tab⟩
theorem tabsPut {TT : List (Addr × Str)} {H : Hp} {l : Addr} {xs ys : List V} (t : Tabs TT H) (h : H l = some (.lst xs)) : Tabs TT (upd H l (.lst ys)) := fun e he => by
  obtain ⟨ps, a, b, k⟩ := t e he
  refine ⟨ps, (upd_ne (fun z => by rw [z, h] at a; cases a)).trans a, b, fun pos cv hc => ?_⟩
  obtain ⟨c', e1, e2⟩ := k pos cv hc
  exact ⟨c', e1, (upd_ne (fun z => by rw [z, h] at e2; unfold CodeO at e2; cases e2)).trans e2⟩
theorem LawI.put {TT : List (Addr × Str)} {p c : Addr} {B : Int} {H : Hp} {l : Addr} {xs ys : List V} (h : LawI TT p c B H) (hl : H l = some (.lst xs)) (np : l ≠ p) (nc : l ≠ c) : LawI TT p c B (upd H l (.lst ys)) := by
  obtain ⟨ns, r, sd, n, P, ha⟩ := h.pen
  exact ⟨⟨ns, r, sd, n, ⟨(upd_ne np.symm).trans P.hp, (upd_ne nc.symm).trans P.hc, P.lr, P.ls, P.lt, P.ln⟩, ha⟩, tabsPut h.tab hl⟩
theorem dpTxts {K : PySem.W.Frag} {H : Hp} : ∀ l : List Str, DpAll K H (l.map V.str) (l.map PyData.str)
  | [] => .nil
  | z :: r => .cons (.str z) (dpTxts r)
theorem strOkC {a : Str} (h : okS a) : PyData.strOk a = true := by
  show a.cps.all (fun x => decide (x < 1114112)) = true
  rw [← Array.all_toList, List.all_eq_true]
  exact fun c hc => decide_eq_true (Nat.lt_trans (h c hc) (by decide))
theorem layTxts : ∀ l : List Str, (∀ t ∈ l, okS t) → PyData.canLayAll0 (l.map PyData.str) = true
  | [], _ => rfl
  | a :: r, h => by
    rw [List.map_cons, PyData.canLayAll0.eq_2, PyData.canLay0.eq_4, layTxts r (fun c hc => h c (List.mem_cons_of_mem _ hc)), Bool.and_true]
    exact strOkC (h a List.mem_cons_self)
theorem depTxts : ∀ l : List Str, PyData.depthAll (l.map PyData.str) = 0
  | [] => rfl
  | a :: r => by
    rw [List.map_cons, PyData.depthAll.eq_2, depTxts r]
    rfl
theorem shapedTxts (l : List Str) (h : ∀ t ∈ l, okS t) : SeqAt.shaped (.list (l.map PyData.str)) = true := by
  unfold SeqAt.shaped
  rw [PyData.canLay0.eq_5, layTxts l h, PyData.depth.eq_def]
  show (true && decide (PyData.depthAll _ + 1 ≤ 64)) = true
  rw [depTxts]
  rfl
theorem sumLe {b : Nat} : ∀ ts : List Str, (∀ t ∈ ts, t.length ≤ b) → (ts.map (·.length)).sum ≤ b * ts.length
  | [], _ => Nat.le_refl _
  | a :: r, h => by
    have := sumLe r fun t ht => h t (List.mem_cons_of_mem _ ht)
    have := h a List.mem_cons_self
    rw [List.map_cons, List.sum_cons, List.length_cons, Nat.mul_add]
    omega
theorem joinSum (s : Str) : ∀ (a : Str) (r : List Str), (Str.join s (a :: r)).length = ((a :: r).map (·.length)).sum + r.length * s.length
  | a, [] => by show a.length = _; simp
  | a, b :: r => by
    have ih := joinSum s b r
    show (a ++ s ++ Str.join s (b :: r)).length = _
    rw [Str.length_append, Str.length_append, ih]
    simp only [List.map_cons, List.sum_cons, List.length_cons, Nat.add_mul, Nat.one_mul]
    omega
theorem ok_of {z : Str} (h : z.cps.toList.all (· < 256) = true) : okS z := fun ch hc => by simpa using List.all_eq_true.mp h ch hc
/-- the words that may spoil a text -/
def oddT : List Str := ["", "a", "a,", "a,,", ",", "load", "load,", "again", "store", "forget", "-", "-,", "A", "toolong", "use"]
theorem odd_all : oddT.all (fun z => decide (z.length ≤ 10) && z.cps.toList.all (· < 256)) = true := by decide +kernel
theorem odd_ok : ∀ z ∈ oddT, z.length ≤ 10 ∧ okS z := fun z h => by
  have q := List.all_eq_true.mp odd_all z h
  rw [Bool.and_eq_true, decide_eq_true_eq] at q
  exact ⟨q.1, ok_of q.2⟩
def spLaw (K : PySem.W.Frag) (TT : List (Addr × Str)) : Sp := fun vs H Q _ => ∃ (a : Addr) (ns : List Int), vs = [.ref a] ∧ SqL K H a (ns.map V.int) ∧ Tabs TT H ∧ ∀ H', Q (.bl true) H'
section
variable {P : Program} {w : World} {K : PySem.W.Frag} {mg : Str → Option Value} {base : Heap}
theorem ok_law {m : M4} {CS CT fT fRP fH : Addr} {fdRP fdH : FuncData} {f cc Pc : Addr} {fd : FuncData} {TT : List (Addr × Str)} (F : FunC K "law" sLaw f fd cc) (T : TxtB mg) (E : KErr K mg CS CT) (B : ErrT P w K mg base CT fT) (hkS : PySem.W.kitOne K (.ref CT) (.ref CS) = some true)
    (FRP : FnOk P w K mg base (L2.CX P w) 11 fRP fdRP ["text"] (spRP K m CT)) (gRP : mg "read_plan" = some (.ref fRP)) (kRP : PySem.W.keepIn K (.ref fRP) = true) (hbRP : Binds K fdRP ["text"] [])
    (FH : Fun K "_law_heard" "_law_heard" sHeard fH fdH) (gH : mg "_law_heard" = some (.ref fH)) (hbH : Binds K fdH ["_law_ask"] []) (S : SysB base) (cShow : C8.Cal P w K mg base 5 "show_plan" (spShow K m) [])
    (cPen : C8.Cal P w K mg base 1 "_law_pen" (spPen K) []) (cDraw : C8.Cal P w K mg base 1 "_law_draw" spDraw []) (cPick : C8.Cal P w K mg base 2 "_law_pick" (spPick K) []) (cBent : C8.Cal P w K mg base 3 "_law_bent" (spBe K) []) (cFault : C8.Cal P w K mg base 5 "_law_fault" (spFa K) [])
    (TB : TabB base mg cc Pc) (hmT : (Pc, Str.ofString "law.<locals>.<lambda>") ∈ TT) (hu2 : ∀ p ∈ TT, p.1 = Pc → p.2 = Str.ofString "law.<locals>.<lambda>") : FnG P w K mg base 15 f fd ["_law_script"] (spLaw K TT) := by
  obtain ⟨oc, od, kV, doc, pm, an, ct, osl, rfl, lk, hcd⟩ := F.ex
  obtain ⟨ocH, odH, kVH, docH, pmH, anH, cdvH, ctH, oslH, rfl, lkH, hcH⟩ := FH.ex
  obtain ⟨fde, Fe, hbe⟩ := B.ok
  refine ⟨fun vs H Q E h => ?_, fun A st s H args us vs Q gd hr0 e0 hb rv h => ?_⟩
  · obtain ⟨a, ns, rfl, _⟩ := h
    rfl
  · obtain ⟨a, ns, rfl, hS, hTb, k⟩ := h
    refine run_ofS (k := 14) (N := NLaw) (ps := ["_law_script"]) lk hcd scLaw hr0 e0 hb rv rfl fun hr => ?_
    have gd : (A.deeper (PyProof.Rows.envOfC "law" (defScope sLaw) s.heap.objs.size f (.ref cc))).guards = some [] := gd
    refine ⟨_, PSs.nox (pss_cons (ps_set (i := 1) scLaw.nd rfl (Or.inl rfl) (C8.pe_c cPen hr (by decide) rfl (pa_cons (pv 0) pa_nil)))
      (pss_cons (ps_set (i := 2) scLaw.nd rfl (Or.inl rfl) (pe_lst (pa_cons pe_str (pa_cons pe_str (pa_cons pe_str (pa_cons pe_str (pa_cons pe_str (pa_cons pe_str (pa_cons pe_str (pa_cons pe_str (pa_cons pe_str (pa_cons pe_str (pa_cons pe_str (pa_cons pe_str (pa_cons pe_str (pa_cons pe_str (pa_cons pe_str pa_nil)))))))))))))))))
      (pss_cons (ps_for PassesOwn.never rfl (pi_range1 (by rfl) T.brange (pa_cons pe_int pa_nil)) (pg_name (i := 3) scLaw.nd rfl (Or.inl rfl)) (pss_cons (ps_set (i := 4) scLaw.nd rfl (Or.inl rfl) (pe_lst pa_nil))
      (pss_cons (ps_for PassesOwn.never rfl (pi_range1 (by rfl) T.brange (pa_cons (pe_op op_add pe_int (C8.pe_c cDraw hr (by decide) rfl (pa_cons (pv 1) (pa_cons pe_int pa_nil)))) pa_nil)) (pg_name (i := 5) scLaw.nd rfl (Or.inl rfl)) (pss_cons (ps_set (i := 6) scLaw.nd rfl (Or.inl rfl) (pe_lst pa_nil))
      (pss_cons (ps_for PassesOwn.never rfl (pi_range1 (by rfl) T.brange (pa_cons (C8.pe_c cDraw hr (by decide) rfl (pa_cons (pv 1) (pa_cons pe_int pa_nil))) pa_nil)) (pg_name (i := 7) scLaw.nd rfl (Or.inl rfl)) (pss_one (ps_expr (pe_bm PySem.F.plainAttrs_list PySem.F.slot_list_append PySem.F.type_list_append mt_append (pv 6) (pa_cons (C8.pe_c cPick hr (by decide) rfl (pa_cons (pv 1) (pa_cons (pe_lst (pa_cons pe_str (pa_cons pe_str (pa_cons pe_str (pa_cons pe_str pa_nil))))) pa_nil))) pa_nil)))))
      (pss_one (ps_expr (pe_bm PySem.F.plainAttrs_list PySem.F.slot_list_append PySem.F.type_list_append mt_append (pv 4) (pa_cons (pe_ifExp (pt_cmpR (op_neD hr.units) (pv 6) (pe_lst pa_nil) (nomark _)) (pe_join pe_str (pv 6)) pe_str) pa_nil)))))))
      (pss_cons (ps_set (i := 8) scLaw.nd rfl (Or.inl rfl) (pe_join pe_str (pv 4)))
      (pss_cons (ps_for PassesOwn.never rfl (pi_range1 (by rfl) T.brange (pa_cons (pe_op op_add pe_int (C8.pe_c cDraw hr (by decide) rfl (pa_cons (pv 1) (pa_cons pe_int pa_nil)))) pa_nil)) (pg_name (i := 9) scLaw.nd rfl (Or.inl rfl)) (pss_one (ps_set (i := 8) scLaw.nd rfl (Or.inl rfl) (C8.pe_c cBent hr (by decide) rfl (pa_cons (pv 1) (pa_cons (pv 8) (pa_cons (pv 2) pa_nil)))))))
      (pss_cons (ps_set (i := 10) scLaw.nd rfl (Or.inl rfl) (C8.pe_c cPick hr (by decide) rfl (pa_cons (pv 1) (pa_cons (pe_lst (pa_cons pe_non (pa_cons pe_int (pa_cons pe_bl (pa_cons (pe_lst (pa_cons (pe_lst (pa_cons pe_str pa_nil)) pa_nil)) (pa_cons pe_str (pa_cons pe_str (pa_cons pe_str (pa_cons pe_str (pa_cons pe_str (pa_cons pe_str pa_nil))))))))))) pa_nil))))
      (pss_one (ps_for PassesOwn.never rfl (pi_list (pe_lst (pa_cons (pv 8) (pa_cons (pv 10) pa_nil)))) (pg_name (i := 13) scLaw.nd rfl (Or.inr rfl)) (pss_cons (ps_set (i := 11) scLaw.nd rfl (Or.inl rfl) (C8.pe_c cFault hr (by decide) rfl (pa_cons (pv 13) pa_nil)))
      (pss_one (ps_if (pt_cmpR op_ne (pe_callB (call_reprD gd hr.units S) (by rfl) T.brepr (by decide +kernel) (pa_cons (pe_lamcall (T := TT) (TT := THeard K m CT) (c := cc) (P := Pc) (Ng := NHeard) (a := "_law_ask") (t := fun E => tCallS (spRP K m CT) (fun _ => E) (tCons (tVar 13) tNil)) rfl gH FH.kp lkH hcH hbH scHeard rfl (Or.inl rfl) (heard_gives (hr.mono (by decide)) T E cShow) TB rfl hmT hu2 (k := 11) (hr.mono (by decide)) (lamS_by (sc := defScope sLaw) (by decide +kernel)) rfl (fun _ _ _ _ _ => rfl) (fun A outer s H E f c2 hr2 => pe_callS (CX := L2.CX P w) (E := fun _ => E) FRP hr2 rfl gRP kRP hbRP (fun σ pins H s e s' I h => L2passOf (takes_of rfl rfl rfl rfl) pins σ H s e s' I h) (pa_cons (pv 13) pa_nil))) pa_nil)) (pe_callB (call_reprD gd hr.units S) (by rfl) T.brepr (by decide +kernel) (pa_cons (pe_ifExp (pt_cmpR op_isN (pv 11) pe_non (nomark _)) (pv 13) (pv 11)) pa_nil)) (nomark _)) (pss_one (ps_ret pe_bl)) pss_nil)))))))))))
      (pss_cons (ps_set (i := 12) scLaw.nd rfl (Or.inl rfl) (NX.pe_oexV B.O B.i B.t Fe (hr.mono (by decide)) hbe .nil pass0 rfl B.g (pa_cons pe_int (pa_cons pe_int pa_nil))))
      (pss_one (ps_ret (pe_and (pe_cmpR (op_eqD hr.units) (pe_tup (pa_cons (pe_erF (pv 12)) (pa_cons (pe_erF (pv 12)) pa_nil))) (pe_tup (pa_cons pe_int (pa_cons pe_int pa_nil))) (nomark _)) (pe_one (pe_callB call_isEr (by rfl) T.bisinstance (by decide +kernel) (pa_cons (pv 12) (pa_cons (C8.pe_gc (v := .ref CS) rfl ⟨_, E.gS, rfl⟩) pa_nil))))))))))), ?_⟩
    refine ⟨_, rfl, a, ns, rfl, hS, fun p c1 ms H1 hp hc1 P1 s1 => ?_⟩
    have I1 : LawI TT p c1 0 H1 := ⟨⟨ms, 0, 29, 0, P1, Int.le_refl _⟩, hTb.ext s1⟩
    clear hp hc1 P1 s1
    refine ⟨by show 15 ≤ sizeLine; decide, fun O hO => ?_⟩
    obtain ⟨_, _, _, _, P1, _⟩ := id I1.pen
    have nOp : O ≠ p := fun e => by rw [e, P1.hp] at hO; cases hO
    have nOc : O ≠ c1 := fun e => by rw [e, P1.hc] at hO; cases hO
    have I2 := I1.same (Same.new (o := .lst [.str "", .str "a", .str "a,", .str "a,,", .str ",", .str "load", .str "load,", .str "again", .str "store", .str "forget", .str "-", .str "-,", .str "A", .str "toolong", .str "use"]) hO)
    have gO : (upd H1 O (.lst [.str "", .str "a", .str "a,", .str "a,,", .str ",", .str "load", .str "load,", .str "again", .str "store", .str "forget", .str "-", .str "-,", .str "A", .str "toolong", .str "use"])) O = some (.lst (oddT.map V.str)) := upd_same
    clear P1
    refine ⟨10, rfl, by decide, by decide, ?_⟩
    refine for_range (n := 10) (fun i σ H' => ∃ x3 x4 x5 x6 x7 x8 x9 x10 x11 x12 x13, σ = [some (.ref a), some (.ref p), some (.ref O), x3, x4, x5, x6, x7, x8, x9, x10, x11, x12, x13] ∧ LawI TT p c1 (50 * i) H' ∧ H' O = some (.lst (oddT.map V.str))) ?_ ?_ ?_
    · exact ⟨_, _, _, _, _, _, _, _, _, _, _, rfl, I2, gO⟩
    · rintro i σ H2 hi ⟨x3, x4, x5, x6, x7, x8, x9, x10, x11, x12, x13, rfl, I3, gO3⟩
      have hi10 : (i : Int) < 10 := by omega
      refine ⟨by show 0 ≤ sizeLine; decide, fun L hL => ?_⟩
      obtain ⟨ns3, r3, s3, n3, P3, hn3⟩ := id I3.pen
      have nLp : L ≠ p := fun e => by rw [e, P3.hp] at hL; cases hL
      have nLc : L ≠ c1 := fun e => by rw [e, P3.hc] at hL; cases hL
      have nLO : L ≠ O := fun e => by rw [e, gO3] at hL; cases hL
      have I4 := I3.same (Same.new (o := .lst []) hL)
      have gO4 := (Same.new (o := .lst []) hL) _ _ gO3
      have gL4 : (upd H2 L (.lst [])) L = some (.lst (([] : List Str).map V.str)) := upd_same
      clear hL P3 hn3 I3 gO3
      generalize (upd H2 L (.lst [])) = H4 at *
      obtain ⟨ns4, r4, s4, n4, P4, hn4⟩ := id I4.pen
      refine ⟨_, rfl, p, c1, ns4, r4, s4, n4, 4, rfl, P4, by omega, by decide, by decide, fun d H5 d0 d4 hd => ?_⟩
      have I5 : LawI TT p c1 (50 * i + 1) H5 := (I4.drawn hd).mono (by omega)
      have K5 : But p c1 H4 H5 := (let ⟨_, _, _, _, _, _, b⟩ := hd; b)
      have gO5 := K5 _ _ gO4 nOp nOc
      have gL5 := K5 _ _ gL4 nLp nLc
      clear I4 gO4 gL4 P4 hn4 hd K5
      obtain ⟨dn, rfl⟩ := Int.eq_ofNat_of_zero_le d0
      refine ⟨_, _, rfl, rfl, _, rfl, by omega, by omega, ?_⟩
      have et : ((1 : Int) + (dn : Int)).toNat = 1 + dn := by omega
      rw [et]
      refine for_range (n := 1 + dn) (fun j σ H' => ∃ x5 x6 x7, ∃ rows : List Str, σ = [some (.ref a), some (.ref p), some (.ref O), some (.int (0 + (i : Int))), some (.ref L), x5, x6, x7, x8, x9, x10, x11, x12, x13] ∧ LawI TT p c1 (50 * i + 1 + 4 * j) H' ∧ H' O = some (.lst (oddT.map V.str)) ∧ H' L = some (.lst (rows.map V.str)) ∧ rows.length = j ∧ ∀ t ∈ rows, okS t ∧ t.length ≤ 43) ?_ ?_ ?_
      · exact ⟨x5, x6, x7, [], rfl, I5.mono (by omega), gO5, gL5, rfl, fun t ht => nomatch ht⟩
      · rintro j σ H6 hj ⟨x5, x6, x7, rows, rfl, I6, gO6, gL6, hr6, hro⟩
        have hj4 : (j : Int) < 4 := by omega
        refine ⟨by show 0 ≤ sizeLine; decide, fun S hS6 => ?_⟩
        obtain ⟨ns6, r6, s6, n6, P6, hn6⟩ := id I6.pen
        have nSp : S ≠ p := fun e => by rw [e, P6.hp] at hS6; cases hS6
        have nSc : S ≠ c1 := fun e => by rw [e, P6.hc] at hS6; cases hS6
        have nSO : S ≠ O := fun e => by rw [e, gO6] at hS6; cases hS6
        have nSL : S ≠ L := fun e => by rw [e, gL6] at hS6; cases hS6
        have I7 := I6.same (Same.new (o := .lst []) hS6)
        have gO7 := (Same.new (o := .lst []) hS6) _ _ gO6
        have gL7 := (Same.new (o := .lst []) hS6) _ _ gL6
        have gS7 : (upd H6 S (.lst [])) S = some (.lst (([] : List Str).map V.str)) := upd_same
        clear hS6 P6 hn6 I6 gO6 gL6
        generalize (upd H6 S (.lst [])) = H7 at *
        obtain ⟨ns7, r7, s7, n7, P7, hn7⟩ := id I7.pen
        refine ⟨_, rfl, p, c1, ns7, r7, s7, n7, 4, rfl, P7, by omega, by decide, by decide, fun d2 H8 d20 d24 hd => ?_⟩
        have I8 : LawI TT p c1 (50 * i + 1 + 4 * j + 1) H8 := (I7.drawn hd).mono (by omega)
        have K8 : But p c1 H7 H8 := (let ⟨_, _, _, _, _, _, b⟩ := hd; b)
        have gO8 := K8 _ _ gO7 nOp nOc
        have gL8 := K8 _ _ gL7 nLp nLc
        have gS8 := K8 _ _ gS7 nSp nSc
        clear I7 gO7 gL7 gS7 P7 hn7 hd K8
        obtain ⟨dm, rfl⟩ := Int.eq_ofNat_of_zero_le d20
        refine ⟨_, rfl, by omega, by omega, ?_⟩
        have et2 : ((dm : Int)).toNat = dm := Int.toNat_natCast dm
        rw [et2]
        refine for_range (n := dm) (fun q σ H' => ∃ x7, ∃ its : List Str, σ = [some (.ref a), some (.ref p), some (.ref O), some (.int (0 + (i : Int))), some (.ref L), some (.int (0 + (j : Int))), some (.ref S), x7, x8, x9, x10, x11, x12, x13] ∧ LawI TT p c1 (50 * i + 1 + 4 * j + 1 + q) H' ∧ H' O = some (.lst (oddT.map V.str)) ∧ H' L = some (.lst (rows.map V.str)) ∧ H' S = some (.lst (its.map V.str)) ∧ its.length = q ∧ ∀ t ∈ its, okS t ∧ t.length ≤ 13) ?_ ?_ ?_
        · exact ⟨x7, [], rfl, I8.mono (by omega), gO8, gL8, gS8, rfl, fun t ht => nomatch ht⟩
        · rintro q σ H9 hq ⟨x7, its, rfl, I9, gO9, gL9, gS9, hq9, hit⟩
          refine ⟨_, rfl, .inl ⟨rfl, _, SqL.of gS9⟩, _, rfl, by show 4 ≤ sizeLine; decide, fun w1 hw1 => ?_⟩
          obtain ⟨ns9, r9, s9, n9, P9, hn9⟩ := id I9.pen
          have nwp : w1 ≠ p := fun e => by rw [e, P9.hp] at hw1; cases hw1
          have nwc : w1 ≠ c1 := fun e => by rw [e, P9.hc] at hw1; cases hw1
          have e9 := Same.new (o := .lst [.str "load a", .str "again b", .str "store load", .str "forget zzzzzz"]) hw1
          refine ⟨p, c1, ns9, r9, s9, n9, w1, _, rfl, P9.same e9, by omega, SqL.of upd_same, nwp, nwc, by show 0 < 4; decide, by show 4 < 1000; decide, fun v H10 hv hd => ?_⟩
          have I10 : LawI TT p c1 (50 * i + 1 + 4 * j + 1 + (q + 1 : Nat)) H10 := ((I9.same e9).drawn hd).mono (by omega)
          have K10 : But p c1 H9 H10 := (But.same e9).trans (let ⟨_, _, _, _, _, _, b⟩ := hd; b)
          have gO10 := K10 _ _ gO9 nOp nOc
          have gL10 := K10 _ _ gL9 nLp nLc
          have gS10 := K10 _ _ gS9 nSp nSc
          obtain ⟨wd, rfl, wok, wl⟩ : ∃ wd, v = .str wd ∧ okS wd ∧ wd.length ≤ 13 := by
            have key : ∀ sg : Str, decide (sg.length ≤ 13) = true → sg.cps.toList.all (· < 256) = true → V.str sg = v → ∃ wd, v = .str wd ∧ okS wd ∧ wd.length ≤ 13 := fun sg a b e => ⟨sg, e.symm, fun ch hc => by simpa using List.all_eq_true.mp b ch hc, of_decide_eq_true a⟩
            simp only [List.mem_cons, List.not_mem_nil, or_false] at hv
            rcases hv with h | h | h | h <;> exact key _ (by decide +kernel) (by decide +kernel) h.symm
          refine ⟨S, _, _, rfl, rfl, gS10, by rw [List.length_map]; exact Nat.lt_of_lt_of_le (by omega) (show 100 ≤ sizeLine by decide), ?_⟩
          refine ⟨_, its ++ [wd], rfl, I10.put gS10 nSp nSc, (upd_ne (Ne.symm nSO)).trans gO10, (upd_ne (Ne.symm nSL)).trans gL10, upd_same.trans (by rw [List.map_append]; rfl), by rw [List.length_append, hq9]; rfl, fun t ht => ?_⟩
          rcases List.mem_append.mp ht with h | h
          · exact hit t h
          · rw [List.mem_singleton.mp h]
            exact ⟨wok, wl⟩
        · rintro σ H9 ⟨x7, its, rfl, I9, gO9, gL9, gS9, hq9, hit⟩
          have its4 : its.length < 4 := by omega
          have fin : ∀ (row : Str) (G : Hp), Same H9 G → okS row → row.length ≤ 43 → ∃ y5 y6 y7, ∃ rows2 : List Str, [some (.ref a), some (.ref p), some (.ref O), some (.int (0 + (i : Int))), some (.ref L), some (.int (0 + (j : Int))), some (.ref S), x7, x8, x9, x10, x11, x12, x13] = [some (V.ref a), some (.ref p), some (.ref O), some (.int (0 + (i : Int))), some (.ref L), y5, y6, y7, x8, x9, x10, x11, x12, x13] ∧ LawI TT p c1 (50 * i + 1 + 4 * (j + 1 : Nat)) (upd G L (.lst (rows.map V.str ++ [.str row]))) ∧ (upd G L (.lst (rows.map V.str ++ [.str row]))) O = some (.lst (oddT.map V.str)) ∧ (upd G L (.lst (rows.map V.str ++ [.str row]))) L = some (.lst (rows2.map V.str)) ∧ rows2.length = j + 1 ∧ ∀ t ∈ rows2, okS t ∧ t.length ≤ 43 := by
            intro row G sG ro rl
            refine ⟨_, _, x7, rows ++ [row], rfl, ((I9.same sG).mono (by omega)).put (sG _ _ gL9) nLp nLc, (upd_ne (Ne.symm nLO)).trans (sG _ _ gO9), upd_same.trans (by rw [List.map_append]; rfl), by rw [List.length_append, hr6]; rfl, fun t ht => ?_⟩
            rcases List.mem_append.mp ht with h | h
            · exact hro t h
            · rw [List.mem_singleton.mp h]
              exact ⟨ro, rl⟩
          refine ⟨_, rfl, .inl ⟨rfl, _, SqL.of gL9⟩, _, rfl, by show 0 ≤ sizeLine; decide, fun z0 hz0 => ?_⟩
          have f9 := Same.new (o := .lst []) hz0
          refine ⟨_, _, .lst (SqL.of (f9 _ _ gS9)) (dpTxts its), .lst (SqL.of upd_same) .nil, shapedTxts its (fun t h => (hit t h).1), by decide +kernel, ?_⟩
          have rl4 : (rows.map V.str).length < sizeLine := by rw [List.length_map]; exact Nat.lt_of_lt_of_le (by omega) (show 100 ≤ sizeLine by decide)
          cases its with
          | nil =>
            refine ⟨false, rfl, iteF ⟨L, _, _, rfl, rfl, f9 _ _ gL9, rl4, ?_⟩⟩
            exact fin "-" _ f9 (ok_of (by decide +kernel)) (by decide)
          | cons t0 r0 =>
            have sm := sumLe (t0 :: r0) fun t h => (hit t h).2
            have js := joinSum ", " t0 r0
            have l2 : (", " : Str).length = 2 := by decide +kernel
            have l3 : r0.length + 1 < 4 := its4
            rw [List.length_cons] at sm
            rw [l2] at js
            refine ⟨true, rfl, iteT ⟨⟨_, rfl⟩, _, rfl, _, S, t0 :: r0, rfl, rfl, .inl (SqL.of (f9 _ _ gS9)), ?_, L, _, _, rfl, rfl, f9 _ _ gL9, rl4, ?_⟩⟩
            · rw [show (Str.ofString ", ").length = 2 from l2, List.length_cons]
              omega
            · rw [TL.join_eq]
              exact fin (Str.join (Str.ofString ", ") (t0 :: r0)) _ f9 (join_ok (ok_of (by decide +kernel)) fun t h => (hit t h).1) (by omega)
      · rintro σ H6 ⟨x5, x6, x7, rows, rfl, I6, gO6, gL6, hr6, hro⟩
        have hdn : dn < 4 := by omega
        obtain ⟨z, hz, okz, lz⟩ : ∃ z, z = Str.join (Str.ofString "\n") rows ∧ okS z ∧ z.length ≤ 175 := by
          refine ⟨_, rfl, join_ok (ok_of (by decide +kernel)) (fun t h => (hro t h).1), ?_⟩
          cases rows with
          | nil => rw [List.length_nil] at hr6; omega
          | cons t0 r0 =>
            have sm := sumLe (t0 :: r0) fun t h => (hro t h).2
            have js := joinSum "\n" t0 r0
            have l2 : ("\n" : Str).length = 1 := by decide +kernel
            rw [List.length_cons] at sm hr6
            rw [l2] at js
            show (Str.join "\n" (t0 :: r0)).length ≤ 175
            omega
        have sml := sumLe rows fun t h => (hro t h).2
        refine ⟨⟨_, rfl⟩, _, rfl, _, L, rows, rfl, rfl, .inl (SqL.of gL6), ?_, ?_⟩
        · rw [show (Str.ofString "\n").length = 1 from by decide +kernel]
          omega
        rw [TL.join_eq, ← hz]
        obtain ⟨ns6, r6, s6, n6, P6, hn6⟩ := id I6.pen
        refine ⟨_, rfl, p, c1, ns6, r6, s6, n6, 2, rfl, P6, by omega, by decide, by decide, fun d2 H7 d20 d24 hd => ?_⟩
        have I7 : LawI TT p c1 (50 * i + 18) H7 := (I6.drawn hd).mono (by omega)
        have gO7 := (let ⟨_, _, _, _, _, _, b⟩ := hd; b) _ _ gO6 nOp nOc
        clear I6 gO6 gL6 P6 hn6 hd sml
        obtain ⟨dk, rfl⟩ := Int.eq_ofNat_of_zero_le d20
        refine ⟨_, _, rfl, rfl, _, rfl, by omega, by omega, ?_⟩
        have et2 : ((1 : Int) + (dk : Int)).toNat = 1 + dk := by omega
        rw [et2]
        refine for_range (n := 1 + dk) (fun q σ H' => ∃ x9, ∃ z : Str, σ = [some (.ref a), some (.ref p), some (.ref O), some (.int (0 + (i : Int))), some (.ref L), x5, x6, x7, some (.str z), x9, x10, x11, x12, x13] ∧ LawI TT p c1 (50 * i + 18 + 10 * q) H' ∧ H' O = some (.lst (oddT.map V.str)) ∧ okS z ∧ z.length + 20 ≤ 195 * 2 ^ q) ?_ ?_ ?_
        · exact ⟨x9, z, rfl, I7.mono (by omega), gO7, okz, by omega⟩
        · rintro q σ H8 hq ⟨x9, z1, rfl, I8, gO8, ok1, l1⟩
          have q1 : q < 2 := by omega
          have l4 : z1.length ≤ 400 := by
            have : q = 0 ∨ q = 1 := by omega
            rcases this with rfl | rfl <;> omega
          obtain ⟨ns8, r8, s8, n8, P8, hn8⟩ := id I8.pen
          refine ⟨_, rfl, _, rfl, _, rfl, p, c1, ns8, r8, s8, n8, z1, O, oddT, rfl, P8, by omega, SqL.of gO8, nOp, nOc, by decide, by decide, odd_ok, l4, ok1, fun z2 H9 ok2 l2 hd => ?_⟩
          refine ⟨_, z2, rfl, (I8.drawn hd).mono (by omega), (let ⟨_, _, _, _, _, _, b⟩ := hd; b) _ _ gO8 nOp nOc, ok2, ?_⟩
          rw [Nat.pow_succ]
          omega
        · rintro σ H8 ⟨x9, z1, rfl, I8, gO8, ok1, l1⟩
          have dk2 : dk < 2 := by omega
          have l9 : z1.length ≤ 990 := by
            have : dk = 0 ∨ dk = 1 := by omega
            rcases this with rfl | rfl <;> omega
          have I8 : LawI TT p c1 (50 * i + 38) H8 := I8.mono (by omega)
          clear I7 gO7 l1 okz lz
          obtain ⟨ns8, r8, s8, n8, P8, hn8⟩ := id I8.pen
          refine ⟨_, rfl, by show 1 ≤ sizeLine; decide, fun a1 h1 => ⟨by show 1 ≤ sizeLine; decide, fun a2 h2 => ?_⟩⟩
          refine ⟨by show 10 ≤ sizeLine; decide, fun u1 hu1 => ?_⟩
          have t1 : Same H8 (upd H8 a1 (.lst [.str (Str.ofString "load a")])) := Same.new h1
          have t12 : Same (upd H8 a1 (.lst [.str (Str.ofString "load a")])) _ := Same.new (o := .lst [.ref a1]) h2
          have t2 := t1.trans t12
          have t23 : Same _ _ := Same.new (o := .lst [.non, .int 7, .bl true, .ref a2, .str (Str.ofString ""), .str (Str.ofString "\n"), .str (Str.ofString "-\n"), .str (Str.ofString "- -"), .str (Str.ofString "load a,"), .str (Str.ofString "load a store b")]) hu1
          have t3 := t2.trans t23
          have g1 := t23 _ _ (t12 _ _ (upd_same (H := H8) (a := a1) (o := .lst [.str (Str.ofString "load a")])))
          have g2 := t23 _ _ (upd_same (H := upd H8 a1 (.lst [.str (Str.ofString "load a")])) (a := a2) (o := .lst [.ref a1]))
          have n1p := (ne_of_none P8.hp h1).symm
          have n1c := (ne_of_none P8.hc h1).symm
          have n2p := (ne_of_none (P8.same t1).hp h2).symm
          have n2c := (ne_of_none (P8.same t1).hc h2).symm
          have nup := (ne_of_none (P8.same t2).hp hu1).symm
          have nuc := (ne_of_none (P8.same t2).hc hu1).symm
          refine ⟨p, c1, ns8, r8, s8, n8, u1, _, rfl, P8.same t3, by omega, SqL.of upd_same, nup, nuc, by show 0 < 10; decide, by show 10 < 1000; decide, fun v H9 hv hd => ?_⟩
          have I9 : LawI TT p c1 (50 * i + 39) H9 := ((I8.same t3).drawn hd).mono (by omega)
          have K9 := (let ⟨_, _, _, _, _, _, b⟩ := hd; b)
          have gO9 := K9 _ _ (t3 _ _ gO8) nOp nOc
          have g1 := K9 _ _ g1 n1p n1c
          have g2 := K9 _ _ g2 n2p n2c
          have tv : Th H9 v := by
            simp only [List.mem_cons, List.not_mem_nil, or_false] at hv
            rcases hv with rfl | rfl | rfl | rfl | rfl | rfl | rfl | rfl | rfl | rfl
            · exact .non
            · exact .i7
            · exact .tr
            · exact .lst g2 g1
            all_goals exact .tx (ok_of (by decide +kernel)) (by decide +kernel)
          clear g1 g2 hv hd K9 I8 gO8 P8 hn8 t1 t12 t2 t23 t3 h1 h2 hu1 n1p n1c n2p n2c nup nuc
          refine ⟨_, rfl, _, rfl, by show 2 ≤ sizeLine; decide, fun u2 hu2 => ?_⟩
          have t4 : Same H9 (upd H9 u2 (.lst [.str z1, v])) := Same.new hu2
          have I10 := I9.same t4
          have gO10 := t4 _ _ gO9
          have tv10 := tv.same t4
          have gu : (upd H9 u2 (.lst [.str z1, v])) u2 = some (.lst [.str z1, v]) := upd_same
          refine ⟨u2, rfl, ⟨_, SqL.of upd_same⟩, ?_⟩
          clear t4 hu2 tv I9 gO9
          generalize (upd H9 u2 (.lst [.str z1, v])) = H10 at *
          have ne : ∀ z : Str, ¬ (!decide (V.str z = V.str z)) = true := fun z h => by
            rw [decide_eq_true rfl] at h
            cases h
          refine for_list (xs := [.str z1, v]) (fun k σ H' => ExtN H10 H' ∧ Tabs TT H' ∧ ∃ x11 x13, σ = [some (.ref a), some (.ref p), some (.ref O), some (.int (0 + (i : Int))), some (.ref L), x5, x6, x7, some (.str z1), x9, some v, x11, x12, x13]) ⟨ExtN.of (fun _ _ h => h), I10.tab, _, _, rfl⟩ (fun k σ H' _ z => SqL.of (z.1 _ _ gu (by intro p e; cases e))) ?_ ?_
          · rintro k u σ H11 hk ⟨e11, tb11, x11, x13, rfl⟩
            have tu : Th H11 u := by
              match k, hk with
              | 0, hk => cases hk; exact .tx ok1 l9
              | 1, hk => cases hk; exact tv10.ext e11
              | k + 2, hk => cases hk
            refine ⟨_, rfl, fa_of (E := fun _ _ _ => False) tu (fun q pd H12 eo s12 hpd => ?_) (fun eo H12 s12 => ?_)⟩
            · have lq := tu.le eo
              refine ⟨tb11.ext s12, fun H13 e13 tb13 => ?_⟩
              have x13 := (ExtN.of s12).trans e13
              refine heard_of (tu.ext x13) (fun E R H0 h => ⟨_, rfl, h⟩) (fun q2 pa H14 e2 s14 hpa => ?_) (fun e2 => by rw [eo] at e2; cases e2)
              rw [eo] at e2
              cases e2
              dsimp only [tNil]
              refine (smPair hpa lq.1 lq.2).ask ?_
              refine ⟨_, rfl, rfl, _, rfl, ite2 (fun h => absurd (of_decide_eq_true h) (fun h => nomatch h)) (fun _ => ?_)⟩
              refine ⟨_, rfl, ?_⟩
              dsimp only [tNil]
              refine (smPair (s14 _ _ (e13 _ _ hpd (by intro p e; cases e))) lq.1 lq.2).ask ?_
              exact ⟨rfl, _, rfl, ite2 (fun h => absurd h (ne _)) (fun _ => ⟨(e11.trans x13).trans (ExtN.of s14), tb13.ext s14, _, _, rfl⟩)⟩
            · rcases tu.kind (K := K) with ⟨zz, rfl, okz, lz⟩ | ⟨_, e0⟩
              · refine ⟨tb11.ext s12, fun H13 e13 tb13 => ?_⟩
                have x13 := (ExtN.of s12).trans e13
                refine heard_of (tu.ext x13) (fun E R H0 h => ⟨_, rfl, h⟩) (fun q2 pa H14 e2 s14 hpa => by rw [eo] at e2; cases e2) (fun _ H14 s14 => ?_)
                dsimp only [tNil]
                refine (smStr okz lz).ask ?_
                refine ⟨_, rfl, rfl, _, rfl, iteT ?_⟩
                refine ⟨_, rfl, ?_⟩
                dsimp only [tNil]
                refine (smStr okz lz).ask ?_
                exact ⟨rfl, _, rfl, ite2 (fun h => absurd h (ne _)) (fun _ => ⟨(e11.trans x13).trans (ExtN.of s14), tb13.ext s14, _, _, rfl⟩)⟩
              · rw [eo] at e0; cases e0
          · rintro σ H11 ⟨e11, tb11, x11, x13, rfl⟩
            exact ⟨_, _, _, _, _, _, _, _, _, _, _, rfl, (I10.ext e11 tb11).mono (by omega), e11 _ _ gO10 (by intro p e; cases e)⟩
    · rintro σ H2 ⟨x3, x4, x5, x6, x7, x8, x9, x10, x11, x12, x13, rfl, I3, gO3⟩
      refine ⟨by show 2 ≤ 1000; decide, fun e he => ⟨e, CT, _, _, rfl, B.O, B.vl, B.vw, upd_same, fun dx H3 hdx hne kp ea ed => ⟨rfl, ?_⟩⟩⟩
      refine ⟨_, rfl, e, CT, dx, _, _, rfl, ea, ed, E.x, E.vl, rfl, _, rfl, e, CT, dx, _, _, rfl, ea, ed, E.x, E.vw, rfl, by show 2 ≤ sizeLine; decide, fun t1 ht1 => ?_⟩
      refine ⟨by show 2 ≤ sizeLine; decide, fun t2 ht2 => ?_⟩
      refine ⟨.tuple [.int 2, .int 3], .tuple [.int 2, .int 3], .tup (SqT.of ((Same.new ht2) _ _ upd_same)) (.cons (.int _) (.cons (.int _) .nil)), .tup (SqT.of upd_same) (.cons (.int _) (.cons (.int _) .nil)), by decide +kernel, by decide +kernel, ?_⟩
      refine ⟨_, rfl, iteT ?_⟩
      have s2 := (Same.new (o := .tup [.int 2, .int 3]) ht1).trans (Same.new (o := .tup [.int 2, .int 3]) ht2)
      exact ⟨_, rfl, e, CT, _, _, true, rfl, .own CS, .inl ⟨dx, _, s2 _ _ ea, s2 _ _ ed⟩, E.ec, hkS, k _⟩
end
end K95

set_option Elab.async false
set_option linter.all false
set_option maxRecDepth 100000
set_option maxHeartbeats 8000000
namespace K95
open PySem L2 NX LamX PySem.Spec PyProof.Rows
structure HeadF (K : PySem.W.Frag) (CS CN CM CT CMv pRd cLo cAg cSt cFo fEN fEM fET fI fSt fRd fIs fRow fShow fRR fRP fPen fDraw fPick fLIs fBe fRF fFa fHeard fLaw cLaw pLaw : Addr) : Prop where
  n_int : PySem.W.nsIn K mainGlobals "int" = some none
  n_len : PySem.W.nsIn K mainGlobals "len" = some none
  n_abs : PySem.W.nsIn K mainGlobals "abs" = some none
  n_list : PySem.W.nsIn K mainGlobals "list" = some none
  n_str : PySem.W.nsIn K mainGlobals "str" = some none
  n_tuple : PySem.W.nsIn K mainGlobals "tuple" = some none
  n_isinstance : PySem.W.nsIn K mainGlobals "isinstance" = some none
  n_repr : PySem.W.nsIn K mainGlobals "repr" = some none
  n_range : PySem.W.nsIn K mainGlobals "range" = some none
  n_enumerate : PySem.W.nsIn K mainGlobals "enumerate" = some none
  n_ValueError : PySem.W.nsIn K mainGlobals "ValueError" = some none
  gLet : ∃ t, PySem.W.nsIn K mainGlobals "LETTERS" = some (some (.str "abcdefghijklmnopqrstuvwxyz" t))
  gMost : ∃ t, PySem.W.nsIn K mainGlobals "MOST_LETTERS" = some (some (.int 6 t))
  base : BaseF K CS
  eN : ErrF K "BadName" "value" CN fEN CS
  eM : ErrF K "BadMove" "value" CM fEM CS
  eT : ErrF K "BadText" "line" CT fET CS
  vw : PySem.W.findIn K (.ref CT) "word" = some none
  kTS : PySem.W.kitOne K (.ref CT) (.ref CS) = some true
  gMv : PySem.W.nsIn K mainGlobals "Move" = some (some (.ref CMv))
  rdMv : RdF K CMv
  cmMv : CmF K CMv "read" pRd fRd
  kcLo : ClsF K "Load" cLo fI
  wcLo : ∃ t, PySem.W.findIn K (.ref cLo) "WORD" = some (some (.str "load" t)) ∧ PySem.W.specialIn K (.str "load" t) "__get__" = some none ∧ PySem.W.findCls K (.ref cLo) (.type "type") "WORD" = some (.val (.str "load" t))
  nwcLo : PySem.W.findIn K (.ref cLo) "word" = some none
  nncLo : PySem.W.findIn K (.ref cLo) "name" = some none
  rcLo : RdF K cLo
  scLo : PySem.W.findIn K (.ref cLo) "__str__" = some (some (.ref fSt))
  kcAg : ClsF K "Again" cAg fI
  wcAg : ∃ t, PySem.W.findIn K (.ref cAg) "WORD" = some (some (.str "again" t)) ∧ PySem.W.specialIn K (.str "again" t) "__get__" = some none ∧ PySem.W.findCls K (.ref cAg) (.type "type") "WORD" = some (.val (.str "again" t))
  nwcAg : PySem.W.findIn K (.ref cAg) "word" = some none
  nncAg : PySem.W.findIn K (.ref cAg) "name" = some none
  rcAg : RdF K cAg
  scAg : PySem.W.findIn K (.ref cAg) "__str__" = some (some (.ref fSt))
  kcSt : ClsF K "Store" cSt fI
  wcSt : ∃ t, PySem.W.findIn K (.ref cSt) "WORD" = some (some (.str "store" t)) ∧ PySem.W.specialIn K (.str "store" t) "__get__" = some none ∧ PySem.W.findCls K (.ref cSt) (.type "type") "WORD" = some (.val (.str "store" t))
  nwcSt : PySem.W.findIn K (.ref cSt) "word" = some none
  nncSt : PySem.W.findIn K (.ref cSt) "name" = some none
  rcSt : RdF K cSt
  scSt : PySem.W.findIn K (.ref cSt) "__str__" = some (some (.ref fSt))
  kcFo : ClsF K "Forget" cFo fI
  wcFo : ∃ t, PySem.W.findIn K (.ref cFo) "WORD" = some (some (.str "forget" t)) ∧ PySem.W.specialIn K (.str "forget" t) "__get__" = some none ∧ PySem.W.findCls K (.ref cFo) (.type "type") "WORD" = some (.val (.str "forget" t))
  nwcFo : PySem.W.findIn K (.ref cFo) "word" = some none
  nncFo : PySem.W.findIn K (.ref cFo) "name" = some none
  rcFo : RdF K cFo
  scFo : PySem.W.findIn K (.ref cFo) "__str__" = some (some (.ref fSt))
  sfn : PySem.W.isFn K (.ref fSt) = true
  w_fEN : FnF K "__init__" "BadName.__init__" sErrN fEN
  w_fEM : FnF K "__init__" "BadMove.__init__" sErrM fEM
  w_fET : FnF K "__init__" "BadText.__init__" sErrT fET
  w_fI : FnF K "__init__" "Move.__init__" sInit fI
  w_fSt : FnF K "__str__" "Move.__str__" sStr fSt
  w_fRd : FnF K "read" "Move.read" sRead fRd
  g_fIs : PySem.W.nsIn K mainGlobals "is_name" = some (some (.ref fIs))
  w_fIs : FnF K "is_name" "is_name" sIs fIs
  g_fRow : PySem.W.nsIn K mainGlobals "row_line" = some (some (.ref fRow))
  w_fRow : FnF K "row_line" "row_line" sRow fRow
  g_fShow : PySem.W.nsIn K mainGlobals "show_plan" = some (some (.ref fShow))
  w_fShow : FnF K "show_plan" "show_plan" sShow fShow
  g_fRR : PySem.W.nsIn K mainGlobals "read_row" = some (some (.ref fRR))
  w_fRR : FnF K "read_row" "read_row" sRR fRR
  g_fRP : PySem.W.nsIn K mainGlobals "read_plan" = some (some (.ref fRP))
  w_fRP : FnF K "read_plan" "read_plan" sRP fRP
  g_fPen : PySem.W.nsIn K mainGlobals "_law_pen" = some (some (.ref fPen))
  w_fPen : FnF K "_law_pen" "_law_pen" sPen fPen
  g_fDraw : PySem.W.nsIn K mainGlobals "_law_draw" = some (some (.ref fDraw))
  w_fDraw : FnF K "_law_draw" "_law_draw" sDraw fDraw
  g_fPick : PySem.W.nsIn K mainGlobals "_law_pick" = some (some (.ref fPick))
  w_fPick : FnF K "_law_pick" "_law_pick" sPick fPick
  g_fLIs : PySem.W.nsIn K mainGlobals "_law_is_name" = some (some (.ref fLIs))
  w_fLIs : FnF K "_law_is_name" "_law_is_name" sLIs fLIs
  g_fBe : PySem.W.nsIn K mainGlobals "_law_bent" = some (some (.ref fBe))
  w_fBe : FnF K "_law_bent" "_law_bent" sBe fBe
  g_fRF : PySem.W.nsIn K mainGlobals "_law_row_fault" = some (some (.ref fRF))
  w_fRF : FnF K "_law_row_fault" "_law_row_fault" sRF fRF
  g_fFa : PySem.W.nsIn K mainGlobals "_law_fault" = some (some (.ref fFa))
  w_fFa : FnF K "_law_fault" "_law_fault" sFa fFa
  g_fHeard : PySem.W.nsIn K mainGlobals "_law_heard" = some (some (.ref fHeard))
  w_fHeard : FnF K "_law_heard" "_law_heard" sHeard fHeard
  g_fLaw : PySem.W.nsIn K mainGlobals "law" = some (some (.ref fLaw))
  w_fLaw : NX.FnT K "law" sLaw fLaw cLaw pLaw
  l_Law : K.lookup pLaw = none
section
variable {K : PySem.W.Frag} {mg : Str → Option Value} {h : Heap} {CS CN CM CT CMv pRd cLo cAg cSt cFo fEN fEM fET fI fSt fRd fIs fRow fShow fRR fRP fPen fDraw fPick fLIs fBe fRF fFa fHeard fLaw cLaw pLaw : Addr}
theorem mvOf {x wd : Str} {C : Addr} (X : K.In h) (G : h.Ns mainGlobals mg) (k : ClsF K x C fI) (w : ∃ t, PySem.W.findIn K (.ref C) "WORD" = some (some (.str wd t)) ∧ PySem.W.specialIn K (.str wd t) "__get__" = some none ∧ PySem.W.findCls K (.ref C) (.type "type") "WORD" = some (.val (.str wd t)))
    (d : wd.length ≤ 1000) (nw : PySem.W.findIn K (.ref C) "word" = some none) (nn : PySem.W.findIn K (.ref C) "name" = some none) (r : RdF K C) : MoveC K mg fI x C wd := by
  obtain ⟨t, h1, h2, h3⟩ := w
  exact ⟨k.cls, ⟨_, h1, ⟨_, rfl⟩, h2, by decide +kernel⟩, nw, nn, k.mak, PySem.W.mg_of X G k.g, ⟨_, _, ⟨r.rd, r.ga⟩, ⟨h3, ⟨_, rfl⟩⟩⟩⟩
theorem HeadF.law {l : PySem.W.OpenLaw} {w : World} {fa : Addr} (D : HeadF K CS CN CM CT CMv pRd cLo cAg cSt cFo fEN fEM fET fI fSt fRd fIs fRow fShow fRR fRP fPen fDraw fPick fLIs fBe fRF fFa fHeard fLaw cLaw pLaw) (X : K.In h) (G : h.Ns mainGlobals mg) (hfa : mg "law" = some (.ref fa))
    (tbLaw : h.get? pLaw = some { cls := .none, data := .fields #[] }) : ∃ fd cs sp, LawG l w K 15 63 "_law_script" mg fa h fd cs sp := by
  have e := hfa.symm.trans (PySem.W.mg_of X G D.g_fLaw)
  cases e
  have TB : TxtB mg := ⟨PySem.W.mg_none_of X G D.n_int, PySem.W.mg_none_of X G D.n_len, PySem.W.mg_none_of X G D.n_abs, PySem.W.mg_none_of X G D.n_list, PySem.W.mg_none_of X G D.n_str, PySem.W.mg_none_of X G D.n_tuple, PySem.W.mg_none_of X G D.n_isinstance, PySem.W.mg_none_of X G D.n_repr, PySem.W.mg_none_of X G D.n_range, PySem.W.mg_none_of X G D.n_enumerate, PySem.W.mg_none_of X G D.n_ValueError⟩
  have TN : TxtN mg := ⟨let ⟨t, e⟩ := D.gLet; ⟨t, PySem.W.mg_of X G e⟩, let ⟨t, e⟩ := D.gMost; ⟨t, PySem.W.mg_of X G e⟩⟩
  obtain ⟨fd_fEN, F_fEN⟩ := D.w_fEN.ex
  have b_fEN := F_fEN.binds (ps := ["self", "value"]) fun _ _ _ _ _ _ us hl => match us, hl with | [_, _], _ => rfl
  obtain ⟨fd_fEM, F_fEM⟩ := D.w_fEM.ex
  have b_fEM := F_fEM.binds (ps := ["self", "value"]) fun _ _ _ _ _ _ us hl => match us, hl with | [_, _], _ => rfl
  obtain ⟨fd_fET, F_fET⟩ := D.w_fET.ex
  have b_fET := F_fET.binds (ps := ["self", "line", "word"]) fun _ _ _ _ _ _ us hl => match us, hl with | [_, _, _], _ => rfl
  obtain ⟨fd_fI, F_fI⟩ := D.w_fI.ex
  have b_fI := F_fI.binds (ps := ["self", "name"]) fun _ _ _ _ _ _ us hl => match us, hl with | [_, _], _ => rfl
  obtain ⟨fd_fSt, F_fSt⟩ := D.w_fSt.ex
  have b_fSt := F_fSt.binds (ps := ["self"]) fun _ _ _ _ _ _ us hl => match us, hl with | [_], _ => rfl
  obtain ⟨fd_fRd, F_fRd⟩ := D.w_fRd.ex
  have b_fRd := F_fRd.binds (ps := ["cls", "text"]) fun _ _ _ _ _ _ us hl => match us, hl with | [_, _], _ => rfl
  obtain ⟨fd_fIs, F_fIs⟩ := D.w_fIs.ex
  have b_fIs := F_fIs.binds (ps := ["value"]) fun _ _ _ _ _ _ us hl => match us, hl with | [_], _ => rfl
  obtain ⟨fd_fRow, F_fRow⟩ := D.w_fRow.ex
  have b_fRow := F_fRow.binds (ps := ["row"]) fun _ _ _ _ _ _ us hl => match us, hl with | [_], _ => rfl
  obtain ⟨fd_fShow, F_fShow⟩ := D.w_fShow.ex
  have b_fShow := F_fShow.binds (ps := ["plan"]) fun _ _ _ _ _ _ us hl => match us, hl with | [_], _ => rfl
  obtain ⟨fd_fRR, F_fRR⟩ := D.w_fRR.ex
  have b_fRR := F_fRR.binds (ps := ["at", "words"]) fun _ _ _ _ _ _ us hl => match us, hl with | [_, _], _ => rfl
  obtain ⟨fd_fRP, F_fRP⟩ := D.w_fRP.ex
  have b_fRP := F_fRP.binds (ps := ["text"]) fun _ _ _ _ _ _ us hl => match us, hl with | [_], _ => rfl
  obtain ⟨fd_fPen, F_fPen⟩ := D.w_fPen.ex
  have b_fPen := F_fPen.binds (ps := ["_law_script"]) fun _ _ _ _ _ _ us hl => match us, hl with | [_], _ => rfl
  obtain ⟨fd_fDraw, F_fDraw⟩ := D.w_fDraw.ex
  have b_fDraw := F_fDraw.binds (ps := ["_law_pen_here", "_law_many"]) fun _ _ _ _ _ _ us hl => match us, hl with | [_, _], _ => rfl
  obtain ⟨fd_fPick, F_fPick⟩ := D.w_fPick.ex
  have b_fPick := F_fPick.binds (ps := ["_law_pen_here", "_law_some"]) fun _ _ _ _ _ _ us hl => match us, hl with | [_, _], _ => rfl
  obtain ⟨fd_fLIs, F_fLIs⟩ := D.w_fLIs.ex
  have b_fLIs := F_fLIs.binds (ps := ["_law_word"]) fun _ _ _ _ _ _ us hl => match us, hl with | [_], _ => rfl
  obtain ⟨fd_fBe, F_fBe⟩ := D.w_fBe.ex
  have b_fBe := F_fBe.binds (ps := ["_law_pen_here", "_law_wording", "_law_odd"]) fun _ _ _ _ _ _ us hl => match us, hl with | [_, _, _], _ => rfl
  obtain ⟨fd_fRF, F_fRF⟩ := D.w_fRF.ex
  have b_fRF := F_fRF.binds (ps := ["_law_words"]) fun _ _ _ _ _ _ us hl => match us, hl with | [_], _ => rfl
  obtain ⟨fd_fFa, F_fFa⟩ := D.w_fFa.ex
  have b_fFa := F_fFa.binds (ps := ["_law_thing"]) fun _ _ _ _ _ _ us hl => match us, hl with | [_], _ => rfl
  obtain ⟨fd_fHeard, F_fHeard⟩ := D.w_fHeard.ex
  have b_fHeard := F_fHeard.binds (ps := ["_law_ask"]) fun _ _ _ _ _ _ us hl => match us, hl with | [_], _ => rfl
  obtain ⟨⟨fd_fLaw, F_fLaw⟩, tLaw⟩ := D.w_fLaw
  have cdLaw := PySem.W.codeHd_of_K X tLaw
  have b_L : ∀ (t : Shared) (u : Value), BindsTo t fd_fLaw ⟨[u], []⟩ [("_law_script", u)] := by
    obtain ⟨oc, od, kV, doc, pm, an, ct, osl, rfl, lk, hcd⟩ := F_fLaw.ex
    exact fun t u => .of_eq rfl
  obtain ⟨TT, hTT⟩ : ∃ TT : List (Addr × Str), TT = [(pLaw, Str.ofString "law.<locals>.<lambda>")] := ⟨_, rfl⟩
  have hmLaw : (pLaw, Str.ofString "law.<locals>.<lambda>") ∈ TT := by rw [hTT]; simp
  have huLaw : ∀ p ∈ TT, p.1 = pLaw → p.2 = Str.ofString "law.<locals>.<lambda>" := fun p hp e => by
    rw [hTT] at hp
    simp only [List.mem_cons, List.not_mem_nil, or_false] at hp
    rcases hp with rfl
    rfl
  have MV : Mvs K mg fI ⟨cLo, cAg, cSt, cFo⟩ := ⟨mvOf X G D.kcLo D.wcLo (by decide +kernel) D.nwcLo D.nncLo D.rcLo, mvOf X G D.kcAg D.wcAg (by decide +kernel) D.nwcAg D.nncAg D.rcAg, mvOf X G D.kcSt D.wcSt (by decide +kernel) D.nwcSt D.nncSt D.rcSt, mvOf X G D.kcFo D.wcFo (by decide +kernel) D.nwcFo D.nncFo D.rcFo⟩
  have gMv := PySem.W.mg_of X G D.gMv
  have stc : ∀ wd, isW wd = true → NX.StrC K (M4.of ⟨cLo, cAg, cSt, cFo⟩ wd) fSt := fun wd h => by
    rcases isW_cases h with e | e | e | e <;> subst e
    · exact ⟨D.scLo, D.sfn⟩
    · exact ⟨D.scAg, D.sfn⟩
    · exact ⟨D.scSt, D.sfn⟩
    · exact ⟨D.scFo, D.sfn⟩
  have kerr : KErr K mg CS CT := ⟨PySem.W.mg_of X G D.base.g, PySem.W.mg_of X G D.eT.g, D.eT.exm D.base, D.eT.ec D.base, D.eT.xf, D.eT.v, D.vw, kit_self⟩
  refine ⟨fd_fLaw, [(cLaw, pLaw)], spLaw K TT, ?_⟩
  refine ⟨fun p hp => ?_, fun p hp => ?_, fun p hp => ?_, b_L, fun H a ns hl hT hS => ⟨a, ns, rfl, hS, fun p hp => ?_, fun H' => rfl⟩, fun base Xb Gb TBs SB => ?_⟩
  · simp only [List.mem_cons, List.not_mem_nil, or_false] at hp
    rcases hp with rfl
    exact tbLaw
  · simp only [List.mem_cons, List.not_mem_nil, or_false] at hp
    rcases hp with rfl
    exact D.l_Law
  · simp only [List.mem_cons, List.not_mem_nil, or_false] at hp
    rcases hp with rfl
    exact cdLaw
  · rw [hTT] at hp
    simp only [List.mem_cons, List.not_mem_nil, or_false] at hp
    rcases hp with rfl
    exact TabS.nil (hT (cLaw, pLaw) (by simp))
  · have tL1 : TabB base mg cLaw pLaw := TBs (cLaw, pLaw) (by simp)
    have c_fDraw : C8.Cal l.prog w K mg base 1 "_law_draw" spDraw [] := ⟨_, _, _, _, ok_draw F_fDraw TB, PySem.W.mg_of X G D.g_fDraw, F_fDraw.kp, b_fDraw, .nil⟩
    have c_fPen : C8.Cal l.prog w K mg base 1 "_law_pen" (spPen K) [] := ⟨_, _, _, _, ok_pen F_fPen TB, PySem.W.mg_of X G D.g_fPen, F_fPen.kp, b_fPen, .nil⟩
    have c_fPick : C8.Cal l.prog w K mg base 2 "_law_pick" (spPick K) [] := ⟨_, _, _, _, ok_pick F_fPick TB c_fDraw, PySem.W.mg_of X G D.g_fPick, F_fPick.kp, b_fPick, .nil⟩
    have c_fIs : C8.Cal l.prog w K mg base 1 "is_name" (spIs K) [] := ⟨_, _, _, _, ok_is F_fIs TB TN, PySem.W.mg_of X G D.g_fIs, F_fIs.kp, b_fIs, .nil⟩
    have EN : ErrC l.prog w K mg base "BadName" CN fEN := ⟨D.eN.O, D.eN.i, D.eN.t, ⟨_, ok_errN F_fEN, b_fEN⟩, PySem.W.mg_of X G D.eN.g, D.eN.v⟩
    have EM : ErrC l.prog w K mg base "BadMove" CM fEM := ⟨D.eM.O, D.eM.i, D.eM.t, ⟨_, ok_errM F_fEM, b_fEM⟩, PySem.W.mg_of X G D.eM.g, D.eM.v⟩
    have ET : ErrT l.prog w K mg base CT fET := ⟨D.eT.O, D.eT.i, D.eT.t, ⟨_, ok_errT F_fET, b_fET⟩, PySem.W.mg_of X G D.eT.g, D.eT.v, D.vw⟩
    have OI : FnOk l.prog w K mg base (CX l.prog w) 3 fI fd_fI ["self", "name"] (spInit K CN) := ok_init F_fI c_fIs EN
    have ORd : FnOk l.prog w K mg base (CX l.prog w) 5 fRd fd_fRd ["cls", "text"] (spRead K ⟨cLo, cAg, cSt, cFo⟩ CM) := ok_read (fN := fI) F_fRd TB c_fIs EM OI b_fI MV
    have OSt : FnOk l.prog w K mg base CX0 1 fSt fd_fSt ["self"] (spStr ⟨cLo, cAg, cSt, cFo⟩) := ok_str F_fSt MV
    have c_fRow : C8.Cal l.prog w K mg base 4 "row_line" (spRow K ⟨cLo, cAg, cSt, cFo⟩) [] := ⟨_, _, _, _, ok_row F_fRow TB OSt b_fSt stc, PySem.W.mg_of X G D.g_fRow, F_fRow.kp, b_fRow, .nil⟩
    have c_fShow : C8.Cal l.prog w K mg base 5 "show_plan" (spShow K ⟨cLo, cAg, cSt, cFo⟩) [] := ⟨_, _, _, _, ok_show F_fShow TB c_fRow, PySem.W.mg_of X G D.g_fShow, F_fShow.kp, b_fShow, .nil⟩
    have rd : ∃ mc, ClX.CRead K CMv mc ∧ ∃ p g, ClX.CMet K CMv mc "read" p g ∧ ∃ fd, FnOk l.prog w K mg base (CX l.prog w) 5 g fd ["cls", "text"] (spRead K ⟨cLo, cAg, cSt, cFo⟩ CM) ∧ Binds K fd ["cls", "text"] [] :=
      ⟨.type "type", ⟨D.rdMv.rd, D.rdMv.ga⟩, pRd, fRd, ⟨D.cmMv.at_, D.cmMv.rc, D.cmMv.fi⟩, fd_fRd, ORd, b_fRd⟩
    have ORR : FnOk l.prog w K mg base (CX l.prog w) 9 fRR fd_fRR ["at", "words"] (spRR K ⟨cLo, cAg, cSt, cFo⟩ CT) := ok_rr (fI := fI) F_fRR TB c_fIs MV gMv ET rd
    have ORP : FnOk l.prog w K mg base (CX l.prog w) 11 fRP fd_fRP ["text"] (spRP K ⟨cLo, cAg, cSt, cFo⟩ CT) := ok_rp F_fRP TB ET ORR (PySem.W.mg_of X G D.g_fRR) F_fRR.kp b_fRR
    have c_fLIs : C8.Cal l.prog w K mg base 1 "_law_is_name" spLIs [] := ⟨_, _, _, _, ok_lis F_fLIs TB, PySem.W.mg_of X G D.g_fLIs, F_fLIs.kp, b_fLIs, .nil⟩
    have c_fBe : C8.Cal l.prog w K mg base 3 "_law_bent" (spBe K) [] := ⟨_, _, _, _, ok_be F_fBe TB c_fDraw c_fPick, PySem.W.mg_of X G D.g_fBe, F_fBe.kp, b_fBe, .nil⟩
    have c_fRF : C8.Cal l.prog w K mg base 3 "_law_row_fault" (spRF K) [] := ⟨_, _, _, _, ok_rf F_fRF TB c_fLIs, PySem.W.mg_of X G D.g_fRF, F_fRF.kp, b_fRF, .nil⟩
    have c_fFa : C8.Cal l.prog w K mg base 5 "_law_fault" (spFa K) [] := ⟨_, _, _, _, ok_fa F_fFa TB c_fRF, PySem.W.mg_of X G D.g_fFa, F_fFa.kp, b_fFa, .nil⟩
    exact ok_law F_fLaw TB kerr ET D.kTS ORP (PySem.W.mg_of X G D.g_fRP) F_fRP.kp b_fRP F_fHeard (PySem.W.mg_of X G D.g_fHeard) b_fHeard SB c_fShow c_fPen c_fDraw c_fPick c_fBe c_fFa tL1 hmLaw huLaw
end
end K95
set_option Elab.async false
set_option linter.all false
set_option maxRecDepth 100000
set_option maxHeartbeats 0
namespace K95
open PySem PySem.W PySem.Calls PyProof.Rows NX K95H
theorem headF {h : Heap} {K : HK.Fg} (c : HK.Says K95H.fns K95H.tf K95H.ex h K) : HeadF K (a_CS K) (a_CN K) (a_CM K) (a_CT K) (a_CMv K) (a_pRd K) (a_cLo K) (a_cAg K) (a_cSt K) (a_cFo K) (a_fEN K) (a_fEM K) (a_fET K) (a_fI K) (a_fSt K) (a_fRd K) (a_fIs K) (a_fRow K) (a_fShow K) (a_fRR K) (a_fRP K) (a_fPen K) (a_fDraw K) (a_fPick K) (a_fLIs K) (a_fBe K) (a_fRF K) (a_fFa K) (a_fHeard K) (a_fLaw K) (a_cLaw K) (a_pLaw K) :=
  ⟨HK.eqV_ok (c.at_ 0),
  HK.eqV_ok (c.at_ 1),
  HK.eqV_ok (c.at_ 2),
  HK.eqV_ok (c.at_ 3),
  HK.eqV_ok (c.at_ 4),
  HK.eqV_ok (c.at_ 5),
  HK.eqV_ok (c.at_ 6),
  HK.eqV_ok (c.at_ 7),
  HK.eqV_ok (c.at_ 8),
  HK.eqV_ok (c.at_ 9),
  HK.eqV_ok (c.at_ 10),
  HK.strB_ok (c.at_ 11),
  HK.intB_ok (c.at_ 12),
  HK.baseB_ok (c.at_ 13),
  HK.errB_ok (c.at_ 14),
  HK.errB_ok (c.at_ 15),
  HK.errB_ok (c.at_ 16),
  HK.eqV_ok (c.at_ 17),
  HK.eqB_ok (c.at_ 18),
  HK.eqV_ok (c.at_ 19),
  HK.rdB_ok (c.at_ 20),
  HK.cmB_ok (c.at_ 21),
  HK.clsB_ok (c.at_ 22),
  conB_ok (c.at_ 23),
  HK.eqV_ok (c.at_ 24),
  HK.eqV_ok (c.at_ 25),
  HK.rdB_ok (c.at_ 26),
  HK.eqV_ok (c.at_ 27),
  HK.clsB_ok (c.at_ 28),
  conB_ok (c.at_ 29),
  HK.eqV_ok (c.at_ 30),
  HK.eqV_ok (c.at_ 31),
  HK.rdB_ok (c.at_ 32),
  HK.eqV_ok (c.at_ 33),
  HK.clsB_ok (c.at_ 34),
  conB_ok (c.at_ 35),
  HK.eqV_ok (c.at_ 36),
  HK.eqV_ok (c.at_ 37),
  HK.rdB_ok (c.at_ 38),
  HK.eqV_ok (c.at_ 39),
  HK.clsB_ok (c.at_ 40),
  conB_ok (c.at_ 41),
  HK.eqV_ok (c.at_ 42),
  HK.eqV_ok (c.at_ 43),
  HK.rdB_ok (c.at_ 44),
  HK.eqV_ok (c.at_ 45),
  c.at_ 46,
  HK.fnF_of (c.def_ 0),
  HK.fnF_of (c.def_ 1),
  HK.fnF_of (c.def_ 2),
  HK.fnF_of (c.def_ 3),
  HK.fnF_of (c.def_ 4),
  HK.fnF_of (c.def_ 5),
  HK.eqV_ok (c.at_ 47),
  HK.fnF_of (c.def_ 6),
  HK.eqV_ok (c.at_ 48),
  HK.fnF_of (c.def_ 7),
  HK.eqV_ok (c.at_ 49),
  HK.fnF_of (c.def_ 8),
  HK.eqV_ok (c.at_ 50),
  HK.fnF_of (c.def_ 9),
  HK.eqV_ok (c.at_ 51),
  HK.fnF_of (c.def_ 10),
  HK.eqV_ok (c.at_ 52),
  HK.fnF_of (c.def_ 11),
  HK.eqV_ok (c.at_ 53),
  HK.fnF_of (c.def_ 12),
  HK.eqV_ok (c.at_ 54),
  HK.fnF_of (c.def_ 13),
  HK.eqV_ok (c.at_ 55),
  HK.fnF_of (c.def_ 14),
  HK.eqV_ok (c.at_ 56),
  HK.fnF_of (c.def_ 15),
  HK.eqV_ok (c.at_ 57),
  HK.fnF_of (c.def_ 16),
  HK.eqV_ok (c.at_ 58),
  HK.fnF_of (c.def_ 17),
  HK.eqV_ok (c.at_ 59),
  HK.fnF_of (c.def_ 18),
  HK.eqV_ok (c.at_ 60),
  HK.fnT_of (c.def_ 19) a_fLaw rfl (c.hd a_fLaw (by simp [K95H.tf])),
  c.out a_fLaw (by simp [K95H.tf])⟩
end K95
open PySem PySem.W PySem.Calls PyProof.Rows
theorem PySem.Challenge.cw_loopstow_k95_plan_texts_refused_holds : PySem.Challenge.rw_loopstow_k95_plan_texts_refused.Holds := by
  w_on; o_law
  refine HandSHeadRun.head_any (r := OpenLaw.row PySem.Challenge.rw_loopstow_k95_plan_texts_refused) (q := view (OpenLaw.row PySem.Challenge.rw_loopstow_k95_plan_texts_refused).prog [32]) (H := K95H.hk) (ob := K95H.ob) (M := 20000) (loose := K95H.loose) (d := HandSHeadRun.topDef (OpenLaw.row PySem.Challenge.rw_loopstow_k95_plan_texts_refused).prog 32) (kwd := []) (fun s => HK.obs_eq s)
    (by kernel_rfl) (fun s => by kernel_rfl) K95H.run (by kernel_rfl) (by kernel_rfl) (by kernel_rfl) (by rfl) (by first | assumption | decide +kernel) (by decide +kernel) ⟨rfl, rfl, rfl, rfl, rfl, by decide +kernel⟩ ?hw ?hc
  case hw => w_witness2
  case hc =>
    refine HK.walkGE (l := PySem.Challenge.rw_loopstow_k95_plan_texts_refused) (n := 63) (k := 15) (x := "_law_script") rfl (by decide) (by kernel_rfl) ⟨rfl, by decide, by decide⟩ (by rfl) ?G
    intro w mg fa h Y G hmg0
    obtain ⟨K, KX, c⟩ := Y
    have hmg : mg ("law" : PySem.Str) = some (.ref fa) := by
      have e : (HandSHeadRun.topDef (OpenLaw.row PySem.Challenge.rw_loopstow_k95_plan_texts_refused).prog 32).name = ("law" : PySem.Str) := by kernel_rfl
      rw [← e]
      exact hmg0
    exact ⟨K, KX, (K95.headF c).law KX G hmg (c.empty K95H.a_fLaw (by simp [K95H.tf]))⟩
