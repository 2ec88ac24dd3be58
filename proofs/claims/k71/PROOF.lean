import PyProof.Rows.All
import Wide.All
import OpenK.AllK
import Wide.FinOn
import HandS.ForMost
import HandS.Exc
import HandS.ExcInit
import HandS.ExcField
import HandS.ExcIs
import HandS.IsInst
import HandS.TryOnly
import KE.KExcIs
import PyProof.ReprRoads
import HandS.Lambda
import HandS.Codes
import HandS.EndTab
import HandS.ClsMeth
import HandS.OwnEq
import PyProof.InstEq
import HandS.HeadHook4
import HandS.Head2
import PySem.Challenge.RW_loopstow_k71_rules_made
import HandS.FStr
import HandS.StrMore
import HandS.WordsExc
import KE.KUnpackStar
import PyProof.Rows.SetFrom
import HandS.Strs
import HandS.SetFor
import HandS.More
import HandS.Star
import HandS.SuiteRaise
import HandS.RaiseFrom
import HandS.ExcInitHot
import HandS.MakeKwOnly
import HandS.Defaults
import KE.GoesEnum
import KE.GoesMore
import HandS.NoneIn
import HandS.CallLocal
import HandS.List
import HandS.Property
import HandS.Deep
import HandS.Words
import KE.DataEq
import HandS.Style
import PyProof.CallFns
import PyProof.ReprLen
set_option Elab.async false
set_option linter.all false
set_option maxRecDepth 100000
set_option maxHeartbeats 4000000
/-! Rules of my own: an error that is caught under a name and kept in a local name behind the suite; what is asked of it there. -/
namespace NX
open PySem PySem.Spec PyProof.Rows L2
/-- the kept error at a: its class, its dict -/
def Kept (a : Addr) (cls : Value) (d : Option Addr) : HO := .ext fun h => ∃ o vs, h.get? a = some o ∧ o.cls = cls ∧ o.dict = d ∧ o.data = .fields vs
theorem kept_ne {a b : Addr} {cls : Value} {d : Option Addr} : Kept a cls d ≠ .own b := fun z => by
  unfold Kept at z
  cases z
theorem kept_ok {P : Program} {w : World} {H : Hp} {h : Heap} {a : Addr} {cls : Value} {d : Option Addr} {o : Obj} {vs : Array Value} (e : h.get? a = some o) (z : Zc cls d o) (f : o.data = .fields vs) : ObjOk P w H h a (Kept a cls d) :=
  ⟨⟨o, vs, e, z.1, z.2, f⟩, ⟨o, e⟩, fun h1 h2 ⟨o1, w1, e1, r1⟩ k => ⟨o1, w1, k _ e1, r1⟩⟩
section
variable {X : Cx} {pins : List (Addr × Obj)} {σ : L2.St} {H : Hp} {s : Shared}
/-- an object that nobody tracks, and that is none of the entry's, is tracked from now on -/
theorem adopt {a : Addr} {cls : Value} {d : Option Addr} {o : Obj} {vs : Array Value} (I : Inv X ((a, o) :: pins) σ H s) (z : Zc cls d o) (f : o.data = .fields vs) (new : X.s_0.heap.get? a = none) (np : ∀ p ∈ X.pn ++ pins, p.1 ≠ a) :
    Inv X pins σ (upd H a (Kept a cls d)) s := by
  obtain ⟨ga, na, nL, nF, nC⟩ := I.pin (a, o) (List.mem_append_right _ List.mem_cons_self)
  have ga : s.heap.get? a = some o := ga
  have na : H a = none := na
  have B := I.base
  have nb : ∀ {b u}, X.s_0.heap.get? b = some u → b ≠ a := fun {b u} e q => by rw [q, new] at e; cases e
  refine ⟨I.ok, I.os, I.bare, ⟨B.keep, B.slot, fun b u e n hx => ?_, B.there, fun b xs e => ?_, fun b u v e => ?_, fun b ps e => ?_⟩, I.loc, I.cell, ?_, fun x c e => ?_, fun p hp => ?_, ?_, I.len⟩
  · rw [upd_ne (nb e)]
    exact B.free b u e n hx
  · have q := B.tups b xs e
    rw [upd_ne (ne_of_none q na)]
    exact q
  · have q := B.frzs b u v e
    rw [upd_ne (ne_of_none q na)]
    exact q
  · obtain ⟨more, q⟩ := B.tbls b ps e
    exact ⟨more, by rw [upd_ne (ne_of_none q na)]; exact q⟩
  · rw [upd_ne (Ne.symm nL)]
    exact I.free
  · obtain ⟨v, oc, e1, e2⟩ := I.cell x c e
    have hne : c ≠ a := fun q => by
      rw [q, ga] at e1
      cases e1
      exact nC _ e2
    rw [upd_ne hne]
    exact I.freeC x c e
  · have hp' : p ∈ X.pn ++ (a, o) :: pins := by
      rcases List.mem_append.mp hp with q | q
      · exact List.mem_append_left _ q
      · exact List.mem_append_right _ (List.mem_cons_of_mem _ q)
    obtain ⟨e1, e2, e3⟩ := I.pin p hp'
    exact ⟨e1, by rw [upd_ne (np p hp)]; exact e2, e3⟩
  · intro b u e
    by_cases hb : b = a
    · rw [hb, upd_same] at e
      cases e
      rw [hb]
      exact kept_ok ga z f
    · rw [upd_ne hb] at e
      exact (I.hok b u e).stay (fun _ _ _ q => q) (fun c q => by rw [upd_ne (ne_of_none q na)]; exact q) fun c xs q => by rw [upd_ne (ne_of_none q na)]; exact q
/-- what «except x as n: suite» wishes of an error of the body, if the error is kept: slot i is n's, the suite's ends see the kept error -/
def wKeep (K : PySem.W.Frag) (c : Value) (i : Nat) (ts : Addr → Value → Option Addr → TS) (Wout : WX) (D : Ends) : WX := fun cls d σ H =>
  ∃ b, PySem.W.exmOne K cls c = some b ∧ (b = false → Wout cls d σ H) ∧
    (b = true → ∀ a, H a = none → ts a cls d ⟨fun σ' H' => D.nx (σ'.set i none) (upd H' a (Kept a cls d)), fun v H' => D.rt v (upd H' a (Kept a cls d)), fun σ' H' => D.bk (σ'.set i none) (upd H' a (Kept a cls d)), fun σ' H' => D.ct (σ'.set i none) (upd H' a (Kept a cls d))⟩ (σ.set i (some (.ref a))) H)
end
section
variable {X : Cx} {x n : Str} {c : Value} {i : Nat} {body suite : List Stmt} {b₀ : Stmt} {np p1 p2 : Pos} {tb : WX → TS} {ts : Addr → Value → Option Addr → TS} {Wout : WX}
theorem ps_try_keep (hs : X.stack = X.env :: X.outer) (hf : X.env.frame = some X.env.locals) (hN : X.N.Nodup) (hi : X.N[i]? = some n) (hln : X.env.kindOf n = some .local) (hex : X.ex = []) (hc : Names X x c) (tk : Takes X Wout)
    (hb : ∀ (W : WX) (pn : List (Addr × Obj)) (xe : Value → Shared → Prop), Takes (X.tr pn xe) W → PassesOwn (model X.prog X.w) X.A X.env xe → PSs (X.tr pn xe) body (tb W))
    (hsu : ∀ (a : Addr) (oe : Obj) (cls : Value) (d : Option Addr) (pn : List (Addr × Obj)), Zc cls d oe → (∃ vs, oe.data = .fields vs) → PSs (X.suite a ((a, oe) :: pn)) (b₀ :: suite) (ts a cls d)) :
    PS X (.Try body [.ExceptHandler (some (.Name x np)) (some n) (b₀ :: suite) p1] [] [] p2) (fun D σ H => tb (wKeep X.K c i ts Wout D) D σ H) := by
  refine ⟨fun pins s σ H D I h => ?_⟩
  have ok := I.ok
  have frames : X.A.frames = some (X.env :: X.outer) := by rw [ok.frames, hs]
  -- the wish of the body: what the clause does with an error
  have caught : ∀ (u : Value) (s' : Shared), XE (X.tr (X.pn ++ pins) (fun e s₁ => wpAny (model X.prog X.w) X.A (noteFrame e X.env) (fun _ s₂ => wpAny (model X.prog X.w) X.A (setFlight e none) (fun _ s₃ =>
      wpAny (model X.prog X.w) X.A (handleBy e X.env [.ExceptHandler (some (.Name x np)) (some n) (b₀ :: suite) p1]) (SP X pins D) X.xe s₃) X.xe s₂) X.xe s₁)) (wKeep X.K c i ts Wout D) u s' →
      wpAny (model X.prog X.w) X.A (noteFrame u X.env) (fun _ s₂ => wpAny (model X.prog X.w) X.A (setFlight u none) (fun _ s₃ =>
        wpAny (model X.prog X.w) X.A (handleBy u X.env [.ExceptHandler (some (.Name x np)) (some n) (b₀ :: suite) p1]) (SP X pins D) X.xe s₃) X.xe s₂) X.xe s' := by
    intro u s' xx
    obtain ⟨a, B, sI, pins', σ', H', cls, d, rfl, J', nb, up, sky, na, os, ag, b, hb1, hno, hyes⟩ := xx
    have J : Inv X pins σ' H' sI := J'.ofTry ok
    have sky' : Sky B (X.env :: X.outer) a (Zc cls d) X.env.locals s'.heap := by rw [← hs]; exact sky
    refine Sky.land Zc.steady frames hf sky' fun h3 fl3 up3 => ?_
    obtain ⟨oe3, vs3, he3, hz3, hd3⟩ := fl3.there
    have Ba : B.get? a = none := fl3.2.1
    have aFr : a ∉ frs (X.env :: X.outer) := fun hm => by
      obtain ⟨_, o', e', hnf⟩ := fl3.2.2.1.mem hm
      rw [he3] at e'
      cases e'
      exact hnf _ hd3
    have aS : a ∉ frs X.stack := by rw [hs]; exact aFr
    have aI : sI.heap.get? a = none := by
      cases e : sI.heap.get? a with
      | none => rfl
      | some o =>
        have q := nb a o e aS
        rw [Ba] at q
        cases q
    have a0 : X.s_0.heap.get? a = none := by
      cases e : X.s_0.heap.get? a with
      | none => rfl
      | some o =>
        obtain ⟨o', q⟩ := J.base.there a o e (by rw [hex]; simp)
        rw [aI] at q
        cases q
    have aL : a ≠ X.env.locals := fun z => aFr (List.mem_filterMap.mpr ⟨X.env, List.mem_cons_self, by rw [hf, z]⟩)
    have aF : a ∉ X.fs := fun hm => by
      obtain ⟨e, he, q⟩ := List.mem_filterMap.mp hm
      exact aFr (List.mem_filterMap.mpr ⟨e, List.mem_cons_of_mem _ he, q⟩)
    have aP : ∀ p ∈ X.pn ++ pins, p.1 ≠ a := fun p hp z => by
      have q := (J.pin p hp).1
      rw [z, aI] at q
      cases q
    have J3 : Inv X pins σ' H' { s' with heap := h3 } := J.landed nb fl3.1 (up.trans up3) os ag
    have S3 := J3.suite he3 hd3 na aL aF
    refine wpAny_handleBy_cons (codeAny_handlers_test ?_) (by intro q; cases q)
    have cl3 : PySem.W.Looks (model X.prog X.w) h3 (typeOf (.ref a)) cls := fun A Q E s k q => wpAny_typeOf_ref (k _ _ he3) (by rw [hz3.1]; exact q)
    have match_ := PySem.W.exm_one (M := model X.prog X.w) J3.kIn cl3 hb1
    have names : ∀ {Q : Value → Shared → Prop} {E : Value → Shared → Prop}, Q c { s' with heap := h3 } → wpAny (model X.prog X.w) (X.A.mark (some (.ref a))) (eval (.Name x np) X.env) Q E { s' with heap := h3 } := fun {Q E} q => by
      obtain ⟨hg, hdb, hm | ⟨hm, hv, hnn⟩⟩ := hc
      · exact ld_glob (X := X.suite a ((a, oe3) :: (X.pn ++ pins))) S3 hg hm q hdb
      · exact ld_blt (X := X.suite a ((a, oe3) :: (X.pn ++ pins))) S3 hg hm hv q hnn hdb
    refine names (match_.here ?_)
    cases b with
    | false =>
      show wpAny _ X.A (handleBy (.ref a) X.env []) _ _ _
      refine wpAny_handleBy_nil ?_
      obtain ⟨_, _, _, oe, vs, T, _, _, he, _, hd, h1, _⟩ := id fl3
      unfold PySem.passOn
      refine wpAny_bind (wpAny_field he hd h1 ?_)
      rw [if_neg (show ¬ ((Value.ref T == Value.none) = true) from by simp)]
      have out : wpAny (model X.prog X.w) X.A (setFlight (.ref a) X.env.frame) (fun _ s4 => wpAny (model X.prog X.w) X.A (throw (.ref a) : Sem Flow) (SP X pins D) X.xe s4) X.xe { s' with heap := h3 } := by
        rw [hf]
        refine HandSPX.setFlight_upZ fl3 fun h4 hh4 up4 => wpAny_throw (tk _ _ ?_)
        exact ⟨a, B, sI, pins, σ', H', cls, d, rfl, J, nb, (up.trans up3).trans up4, .inr (.inr (by rw [hs]; exact hh4)), na, os, ag, hno rfl⟩
      first
        | exact wpAny_bind (wpAny_pure (wpAny_bind out))
        | exact wpAny_bind out
    | true =>
      refine codeAny_handlers_suite_as ?_
      refine HandSPX.lands_againZ fl3 fun h4 fl4 up4 => ?_
      obtain ⟨oe4, vs4, he4, hz4, hd4⟩ := fl4.there
      have J4 : Inv X pins σ' H' { s' with heap := h4 } := J.landed nb fl4.1 ((up.trans up3).trans up4) os ag
      have S4 := J4.suite he4 hd4 na aL aF
      refine store_ok (X := X.suite a ((a, oe4) :: (X.pn ++ pins))) (v := .ref a) S4 hN hi (.inl hln) rfl (fun s5 S5 => ?_) (.inr hln)
      refine wpAny_mono ((hsu a oe4 cls d (X.pn ++ pins) hz4 ⟨_, hd4⟩).run [] s5 _ H' _ S5 (hyes rfl a na)) (fun f s6 hsp => ?_) (fun _ _ z => False.elim z)
      -- behind the suite: the name goes, the error is kept
      have last : ∀ {σ6 : L2.St} {H6 : Hp} {Q : Shared → Prop}, Inv (X.suite a ((a, oe4) :: (X.pn ++ pins))) [] σ6 H6 s6 → (∀ s7, Inv X pins (σ6.set i none) (upd H6 a (Kept a cls d)) s7 → Q s7) →
          wpAny (model X.prog X.w) X.A (do bindName X.env n .none; unbindBehindTheSuite X.env n p1) (fun _ s7 => Q s7) X.xe s6 := fun {σ6 H6 Q} S6 hq => by
        have W6 : Inv X ((a, oe4) :: pins) σ6 H6 s6 := ⟨ok, S6.os, S6.bare, S6.base, S6.loc, S6.cell, S6.free, S6.freeC, fun p hp => S6.pin p (by
          rw [List.append_nil]
          rcases List.mem_append.mp hp with q | q
          · exact List.mem_cons_of_mem _ (List.mem_append_left _ q)
          · rcases List.mem_cons.mp q with q | q
            · rw [q]
              exact List.mem_cons_self
            · exact List.mem_cons_of_mem _ (List.mem_append_right _ q)), S6.hok, S6.len⟩
        exact gone_ok W6 hN hi hln fun s7 J7 => hq s7 (adopt J7 hz4 hd4 a0 aP)
      cases f with
      | next =>
        obtain ⟨σ6, H6, S6, q6⟩ := hsp
        exact last S6 fun s7 J7 => ⟨_, _, J7, q6⟩
      | brk =>
        obtain ⟨σ6, H6, S6, q6⟩ := hsp
        exact last S6 fun s7 J7 => ⟨_, _, J7, q6⟩
      | cont =>
        obtain ⟨σ6, H6, S6, q6⟩ := hsp
        exact last S6 fun s7 J7 => ⟨_, _, J7, q6⟩
      | ret u =>
        obtain ⟨v6, σ6, H6, S6, r6, q6⟩ := hsp
        exact last S6 fun s7 J7 => ⟨_, _, _, J7, r6, q6⟩
  refine wpAny_Try_except (wpAny_mono ((hb _ _ _ (fun u s' xx => caught u s' xx) PassesOwn.looking).run [] s σ H D (I.toTry _) h) (fun f s1 hsp => ?_) (fun e s1 he => he))
  cases f with
  | next =>
    obtain ⟨σ', H', J', q⟩ := hsp
    exact wpAny_execs_nil ⟨σ', H', J'.ofTry ok, q⟩
  | brk =>
    obtain ⟨σ', H', J', q⟩ := hsp
    exact ⟨σ', H', J'.ofTry ok, q⟩
  | cont =>
    obtain ⟨σ', H', J', q⟩ := hsp
    exact ⟨σ', H', J'.ofTry ok, q⟩
  | ret u =>
    obtain ⟨v, σ', H', J', r, q⟩ := hsp
    exact ⟨v, σ', H', J'.ofTry ok, r, q⟩
end
/-- isinstance(e, c) of a kept error -/
def rIsKept (K : PySem.W.Frag) : List V → Hp → VK → Prop := fun xs H Q => ∃ (a D : Addr) (d : Addr) (fs : List (Str × V)) (c : V) (u : Value) (b : Bool), xs = [.ref a, c] ∧ ClsV c u ∧ H a = some (Kept a (.ref D) (some d)) ∧ H d = some (.xd fs) ∧ ExcC K D ∧ PySem.W.kitOne K (.ref D) u = some b ∧ Q (.bl b) H
section
variable {X : Cx} {e : Expr} {te : TE} {pos : Pos} {n : Str} {C : Addr}
theorem inst_kept {pins : List (Addr × Obj)} {σ : L2.St} {H : Hp} {s : Shared} {a D d : Addr} {fs : List (Str × V)} (I : Inv X pins σ H s) (ha : H a = some (Kept a (.ref D) (some d))) (hd : H d = some (.xd fs)) :
    ∃ o od, PySem.W.InstAt s.heap a o D (some od) ∧ s.heap.get? d = some od ∧ ∃ mA, s.heap.Ns1 d mA ∧ (∀ f, RelO (fs.lookup f) (mA f)) := by
  have x : ObjOk X.prog X.w H s.heap a (.ext fun h => ∃ o vs, h.get? a = some o ∧ o.cls = .ref D ∧ o.dict = some d ∧ o.data = .fields vs) := I.hok a _ ha
  obtain ⟨⟨o, vs, e1, e2, e3, e4⟩, _, _⟩ := x
  obtain ⟨mA, hns, hr⟩ := (show ObjOk X.prog X.w H s.heap d (.xd fs) from I.hok d _ hd)
  obtain ⟨od, ho, _⟩ := lookIn_ns hns
  exact ⟨o, od, ⟨e1, e2, by unfold PySem.W.notCls; rw [e4] <;> rfl, by rw [e3]; exact ho⟩, ho, mA, hns, hr⟩
theorem call_isKept : CallR X (.builtin "isinstance") (rIsKept X.K) := by
  intro pins s σ H xs us Q I r h
  obtain ⟨a, D, d, fs, c, u, b, rfl, hc, ha, hd, E, k, q⟩ := h
  obtain ⟨u1, u2, rfl, r1, r2⟩ := vals2 r
  have e2 := hc.eq r2
  subst e2
  obtain rfl : u1 = Value.ref a := r1
  obtain ⟨o, od, J, _⟩ := inst_kept I ha hd
  have hcl : (PySem.W.clsIn X.K D).isSome = true := by
    have z := E.hd
    unfold PySem.W.hasDictIn at z
    cases q : PySem.W.clsIn X.K D with
    | some cd => rfl
    | none => rw [q] at z; cases z
  exact PySem.W.kia_one (PySem.W.kitx_exc hcl E.hg E.hk E.hs E.ha E.hn E.ht E.hm) I.kIn J k (fun z => nomatch z) fun tk => ⟨.bl b, H, I.tok tk, rfl, q⟩
/-- e.n of a kept error -/
def tKept (K : PySem.W.Frag) (n : Str) (te : TE) : TE := fun σ H Q => te σ H fun x H1 => ∃ (a D d : Addr) (fs : List (Str × V)) (v : V), x = .ref a ∧ H1 a = some (Kept a (.ref D) (some d)) ∧ H1 d = some (.xd fs) ∧ XfC K D ∧ PySem.W.findIn K (.ref D) n = some none ∧ fs.lookup n = some v ∧ Q v H1
theorem pe_kept (he : PE X e te) (hb : attributeBase e n X.env (eval e X.env) = eval e X.env := by rfl) : PE X (.Attribute e n pos) (tKept X.K n te) := by
  refine ⟨fun pins s σ H Q I h => attr_of hb (thn (he.run pins s σ H _ I h) fun u s1 ⟨x, H1, I1, rx, a, D, d, fs, v, ex, ha, hd, T, hno, l, q⟩ => ?_)⟩
  subst ex
  obtain rfl : u = Value.ref a := rx
  obtain ⟨o, od, J, ho, mA, hns, hr⟩ := inst_kept I1 ha hd
  obtain ⟨od', ho', hl⟩ := lookIn_ns hns
  rw [ho] at ho'
  cases ho'
  obtain ⟨y, hy, ry⟩ := RelO.some_of (v := v) (o := mA n) (by rw [← l]; exact hr n)
  exact HandSPX.exc_get I1.kIn J T.ga T.gg T.exC (PySem.W.findObj_own T.hdC hno rfl (by rw [hl, hy])) (handed_of ry) ⟨v, H1, I1.tok _, ry, q⟩
end
end NX

set_option Elab.async false
set_option linter.all false
set_option maxRecDepth 100000
set_option maxHeartbeats 4000000
/-! Rules of my own: the text that repr tells of made data, dicts in it too. -/
namespace NX
open PySem PySem.Spec PyProof.Rows L2
def keyD : Key → PyData
  | .inl i => .int i
  | .inr x => .str x
mutual
inductive Dr (K : PySem.W.Frag) (H : Hp) : V → PyData → Prop
  | non : Dr K H .non .none
  | bl (b : Bool) : Dr K H (.bl b) (.bool b)
  | int (i : Int) : Dr K H (.int i) (.int i)
  | str (x : Str) : Dr K H (.str x) (.str x)
  | lst {a : Addr} {xs : List V} {ds : List PyData} : SqL K H a xs → DrAll K H xs ds → Dr K H (.ref a) (.list ds)
  | tup {a : Addr} {xs : List V} {ds : List PyData} : SqT K H a xs → DrAll K H xs ds → Dr K H (.ref a) (.tuple ds)
  | dct {a : Addr} {kvs : List (Key × V)} {ds : List PyData} : H a = some (.dK kvs) → DrAll K H (kvs.map (·.2)) ds → Dr K H (.ref a) (.dict ((kvs.map fun p => keyD p.1).zip ds))
inductive DrAll (K : PySem.W.Frag) (H : Hp) : List V → List PyData → Prop
  | nil : DrAll K H [] []
  | cons {v : V} {vs : List V} {d : PyData} {ds : List PyData} : Dr K H v d → DrAll K H vs ds → DrAll K H (v :: vs) (d :: ds)
end
theorem DrAll.length {K : PySem.W.Frag} {H : Hp} : ∀ {vs : List V} {ds : List PyData}, DrAll K H vs ds → vs.length = ds.length
  | _, _, .nil => rfl
  | _, _, .cons _ t => congrArg (· + 1) t.length
/-- a dict stands at the place of the loaded modules -/
def SysB (h : Heap) : Prop := ∃ (o : Obj) (es : Array DictEntry) (ep : Nat), h.get? sysModules = some o ∧ o.data = .dict es ep
section
variable {X : Cx} {pins : List (Addr × Obj)} {σ : L2.St} {H : Hp} {s : Shared}
theorem key_reads {h : Heap} : ∀ {k : Key} {v : Value}, keyIs k v = true → Reads h v (keyD k) [] := fun {k v} e => by
  rcases keyIs_shape e with ⟨i, t, rfl, rfl⟩ | ⟨x, t, rfl, rfl⟩
  · exact Reads.int i t
  · exact Reads.str x t
theorem keys_read {h : Heap} {P : Program} {w : World} : ∀ {es : List DictEntry} {vs : List (Key × Value)}, Pairs (mixKind P w) es vs → ∃ as, ReadsAll h (es.map (·.key)) (vs.map fun p => keyD p.1) as ∧ as = [] ∧ es.map (·.val) = vs.map (·.2)
  | _, _, .nil => ⟨_, ReadsAll.nil, rfl, rfl⟩
  | _, _, .cons h1 h2 t => by
    obtain ⟨as, q, rfl, e⟩ := keys_read t
    exact ⟨_, ReadsAll.cons (key_reads h1) q, rfl, by rw [List.map_cons, List.map_cons, e, h2]⟩
theorem kv_vals : ∀ {ks : List (Key × V)} {vs : List (Key × Value)}, KV ks vs → Vals (ks.map (·.2)) (vs.map (·.2)) ∧ vs.map (fun p => keyD p.1) = ks.map (fun p => keyD p.1)
  | _, _, .nil => ⟨.nil, rfl⟩
  | _, _, .cons h t => by
    obtain ⟨q, e⟩ := kv_vals t
    exact ⟨.cons h.2 q, by rw [List.map_cons, List.map_cons, e, h.1]⟩
theorem zip_fst {α β : Type} : ∀ {l : List α} {m : List β}, l.length = m.length → (l.zip m).map (·.1) = l
  | [], [], _ => rfl
  | a :: l, b :: m, h => by rw [List.zip_cons_cons, List.map_cons, zip_fst (Nat.succ.inj h)]
theorem zip_snd {α β : Type} : ∀ {l : List α} {m : List β}, l.length = m.length → (l.zip m).map (·.2) = m
  | [], [], _ => rfl
  | a :: l, b :: m, h => by rw [List.zip_cons_cons, List.map_cons, zip_snd (Nat.succ.inj h)]
mutual
theorem Dr.reads (I : Inv X pins σ H s) (S : SysB X.base) : ∀ {v : V} {d : PyData}, Dr X.K H v d → ∀ (u : Value), RelV v u → ∃ as, Reads s.heap u d as ∧ sysModules ∉ as
  | _, _, .non, _, r => by
    cases r
    exact ⟨_, Reads.none, by simp⟩
  | _, _, .bl b, _, r => by
    cases r
    exact ⟨_, Reads.bool b, by simp⟩
  | _, _, .int i, _, r => by
    obtain ⟨t, rfl⟩ := r
    exact ⟨_, Reads.int i t, by simp⟩
  | _, _, .str x, _, r => by
    obtain ⟨t, rfl⟩ := r
    exact ⟨_, Reads.str x t, by simp⟩
  | _, _, .lst hs ha, _, r => by
    cases r
    obtain ⟨its, rv, ⟨o, n, ho, hc, _, hd⟩, _⟩ := I.list hs
    obtain ⟨as, hr, hn⟩ := DrAll.reads I S ha its rv
    refine ⟨_, Reads.list ho hc hd hr, fun hm => ?_⟩
    rcases List.mem_cons.mp hm with e | e
    · obtain ⟨o2, es2, ep2, k2, c2⟩ := S
      have q := (I.bs _ _ k2).1
      rw [e, ho] at q
      have q2 := Option.some.inj q
      rw [← q2, hd] at c2
      cases c2
    · exact hn e
  | _, _, .tup hs ha, _, r => by
    cases r
    obtain ⟨its, rv, ⟨o, ho, hc, n, hd⟩, _⟩ := I.tuple hs
    obtain ⟨as, hr, hn⟩ := DrAll.reads I S ha its rv
    exact ⟨_, Reads.tuple ho hc hd hr, hn⟩
  | _, _, @Dr.dct _ _ a kvs ds hs ha, _, r => by
    cases r
    obtain ⟨_, lo, vs, kv, o, es, ep, ho, hex, hd, _, hp, _⟩ := (show ObjOk X.prog X.w H s.heap a (.dK kvs) from I.hok a _ hs)
    obtain ⟨rv, ek⟩ := kv_vals kv
    obtain ⟨as, hr, hn⟩ := DrAll.reads I S ha _ rv
    obtain ⟨bs, hk, rfl, ev⟩ := keys_read (h := s.heap) hp
    have el : (kvs.map fun p => keyD p.1).length = ds.length := by
      rw [List.length_map, ← ha.length, List.length_map]
    refine ⟨_, Reads.dict ho hex.1 hd (as := []) (bs := as) (by rw [zip_fst el, ← ek]; exact hk) (by rw [zip_snd el, ev]; exact hr), fun hm => ?_⟩
    rcases List.mem_append.mp hm with e | e
    · rcases List.mem_cons.mp e with e | e
      · rw [← e] at lo
        simp at lo
      · simp at e
    · exact hn e
theorem DrAll.reads (I : Inv X pins σ H s) (S : SysB X.base) : ∀ {vs : List V} {ds : List PyData}, DrAll X.K H vs ds → ∀ (us : List Value), Vals vs us → ∃ as, ReadsAll s.heap us ds as ∧ sysModules ∉ as
  | _, _, .nil, _, r => by
    cases r
    exact ⟨_, ReadsAll.nil, by simp⟩
  | _, _, .cons h1 h2, _, r => by
    cases r with
    | cons r1 r2 =>
      obtain ⟨as, q1, n1⟩ := Dr.reads I S h1 _ r1
      obtain ⟨bs, q2, n2⟩ := DrAll.reads I S h2 _ r2
      exact ⟨_, ReadsAll.cons q1 q2, fun hm => (List.mem_append.mp hm).elim n1 n2⟩
end
/-- repr(x), x a list, a tuple or a dict -/
def rRepr (K : PySem.W.Frag) : List V → Hp → VK → Prop := fun xs H Q => ∃ (a : Addr) (d : PyData), xs = [.ref a] ∧ Dr K H (.ref a) d ∧ d.showable = true ∧ d.depth ≤ 50 ∧ d.shown.length ≤ sizeLine ∧ Q (.str d.shown) H
theorem call_repr (hg : X.A.guards = some []) (hu : X.A.units + 64 < cLine) (S : SysB X.base) : CallR X (.builtin "repr") (rRepr X.K) := by
  intro pins s σ H xs us Q I r h
  obtain ⟨a, d, rfl, hd, hs, hdp, hl, q⟩ := h
  cases r with
  | cons r1 r2 =>
    cases r2
    cases r1
    obtain ⟨as, hr, hn⟩ := Dr.reads I S hd _ rfl
    refine PySem.repr_of_reads' hr hs (fun _ => hn) hg (by omega) (fun _ _ e => e) (fun h' u tk k => ?_) hl
    exact ⟨.str d.shown, H, I.kept k, ⟨u, rfl⟩, q⟩
end
end NX

set_option Elab.async false
set_option linter.all false
set_option maxRecDepth 100000
set_option maxHeartbeats 4000000
/-! A def's promise where no repr is under way, and the call of such a def. -/
namespace NX
open PySem PySem.Spec PyProof.Rows L2
structure FnG (P : Program) (w : World) (K : PySem.W.Frag) (mg : Str → Option Value) (base : Heap) (k : Nat) (f : Addr) (fd : FuncData) (ps : List Str) (sp : Sp) : Prop where
  len : ∀ vs H Q E, sp vs H Q E → vs.length = ps.length
  run : ∀ (A : Around) (st : List Env) (s : Shared) (H : Hp) (args : Args) (us : List Value) (vs : List V) (Q : VK), A.guards = some [] → Room k A → Env0 P w K mg base A st s H → BindsTo s fd args (ps.zip us) → Vals vs us → sp vs H Q C8.E0 →
    codeAny (model P w) A (.call (.ref f) args) (CR C8.CX0 st P w H s Q C8.E0) s
section
variable {X : Cx} {k j : Nat} {f : Addr} {fd : FuncData} {ps : List Str} {sp : Sp} {x : Str} {p pos : Pos} {e : Expr} {es : List Expr} {t : TA}
theorem pe_callG (F : FnG X.prog X.w X.K X.mg X.base k f fd ps sp) (gd : X.A.guards = some []) (hr : Room j X.A) (hj : k ≤ j) (hg : Gl X x) (hm : X.mg x = some (.ref f)) (hk : PySem.W.keepIn X.K (.ref f) = true) (hb : Binds X.K fd ps []) (ha : PA X (e :: es) t)
    (hd : (x == ("__debug__" : Str)) = false := by decide) (he : starEach (e :: es) X.env = (false, eval e X.env) :: starEach es X.env := by rfl) (hpl : (backTo pos (starEach es X.env)).any (·.1) = false := by rfl) :
    PE X (.Call (.Name x p) (e :: es) [] pos) (tCall sp [] C8.E0 t) := by
  refine ⟨fun pins s σ H Q I h => wpAny_Call_Name_kw (ld_glob I hg hm ?_ hd)⟩
  refine PySem.W.callWith_K (h₀ := X.base) I.ok.mod.kin hk (thn (ha.run pos pins s σ H _ I h) fun us s1 ⟨vs, H1, I1, rv, q⟩ => ⟨I1.kIn, ?_⟩) he hpl
  have q : sp vs H1 Q C8.E0 := by simpa using q
  have hl : us.length = ps.length := by rw [← F.len _ _ _ _ q, rv.length]
  have bt := hb s1 us I1.kIn (by simpa using hl)
  refine wpAny_call (codeAny_mono (F.run X.A X.stack s1 H1 ⟨us, []⟩ us vs Q gd (hr.mono hj) I1.env0 (by simpa using bt) rv q) fun r s' hq => ?_)
  cases r with
  | error er => exact False.elim (show False from hq)
  | ok fl =>
    cases fl with
    | ret w => exact I1.after hq
    | next => exact False.elim hq
    | brk => exact False.elim hq
    | cont => exact False.elim hq
end
end NX

set_option Elab.async false
set_option linter.all false
set_option maxRecDepth 100000
set_option maxHeartbeats 4000000
/-! The end of a row whose law wants an empty guard (FnG), in my own words. -/
namespace NX
open PySem PySem.Spec PyProof.Rows L2 LamX
section
variable {P : Program} {w : World} {K : PySem.W.Frag} {mg mb : Str → Option Value} {k : Nat} {fa a : Addr} {cs : List (Addr × Addr)} {fd : FuncData} {x : Str} {sp : Sp} {z : Shared} {vs : List Value} {ns : List Int}
/-- what is tracked at first: the empty tables, and the script where it is not written -/
def trackd (K : PySem.W.Frag) (cs : List (Addr × Addr)) (a : Addr) (vs : List Value) (ns : List Int) : Hp := fun b =>
  if b ∈ cs.map (·.2) then some (.tbl #[]) else if b = a ∧ K.lookup a = none then some (.frz { cls := .type "list", data := .seq vs.toArray } (.lst (ns.map V.int))) else none
/-- the heap of the call, as the tracked one sees it -/
structure Start (P : Program) (w : World) (K : PySem.W.Frag) (cs : List (Addr × Addr)) (a : Addr) (vs : List Value) (ns : List Int) (z : Shared) : Prop where
  KX : K.In z.heap
  hT : ∀ p ∈ cs, z.heap.get? p.2 = some { cls := .none, data := .fields #[] }
  nT : ∀ p ∈ cs, K.lookup p.2 = none
  ha : z.heap.get? a = some { cls := .type "list", data := .seq vs.toArray }
  hi : IntsAre vs ns
  hl : ns.length ≤ sizeLine
theorem Start.tab (S : Start P w K cs a vs ns z) {b : Addr} (h : b ∈ cs.map (·.2)) : z.heap.get? b = some { cls := .none, data := .fields #[] } ∧ K.lookup b = none := by
  obtain ⟨p, hp, rfl⟩ := List.mem_map.mp h
  exact ⟨S.hT p hp, S.nT p hp⟩
theorem Start.ne (S : Start P w K cs a vs ns z) : a ∉ cs.map (·.2) := fun h => by
  have q := (S.tab h).1
  rw [S.ha] at q
  injection q with q
  injection q with q1 q2 q3
  cases q3
theorem Start.at_tab (S : Start P w K cs a vs ns z) : ∀ p ∈ cs, trackd K cs a vs ns p.2 = some (.tbl #[]) := fun p hp => if_pos (List.mem_map.mpr ⟨p, hp, rfl⟩)
theorem Start.sq (S : Start P w K cs a vs ns z) : SqL K (trackd K cs a vs ns) a (ns.map V.int) := by
  cases hk : K.lookup a with
  | none => exact .inl (.inr ⟨_, (if_neg S.ne).trans (if_pos ⟨rfl, hk⟩)⟩)
  | some o =>
    have e := S.KX a o hk
    rw [S.ha] at e
    cases e
    exact .inr ⟨_, vs.toArray, _, hk, rfl, rfl, rfl, by rw [List.size_toArray, S.hi.length]; exact S.hl, by simpa using vals_ints S.hi⟩
/-- a tracked place is a table, or the script -/
theorem Start.cases (S : Start P w K cs a vs ns z) {b : Addr} {u : HO} (h : trackd K cs a vs ns b = some u) : (b ∈ cs.map (·.2) ∧ u = .tbl #[]) ∨ (b = a ∧ K.lookup a = none ∧ u = .frz { cls := .type "list", data := .seq vs.toArray } (.lst (ns.map V.int))) := by
  unfold trackd at h
  split at h
  · rename_i hb
    exact .inl ⟨hb, (Option.some.inj h).symm⟩
  · split at h
    · rename_i hb
      exact .inr ⟨hb.1, hb.2, (Option.some.inj h).symm⟩
    · cases h
theorem Start.ok (S : Start P w K cs a vs ns z) : HOk P w (trackd K cs a vs ns) z.heap := fun b u h => by
  rcases S.cases h with ⟨hb, rfl⟩ | ⟨rfl, _, rfl⟩
  · exact (S.tab hb).1
  · exact ⟨S.ha, by rw [List.length_map]; exact S.hl, vs, _, vals_ints S.hi, S.ha⟩
/-- what is neither a list nor an empty row of fields is not tracked -/
theorem Start.off (S : Start P w K cs a vs ns z) {b : Addr} {o : Obj} (e : z.heap.get? b = some o) (h1 : ∀ us n, o.data ≠ .seq us n) (h2 : o.data ≠ .fields #[]) : trackd K cs a vs ns b = none := by
  cases q : trackd K cs a vs ns b with
  | none => rfl
  | some u =>
    rcases S.cases q with ⟨hb, _⟩ | ⟨rfl, _, _⟩
    · rw [(S.tab hb).1] at e
      cases e
      exact (h2 rfl).elim
    · rw [S.ha] at e
      cases e
      exact (h1 _ _ rfl).elim
theorem Start.kin (S : Start P w K cs a vs ns z) : K.In (hidT z.heap (trackd K cs a vs ns)) := fun b o e => hidT_get (S.KX b o e) (by
  cases q : trackd K cs a vs ns b with
  | none => rfl
  | some u =>
    rcases S.cases q with ⟨hb, _⟩ | ⟨rfl, hk, _⟩
    · rw [(S.tab hb).2] at e
      cases e
    · rw [hk] at e
      cases e)
theorem Start.ns_ (S : Start P w K cs a vs ns z) {b : Addr} {m : Str → Option Value} (h : z.heap.Ns b m) : (hidT z.heap (trackd K cs a vs ns)).Ns b m := by
  obtain ⟨o, es, ep, e, d, r⟩ := h
  exact ⟨o, es, ep, hidT_get e (S.off e (fun us n q => by rw [d] at q; cases q) (fun q => by rw [d] at q; cases q)), d, r⟩
theorem Start.mod (S : Start P w K cs a vs ns z) (hg : z.heap.Ns mainGlobals mg) (hb : z.heap.Ns builtinsNs mb) (hbb : ∀ y : Str, y ≠ "__name__" → mb y = bootBuiltins y) (lim : z.heap.NoLimit) : L2.Mod K mg (hidT z.heap (trackd K cs a vs ns)) :=
  ⟨S.kin, S.ns_ hg, ⟨mb, S.ns_ hb, hbb⟩, by obtain ⟨mc, h1, h2⟩ := lim; exact ⟨mc, S.ns_ h1, h2⟩⟩
theorem Start.tabB (S : Start P w K cs a vs ns z) (hg : z.heap.Ns mainGlobals mg) (C : ∀ p ∈ cs, PySem.W.CodeHd z.heap p.1 p.2)
    (hm : ∃ (bm : Addr) (ob : Obj), mg "__builtins__" = some (.ref bm) ∧ bm ≠ builtinsNs ∧ z.heap.get? bm = some ob ∧ ob.cls = .type "module" ∧ ob.dict = some builtinsNs ∧ ob.data = .plain) : ∀ p ∈ cs, TabB (hidT z.heap (trackd K cs a vs ns)) mg p.1 p.2 := fun p hp => by
  have tp := S.hT p hp
  have gne : ∀ {b : Addr} {o : Obj}, z.heap.get? b = some o → (∀ es ep, o.data ≠ .dict es ep) → b ≠ mainGlobals := fun {b o} e d q => by
    obtain ⟨og, es, ep, eg, dg, _⟩ := hg
    rw [q, eg] at e
    cases e
    exact d es ep dg
  refine ⟨?_, ?_, fun q => gne tp (by intro es ep h; cases h) q.symm⟩
  · obtain ⟨o, us, file, tf, flags, tg, inF, text, tt, e1, r⟩ := C p hp
    refine ⟨o, us, file, tf, flags, tg, inF, text, tt, hidT_get e1 (S.off e1 (fun vs n q => ?_) fun q => ?_), r⟩
    · rw [r.2.1] at q
      cases q
    · rw [r.2.1] at q
      cases q
      have q2 := r.2.2.1
      simp at q2
  · obtain ⟨bm, ob, b1, b2, b3, b4, b5, b6⟩ := hm
    refine ⟨bm, ob, b1, b2, gne b3 (by intro es ep h; rw [b6] at h; cases h), fun q => ?_, hidT_get b3 (S.off b3 (fun vs n q => by rw [b6] at q; cases q) (fun q => by rw [b6] at q; cases q)), b4, b5, b6⟩
    rw [q, tp] at b3
    cases b3
    cases b6
theorem Start.env (S : Start P w K cs a vs ns z) (hg : z.heap.Ns mainGlobals mg) (hb : z.heap.Ns builtinsNs mb) (hbb : ∀ y : Str, y ≠ "__name__" → mb y = bootBuiltins y) (lim : z.heap.NoLimit) (gs : z.gens = #[]) : Env0 P w K mg (hidT z.heap (trackd K cs a vs ns)) callerA [] z (trackd K cs a vs ns) :=
  ⟨rfl, S.mod hg hb hbb lim, fun b o e => of_hidT e, Nat.le_of_eq (hidT_size _ _), trivial, fun b q => absurd (show b ∈ ([] : List Addr) from q) (by simp), S.ok, .of_eq gs⟩
theorem Start.sys (S : Start P w K cs a vs ns z) (h : SysB z.heap) : SysB (hidT z.heap (trackd K cs a vs ns)) := by
  obtain ⟨o, es, ep, e, d⟩ := h
  exact ⟨o, es, ep, hidT_get e (S.off e (fun us n q => by rw [d] at q; cases q) (fun q => by rw [d] at q; cases q)), d⟩
/-- the call of the law: it tells True, and what stood stands -/
theorem endG (S : Start P w K cs a vs ns z) (hg : z.heap.Ns mainGlobals mg) (hb : z.heap.Ns builtinsNs mb) (hbb : ∀ y : Str, y ≠ "__name__" → mb y = bootBuiltins y) (lim : z.heap.NoLimit) (gs : z.gens = #[]) (C : ∀ p ∈ cs, PySem.W.CodeHd z.heap p.1 p.2)
    (hm : ∃ (bm : Addr) (ob : Obj), mg "__builtins__" = some (.ref bm) ∧ bm ≠ builtinsNs ∧ z.heap.get? bm = some ob ∧ ob.cls = .type "module" ∧ ob.dict = some builtinsNs ∧ ob.data = .plain) (hr : Room k callerA) (hs : SysB z.heap)
    (F : ∀ base : Heap, K.In base → base.Ns mainGlobals mg → (∀ p ∈ cs, TabB base mg p.1 p.2) → SysB base → FnG P w K mg base k fa fd [x] sp) (bind : ∀ (t : Shared) (u : Value), BindsTo t fd ⟨[u], []⟩ [(x, u)])
    (ask : ∀ H : Hp, (∀ p ∈ cs, H p.2 = some (.tbl #[])) → SqL K H a (ns.map V.int) → sp [.ref a] H (fun v _ => v = .bl true) C8.E0) :
    codeAny (model P w) callerA (.call (.ref fa) ⟨[.ref a], []⟩) (fun r t => r = .ok (.ret (.bool true)) ∧ OldK z.heap t.heap ∧ t.os = z.os ∧ AllBare t.gens) z := by
  refine codeAny_mono ((F _ S.kin (S.ns_ hg) (S.tabB hg C hm) (S.sys hs)).run callerA [] z _ ⟨[.ref a], []⟩ [.ref a] [.ref a] _ rfl hr (S.env hg hb hbb lim gs) (bind z (.ref a)) (.cons rfl .nil) (ask _ S.at_tab S.sq)) fun r t h => ?_
  cases r with
  | error e => exact False.elim (show False from h)
  | ok fl =>
    cases fl with
    | next => exact False.elim h
    | brk => exact False.elim h
    | cont => exact False.elim h
    | ret u =>
      obtain ⟨v, H', os, bare, un, ok', ru, q⟩ := h
      have q : v = .bl true := q
      subst q
      obtain rfl : u = Value.bool true := ru
      have kept : ∀ b o, b ∉ cs.map (·.2) → z.heap.get? b = some o → t.heap.get? b = some o := fun b o nb e => by
        cases y : trackd K cs a vs ns b with
        | none => exact un.keep b o e y (by intro n; exact absurd (show b ∈ ([] : List Addr) from n) (by simp)) (by simp)
        | some u =>
          rcases S.cases y with ⟨hb, _⟩ | ⟨rfl, _, rfl⟩
          · exact absurd hb nb
          · obtain ⟨e2, _⟩ := ok' _ _ (un.frzs _ _ _ y)
            rw [S.ha] at e
            cases e
            exact e2
      have grow : ∀ p ∈ cs, ∃ more : Array Value, t.heap.get? p.2 = some { cls := .none, data := .fields more } := fun p hp => by
        obtain ⟨more, y⟩ := un.tbls p.2 #[] (S.at_tab p hp)
        exact ⟨_, ok' p.2 _ y⟩
      refine ⟨rfl, ⟨fun b o e => ?_, fun b o e => ?_⟩, os, bare⟩
      · by_cases hb : b ∈ cs.map (·.2)
        · obtain ⟨p, hp, rfl⟩ := List.mem_map.mp hb
          obtain ⟨more, hmo⟩ := grow p hp
          rw [S.hT p hp] at e
          cases e
          exact .inr (.inl ⟨((C p hp).tab (S.hT p hp)).isCodeTable, rfl, #[], more, rfl, by rw [Array.empty_append]; exact hmo⟩)
        · exact .inl (kept b o hb e)
      · by_cases hb : b ∈ cs.map (·.2)
        · obtain ⟨p, hp, rfl⟩ := List.mem_map.mp hb
          obtain ⟨more, hmo⟩ := grow p hp
          exact ⟨_, hmo⟩
        · exact ⟨o, kept b o hb e⟩
end
/-- what the head has to tell of the law at fa -/
structure LawG (l : PySem.W.OpenLaw) (w : World) (K : PySem.W.Frag) (k n : Nat) (x : Str) (mg : Str → Option Value) (fa : Addr) (h : Heap) (fd : FuncData) (cs : List (Addr × Addr)) (sp : Sp) : Prop where
  hT : ∀ p ∈ cs, h.get? p.2 = some { cls := .none, data := .fields #[] }
  nT : ∀ p ∈ cs, K.lookup p.2 = none
  C : ∀ p ∈ cs, PySem.W.CodeHd h p.1 p.2
  bind : ∀ (t : Shared) (u : Value), BindsTo t fd ⟨[u], []⟩ [(x, u)]
  ask : ∀ (H : Hp) (a : Addr) (ns : List Int), ns.length ≤ n → (∀ p ∈ cs, H p.2 = some (.tbl #[])) → SqL K H a (ns.map V.int) → sp [.ref a] H (fun v _ => v = .bl true) C8.E0
  F : ∀ base : Heap, K.In base → base.Ns mainGlobals mg → (∀ p ∈ cs, TabB base mg p.1 p.2) → SysB base → FnG l.prog w K mg base k fa fd [x] sp
theorem walkG {l : PySem.W.OpenLaw} {n k : Nat} {q : Program} {loose : List Str} {XP : (Str → Option Value) → Heap → Prop} {YP : World → Heap → Prop} {d : DefRec} {K : Params → PySem.W.Frag} {x : Str} (hn : l.most = some n) (hn2 : n ≤ sizeLine) (hdf : d.params.defaults = []) (hr : Room k callerA) (hi : importsNone q = true)
    (hY : ∀ (w : World) (h : Heap), YP w h → (K w.params).In h) (G : ∀ (w : World) (mg : Str → Option Value) (fa : Addr) (h : Heap), YP w h → (K w.params).In h → h.Ns mainGlobals mg → mg d.name = some (.ref fa) → ∃ fd cs sp, LawG l w (K w.params) k n x mg fa h fd cs sp) :
    PySem.W.WalkO q loose XP YP l.row.toRowW d [] (fun f vs => PySem.call f vs) := by
  refine Att.attach_callB hn hdf fun w s₀ s₁ mg mb fa o pm cd doc a vs ns T Y ho hd hcd hmg hobj hints hlen hbits hgen => ?_
  have KX := hY w _ Y
  obtain ⟨fd, cs, sp, L⟩ := G w mg fa _ Y KX T.T.g hmg
  exact endG ⟨KX, L.hT, L.nT, hobj, hints, Nat.le_trans hlen hn2⟩ T.T.g T.T.b T.T.builtins T.T.nolimit hgen L.C T.T.bmain hr (by obtain ⟨mm, ⟨o, es, ep, e, d, _⟩, _⟩ := (T.T.seer hi).mods; exact ⟨o, es, ep, e, d⟩) L.F L.bind (fun H h1 h2 => L.ask H a ns hlen h1 h2)
end NX

set_option Elab.async false
set_option linter.all false
set_option maxRecDepth 100000
set_option maxHeartbeats 4000000
/-! A rule of my own: C.m(k=e, ..), m a classmethod, by keywords alone. -/
namespace NX
open PySem PySem.Spec PyProof.Rows L2
section
variable {X : Cx} {CX : CXT} {k : Nat} {C p g : Addr} {mc : Value} {sp : Sp} {E : XK} {o : Expr} {kws : List Keyword} {m : Str} {pos apos : Pos} {ta : TE} {t : TA} {pl : Sem Bool} {fd : FuncData} {ps ks : List Str}
theorem pe_cmethK (he : PE X o ta) (r : ClX.CRead X.K C mc) (c : ClX.CMet X.K C mc m p g) (F : FnOk X.prog X.w X.K X.mg X.base CX k g fd ps sp) (hb : ∀ (s : Shared) (us : List Value), us.length + 1 = ps.length → BindsTo s fd ⟨[.ref C], ks.zip us⟩ (ps.zip (.ref C :: us)))
    (hr : Room k X.A) (hx : Passes CX X E) (ha : PK X kws t) (hall : (backToKw pos (keywordEach kws X.env)).all (·.1.isSome) = true := by rfl) (hks : (backToKw pos (keywordEach kws X.env)).filterMap (·.1) = ks := by rfl)
    (hpl : ((backTo pos (starEach [] X.env)).any (·.1) || (backToKw pos (keywordEach kws X.env)).any (·.1.isNone)) = false := by rfl)
    (ht : eval (.Call (.Attribute o m apos) [] kws pos) X.env = (do
      let ov ← eval o X.env
      standAt apos.atName
      let (f, first) ← holding [ov] (getMethod ov m pl)
      callWith pos f first (backTo pos (starEach [] X.env)) (backToKw pos (keywordEach kws X.env))) := by rfl) :
    PE X (.Call (.Attribute o m apos) [] kws pos) (ClX.tCMeth C sp E ta t) := by
  refine ⟨fun pins s σ H Q I h => PySem.W.methodCall_KW (pl := pl) (thn (he.run pins s σ H _ I h) fun u s1 ⟨x, H1, I1, rx, ex, q⟩ => ?_) ht⟩
  subst ex
  obtain rfl : u = Value.ref C := rx
  refine ClX.getmethcm_ok I1 r c fun s2 I2 => ?_
  refine PySem.W.callWith_of hpl (PySem.W.keeps_M (K := X.K) (self := .ref C) c.fi) (PyProof.Rows.evalArgs_kw2_nil hall (thn (ha.run pos _ s2 σ H1 _ I2 q) fun us s3 ⟨vs, H2, I3, rv, q2⟩ => ⟨⟨ClX.pin_at I3, I3.kIn⟩, ?_⟩))
  rw [hks]
  have r2 : Vals (V.ref C :: vs) (Value.ref C :: us) := .cons rfl rv
  have hl : us.length + 1 = ps.length := by
    have z := F.len _ _ _ _ q2
    rw [← z, r2.length]
    rfl
  have z : wpAny (model X.prog X.w) X.A (call (.ref s1.heap.objs.size) ([] ++ []) (ks.zip us)) (EP X ((s1.heap.objs.size, PySem.W.methodObj (.ref g) (.ref C)) :: pins) σ Q) X.xe s3 := by
    refine wpAny_call (PySem.W.method_call (ClX.pin_at I3) (codeAny_mono (F.run X.A X.stack s3 H2 ⟨[.ref C], ks.zip us⟩ (.ref C :: us) (.ref C :: vs) Q E hr I3.env0 (hb s3 us hl) r2 q2) fun r s' hq => ?_))
    cases r with
    | error er => exact hx _ σ H2 s3 er s' I3 hq
    | ok fl =>
      cases fl with
      | ret w => exact I3.after hq
      | next => exact False.elim hq
      | brk => exact False.elim hq
      | cont => exact False.elim hq
  exact thn z fun _ _ y => ClX.unpinE y
end
end NX

set_option Elab.async false
set_option linter.all false
set_option maxRecDepth 100000
set_option maxHeartbeats 4000000
/-! Rules of my own: == and != of an object whose class has an own equality; any answer, any other side. -/
namespace NX
open PySem PySem.Spec PyProof.Rows L2
/-- what the class at C says of == and != -/
structure EqC (K : PySem.W.Frag) (C f : Addr) : Prop where
  cl : Cls K C
  eq : PySem.W.findIn K (.ref C) "__eq__" = some (some (.ref f))
  ne : PySem.W.findIn K (.ref C) "__ne__" = some (some (.builtin "object.__ne__"))
  fn : PySem.W.isFn K (.ref f) = true
  ob : PySem.W.mroIn K C (.type "object") = some true
section
variable {X : Cx} {n : Nat} {f : Addr} {fd : FuncData} {ps : List Str} {sp : Sp} {CX : CXT} {E : XK}
/-- the own equality is called by the machine -/
theorem run_own (F : FnOk X.prog X.w X.K X.mg X.base CX n f fd ps sp) (hb : Binds X.K fd ps []) (hx : Passes CX X E) {A : Around} {pins : List (Addr × Obj)} {σ : L2.St} {H : Hp} {s : Shared} {x y : V} {u v : Value} {Q : VK}
    (sb : Sub X n A) (I : Inv X pins σ H s) (rx : RelV x u) (ry : RelV y v) (q : sp [x, y] H Q E) : wpAny (model X.prog X.w) A (call (.ref f) [u, v]) (EP X pins σ Q) X.xe s := by
  have e := I.env0
  have e0 : Env0 X.prog X.w X.K X.mg X.base A X.stack s H := ⟨by rw [sb.fr]; exact e.frames, e.mod, e.bs, e.bsz, e.funs, e.frf, e.hok, e.bare⟩
  have hl : [u, v].length = ps.length := (F.len _ _ _ _ q)
  have r2 : Vals [x, y] [u, v] := .cons rx (.cons ry .nil)
  refine wpAny_call (codeAny_mono (F.run A X.stack s H ⟨[u, v], []⟩ [u, v] [x, y] Q E sb.room e0 (by
    have z := hb s [u, v] I.kIn (by simpa using hl)
    simpa using z) r2 q) fun r s' hq => ?_)
  cases r with
  | error er => exact hx pins σ H s er s' I hq
  | ok fl =>
    cases fl with
    | ret w => exact I.after hq
    | next => exact False.elim hq
    | brk => exact False.elim hq
    | cont => exact False.elim hq
def rOwn (K : PySem.W.Frag) (f : Addr) (sp : Sp) (E : XK) (neg : Bool) : R2 := fun x y H Q => ∃ (a C dx : Addr) (fs : List (Str × V)) (tb : Value), x = .ref a ∧ H a = some (.ins C dx fs) ∧ EqC K C f ∧ PySem.W.notFirst K C tb = true ∧ TyX K H y tb ∧
  sp [x, y] H (fun v H' => ∃ b, v = .bl b ∧ Q (.bl (if neg then !b else b)) H') E
theorem op_eqOwn (F : FnOk X.prog X.w X.K X.mg X.base CX n f fd ps sp) (hb : Binds X.K fd ps []) (hx : Passes CX X E) (hr : Room n X.A) : OpR X (compareOp .Eq) (rOwn X.K f sp E false) := by
  intro pins s σ H x y u v Q I rx ry h
  obtain ⟨a, C, dx, fs, tb, rfl, ha, T, nf, ty, q⟩ := h
  obtain rfl : u = Value.ref a := rx
  obtain ⟨mA, O, _⟩ := ins_get I.hok ha
  obtain ⟨od, J, _⟩ := O.look
  obtain ⟨m, fr⟩ := I.fr
  obtain ⟨P, Z, p, _⟩ := kit_of I ry ty
  show wpAny (model X.prog X.w) X.A (richCompare .Eq (.ref a) v) (EP X pins σ Q) X.xe s
  refine PySem.W.cmp_K (op := .Eq) (tb := tb) hr.units0 fr I.ok.mod.kin J (Z.ty _ _ I.kIn p) nf T.eq T.fn ?_
  refine wpAny_mono (run_own (x := .ref a) F hb hx ⟨hr, rfl⟩ I rfl ry q) (fun r s' hq => ?_) fun _ _ z => z
  obtain ⟨w, H', I', rw', b, rfl, q'⟩ := hq
  obtain rfl : r = Value.bool b := rw'
  exact ⟨.bl b, H', I', rfl, q'⟩
end
end NX
namespace NX
open PySem PySem.W PyProof.Rows Builtin
section
variable {prog : Program} {w : World} {A : Around} {E : Value → Shared → Prop} {s : Shared} {K : Frag} {x C f : Addr} {ox : Obj} {od : Option Obj} {b tb : Value}
/-- object.__ne__ found by the class is bound and called -/
theorem bound_ne {M : Model} {args : List Value} {Q : Option Value → Shared → Prop} (X : K.In s.heap) (I : InstAt s.heap x ox C od) (hs : findIn K (.ref C) "__ne__" = some (some (.builtin "object.__ne__")))
    (h : wpAny M A (call (.builtin "object.__ne__") (.ref x :: args)) (fun v => Q (some v)) E s) : wpAny M A (callSpecialIfBound? (.ref x) "__ne__" args) Q E s := by
  simp only [callSpecialIfBound?, bindSpecialIfBound?]
  refine wpAny_holding (wpAny_bind (wpAny_bind (wpAny_bind (I.type.here ((looks_findIn X hs).here ?_)))))
  simp only [F.cmp_object.ne.bind]
  have last : wpAny M A (call (.builtin "object.__ne__") ([.ref x] ++ args) >>= fun v => pure (some v)) Q E s := wpAny_bind (wpAny_mono h (fun v s' q => wpAny_pure q) fun _ _ q => q)
  refine wpAny_bind (wpAny_askSetting (wpAny_ite ?_))
  split
  · exact wpAny_bind (wpAny_pure (wpAny_pure last))
  · exact wpAny_tryCatch (wpAny_bind (wpAny_pure (wpAny_pure last)))
/-- .. and asks the own equality, whose answer it turns -/
theorem call_ne {Q : Value → Shared → Prop} (hu : A.units + 1 < cLine) (X : K.In s.heap) (I : InstAt s.heap x ox C od) (he : findIn K (.ref C) "__eq__" = some (some (.ref f))) (hf : isFn K (.ref f) = true) (ho : mroIn K C (.type "object") = some true)
    (h : wpAny (model prog w) A.in1 (call (.ref f) [.ref x, b]) (fun v s' => ∃ k, v = .bool k ∧ Q (.bool (!k)) s') E s) : wpAny (model prog w) A (call (.builtin "object.__ne__") [.ref x, b]) Q E s := by
  obtain ⟨hp, g, d, t, os⟩ := s
  have sub : Looks (model prog w) hp (isInstance (.ref x) (.type "object")) true := I.type.andThen (looks_mroIn X ho)
  refine wpAny_call (codeAny_call_builtin F.cmp_object.ne.plain F.cmpEntry_ne (@check_slot (model prog w) _ _ ⟨hp, g, d, t, os⟩ "object.__ne__" "object" "__ne__" (.ref x) [b] [] _ F.cmpKind_ne F.cmpSplit_ne sub (F.cmpArgs_ne _ _) ?_))
  unfold Builtin.«object.__ne__»
  repeat (first
    | with_reducible refine wpAny_cRoomFor (show A.in1.units < cLine from hu) ?_
    | (refine wpAny_bind (m := callSpecialIfBound? (.ref x) (Str.ofString "__eq__") [b]) (ifBound_K X I he hf (wpAny_mono h (fun r s' hr => ?_) fun _ _ e => e)))
    | wp_step)
  obtain ⟨k, rfl, q⟩ := hr
  exact wpAny_bind (wpAny_truthy_bool (wpAny_pure q))
/-- x != b -/
theorem rich_ne {Q : Value → Shared → Prop} (hu : A.units + 1 < cLine) (X : K.In s.heap) (I : InstAt s.heap x ox C od) (hb : Looks (model prog w) s.heap (typeOf b) tb) (hn : notFirst K C tb = true) (hs : findIn K (.ref C) "__ne__" = some (some (.builtin "object.__ne__")))
    (he : findIn K (.ref C) "__eq__" = some (some (.ref f))) (hf : isFn K (.ref f) = true) (ho : mroIn K C (.type "object") = some true)
    (h : wpAny (model prog w) A.in1 (call (.ref f) [.ref x, b]) (fun v s' => ∃ k, v = .bool k ∧ Q (.bool (!k)) s') E s) : wpAny (model prog w) A (richCompare .NotEq (.ref x) b) Q E s := by
  have one : wpAny (model prog w) A (tryCompare (.ref x) "__ne__" b) (fun r s' => ∃ k, r = some (.bool k) ∧ Q (.bool k) s') E s := by
    unfold tryCompare
    refine wpAny_bind (bound_ne X I hs (call_ne (Q := fun v s' => ∃ k, v = .bool k ∧ Q (.bool k) s') hu X I he hf ho (wpAny_mono h (fun v s' ⟨k, e, q⟩ => ⟨k, e, _, rfl, q⟩) fun _ _ e => e) |> fun z => wpAny_mono z (fun v s' ⟨k, e, q⟩ => ?_) fun _ _ e => e))
    subst e
    exact wpAny_pure ⟨k, rfl, q⟩
  unfold richCompare
  simp only [oneThing_ref]
  refine wpAny_holding (wpAny_bind (wpAny_cRoomFor (Nat.lt_of_succ_lt hu) ?_))
  rw [cmpInfo_NotEq]
  dsimp only
  refine wpAny_bind (I.type.here (wpAny_bind (hb.here ?_)))
  split
  · rename_i q
    have e : subIn K tb (.ref C) = some false := by
      rcases Bool.or_eq_true_iff.mp hn with e | e
      · rw [beq_iff_eq.mp e] at q
        simp at q
      · exact beq_iff_eq.mp e
    refine wpAny_bind ((looks_subIn X e).here ?_)
    simp only [Bool.false_eq_true, if_false]
    refine wpAny_bind (wpAny_mono one (fun r s' ⟨k, z, hq⟩ => ?_) fun _ _ e => e)
    subst z
    exact wpAny_pure hq
  · refine wpAny_bind (wpAny_pure ?_)
    simp only [Bool.false_eq_true, if_false]
    refine wpAny_bind (wpAny_mono one (fun r s' ⟨k, z, hq⟩ => ?_) fun _ _ e => e)
    subst z
    exact wpAny_pure hq
end
end NX
namespace NX
open PySem PySem.Spec PyProof.Rows L2
section
variable {X : Cx} {n : Nat} {f : Addr} {fd : FuncData} {ps : List Str} {sp : Sp} {CX : CXT} {E : XK}
theorem op_neOwn (F : FnOk X.prog X.w X.K X.mg X.base CX n f fd ps sp) (hb : Binds X.K fd ps []) (hx : Passes CX X E) (hr : Room (n + 1) X.A) : OpR X (compareOp .NotEq) (rOwn X.K f sp E true) := by
  intro pins s σ H x y u v Q I rx ry h
  obtain ⟨a, C, dx, fs, tb, rfl, ha, T, nf, ty, q⟩ := h
  obtain rfl : u = Value.ref a := rx
  obtain ⟨mA, O, _⟩ := ins_get I.hok ha
  obtain ⟨od, J, _⟩ := O.look
  obtain ⟨P, Z, p, _⟩ := kit_of I ry ty
  show wpAny (model X.prog X.w) X.A (richCompare .NotEq (.ref a) v) (EP X pins σ Q) X.xe s
  refine rich_ne (hu_of hr) I.kIn J (Z.ty _ _ I.kIn p) nf T.ne T.eq T.fn T.ob (wpAny_mono (run_own (x := .ref a) F hb hx ⟨hr.in1, rfl⟩ I rfl ry q) (fun r s' hq => ?_) fun _ _ z => z)
  obtain ⟨w, H', I', rw', b, rfl, q'⟩ := hq
  obtain rfl : r = Value.bool b := rw'
  exact ⟨b, rfl, .bl (!b), H', I', rfl, q'⟩
end
end NX

set_option Elab.async false
set_option linter.all false
set_option maxRecDepth 100000
set_option maxHeartbeats 4000000
/-! What the head tells of classes, errors and defs, in bundles. -/
namespace NX
open PySem L2 LamX PySem.Spec PyProof.Rows
section
variable {K : PySem.W.Frag}
theorem kit_self {C : Addr} : PySem.W.kitOne K (.ref C) (.ref C) = some true := by
  unfold PySem.W.kitOne
  rw [if_pos (beq_self_eq_true _)]
theorem kitCls_of {t : Value} {D : Addr} {b : Bool} (i : PySem.W.isClsIn K D = true) (ty : PySem.W.typeIn K (.ref D) = some (.type "type")) (s : PySem.W.subIn K t (.ref D) = some b) : PySem.W.kitCls K t (.ref D) = some b := by
  have e : ((PySem.W.clsIn K D).isSome && PySem.W.typeIn K (.ref D) == some (.type "type")) = true := by
    have i' : (PySem.W.clsIn K D).isSome = true := i
    rw [i', ty] <;> rfl
  show (if ((PySem.W.clsIn K D).isSome && PySem.W.typeIn K (.ref D) == some (.type "type")) = true then PySem.W.subIn K t (.ref D) else none) = some b
  rw [if_pos e]
  exact s
theorem kit_of {t : Value} {D : Addr} {b : Bool} (ne : (t == .ref D) = false) (i : PySem.W.isClsIn K D = true) (ty : PySem.W.typeIn K (.ref D) = some (.type "type")) (s : PySem.W.subIn K t (.ref D) = some b) : PySem.W.kitOne K t (.ref D) = some b := by
  unfold PySem.W.kitOne
  rw [if_neg (by rw [ne]; exact Bool.false_ne_true)]
  exact kitCls_of i ty s
theorem kit_ref {C D : Addr} {b : Bool} (ne : decide (C = D) = false) (i : PySem.W.isClsIn K D = true) (ty : PySem.W.typeIn K (.ref D) = some (.type "type")) (s : PySem.W.subIn K (.ref C) (.ref D) = some b) : PySem.W.kitOne K (.ref C) (.ref D) = some b :=
  kit_of (by
    have n : C ≠ D := of_decide_eq_false ne
    cases q : ((.ref C : Value) == .ref D) with
    | false => rfl
    | true =>
      have z : (Value.ref C) = .ref D := eq_of_beq q
      cases z
      exact absurd rfl n) i ty s
theorem kit_tyr {T : String} {D : Addr} {b : Bool} (i : PySem.W.isClsIn K D = true) (ty : PySem.W.typeIn K (.ref D) = some (.type "type")) (s : PySem.W.subIn K (.type T) (.ref D) = some b) : PySem.W.kitOne K (.type T) (.ref D) = some b :=
  kit_of (by
    cases q : ((.type T : Value) == .ref D) with
    | false => rfl
    | true =>
      have z : (Value.type T) = .ref D := eq_of_beq q
      cases z) i ty s
theorem kit_rty {T : String} {C : Addr} {b : Bool} (m : PySem.W.kitMeta T = true) (s : PySem.W.subIn K (.ref C) (.type T) = some b) : PySem.W.kitOne K (.ref C) (.type T) = some b := by
  have ne : ((.ref C : Value) == .type T) = false := by
    cases q : ((.ref C : Value) == .type T) with
    | false => rfl
    | true =>
      have z : (Value.ref C) = .type T := eq_of_beq q
      cases z
  unfold PySem.W.kitOne
  rw [if_neg (by rw [ne]; exact Bool.false_ne_true)]
  show (if PySem.W.kitMeta T = true then PySem.W.subIn K (.ref C) (.type T) else none) = some b
  rw [if_pos m]
  exact s
theorem exm_of {C S : Addr} {b : Bool} (h1 : PySem.W.subIn K (.ref S) (.type "BaseException") = some true) (i : PySem.W.isClsIn K S = true) (ty : PySem.W.typeIn K (.ref S) = some (.type "type")) (s : PySem.W.subIn K (.ref C) (.ref S) = some b) : PySem.W.exmOne K (.ref C) (.ref S) = some b := by
  have e1 : (PySem.W.subIn K (.ref S) (.type "BaseException") == some true) = true := by rw [h1] <;> rfl
  show (if (PySem.W.subIn K (.ref S) (.type "BaseException") == some true) = true then PySem.W.kitCls K (.ref C) (.ref S) else none) = some b
  rw [if_pos e1]
  exact kitCls_of i ty s
/-- a def as it stands in the written part -/
structure FnF (K : PySem.W.Frag) (x q : Str) (st : Stmt) (f : Addr) : Prop where
  ex : ∃ fd, Fun K x q st f fd
theorem fnF {x q : Str} {st : Stmt} {f : Addr} {oc : Value} {od an : Option Addr} {osl : Array (Option Value)} {kV doc pm cdv ct : Value} (l : K.lookup f = some ⟨oc, od, .func (PySem.W.fnOf x q (defArgs st) (defBody st) (defScope st) .none kV doc pm an cdv ct), osl⟩)
    (c : PySem.W.codeIn K cdv q = true) (k : PySem.W.keepIn K (.ref f) = true) : FnF K x q st f := ⟨⟨_, fun_mk l c k⟩⟩
/-- a def of ours, with its code object -/
structure FunC (K : PySem.W.Frag) (x : Str) (st : Stmt) (f : Addr) (fd : FuncData) (c : Addr) : Prop where
  ex : ∃ oc od kV doc pm an ct osl, fd = PySem.W.fnOf x x (defArgs st) (defBody st) (defScope st) .none kV doc pm an (.ref c) ct ∧ K.lookup f = some ⟨oc, od, .func fd, osl⟩ ∧ PySem.W.codeIn K (.ref c) x = true
  kp : PySem.W.keepIn K (.ref f) = true
/-- .. and the table of that -/
structure FnT (K : PySem.W.Frag) (x : Str) (st : Stmt) (f c Pc : Addr) : Prop where
  ex : ∃ fd, FunC K x st f fd c
  hd : PySem.W.codeHdIn K c Pc = true
theorem fnT {x : Str} {st : Stmt} {f c Pc : Addr} {oc e1 : Value} {od an e2 : Option Addr} {osl sl : Array (Option Value)} {kV doc pm ct : Value} {vs : Array Value}
    (l : K.lookup f = some ⟨oc, od, .func (PySem.W.fnOf x x (defArgs st) (defBody st) (defScope st) .none kV doc pm an (.ref c) ct), osl⟩)
    (cd : PySem.W.codeIn K (.ref c) x = true) (k : PySem.W.keepIn K (.ref f) = true) (lc : K.lookup c = some ⟨e1, e2, .fields vs, sl⟩) (h11 : vs[11]? = some (.ref Pc)) (hd : PySem.W.codeHdIn K c Pc = true) : FnT K x st f c Pc :=
  ⟨⟨_, ⟨oc, od, kV, doc, pm, an, ct, osl, rfl, l, cd⟩, k⟩, hd⟩
end
theorem FunC.binds {K : PySem.W.Frag} {x : Str} {st : Stmt} {f c : Addr} {fd : FuncData} {ps : List Str} (F : FunC K x st f fd c) (hb : ∀ (kV doc pm : Value) (an : Option Addr) (ct : Value) (us : List Value), us.length = ps.length → bindArgs (PySem.W.fnOf x x (defArgs st) (defBody st) (defScope st) .none kV doc pm an (.ref c) ct) ⟨us, []⟩ = pure (ps.zip us)) : Binds K fd ps [] := by
  obtain ⟨oc, od, kV, doc, pm, an, ct, osl, rfl, lk, hcd⟩ := F.ex
  exact .all fun us hl => hb kV doc pm an ct us hl
/-- an error of ours, which keeps the field y -/
structure ErrF (K : PySem.W.Frag) (x y : Str) (C fI CS : Addr) : Prop where
  g : PySem.W.nsIn K mainGlobals x = some (some (.ref C))
  i : PySem.W.findIn K (.ref C) "__init__" = some (some (.ref fI))
  t : PySem.W.typeIn K (.ref fI) = some (.type "function")
  cls : ∃ nm q N bs sn sub ab col dd k0 k1 k2 k3 k5, K.lookup C = some (excClassObj nm q C N bs [.ref CS, .type "ValueError", .type "Exception", .type "BaseException", .type "object"] true sn sub ab col dd k0 k1 k2 k3 k5 "ValueError.__new__")
  sa : PySem.W.findIn K (.ref C) "__setattr__" = some (some (.builtin "object.__setattr__"))
  ex : PySem.W.subIn K (.ref C) (.type "BaseException") = some true
  ty : PySem.W.typeIn K (.ref C) = some (.type "type")
  kp : PySem.W.keepIn K (.ref C) = true
  v : PySem.W.findIn K (.ref C) y = some none
  ga : PySem.W.findIn K (.ref C) "__getattribute__" = some (some (.builtin "BaseException.__getattribute__"))
  gg : PySem.W.findIn K (.ref C) "__getattr__" = some none
  hd : PySem.W.hasDictIn K C = true
  cl : PySem.W.findIn K (.ref C) "__class__" = some (some (.builtin "object.__class__"))
  ob : PySem.W.mroIn K C (.type "object") = some true
  ic : PySem.W.isClsIn K C = true
  sS : PySem.W.subIn K (.ref C) (.ref CS) = some true
  sV : PySem.W.subIn K (.ref C) (.type "ValueError") = some true
theorem refs5 (CS : Addr) : PySem.HandSPX.refsVE [.ref CS, .type "ValueError", .type "Exception", .type "BaseException", .type "object"] = true := by
  show PySem.HandSPX.refsVE [.type "ValueError", .type "Exception", .type "BaseException", .type "object"] = true
  decide +kernel
/-- what is asked of the base of the errors, and of isinstance -/
structure BaseF (K : PySem.W.Frag) (CS : Addr) : Prop where
  g : PySem.W.nsIn K mainGlobals "StowError" = some (some (.ref CS))
  sB : PySem.W.subIn K (.ref CS) (.type "BaseException") = some true
  sI : PySem.W.isClsIn K CS = true
  sT : PySem.W.typeIn K (.ref CS) = some (.type "type")
  hn : PySem.W.specialIn K (.builtin "object.__class__") "__get__" = some (some (.builtin "getset_descriptor.__get__"))
  ht : PySem.W.takesIn K (.builtin "object.__class__") = some true
/-- a class of ours, made by an __init__ -/
structure ClsF (K : PySem.W.Frag) (x : Str) (C fI : Addr) : Prop where
  g : PySem.W.nsIn K mainGlobals x = some (some (.ref C))
  pg : PySem.W.plainGet K C Str.empty = true
  hd : PySem.W.hasDictIn K C = true
  po : PySem.W.plainOver K C = true
  sa : PySem.W.findIn K (.ref C) "__setattr__" = some (some (.builtin "object.__setattr__"))
  mkC : PySem.W.makesIn K C = true
  ini : PySem.W.findIn K (.ref C) "__init__" = some (some (.ref fI))
  ifn : PySem.W.isFn K (.ref fI) = true
  kp : PySem.W.keepIn K (.ref C) = true
theorem ClsF.cls {K : PySem.W.Frag} {x : Str} {C fI : Addr} (F : ClsF K x C fI) : Cls K C := ⟨F.pg, F.hd, F.po, F.sa⟩
theorem ClsF.mak {K : PySem.W.Frag} {x : Str} {C fI : Addr} (F : ClsF K x C fI) : Mk K C fI := ⟨F.mkC, F.ini, F.ifn, F.kp⟩
/-- a classmethod read off a class -/
structure CmF (K : PySem.W.Frag) (C : Addr) (m : Str) (p g : Addr) : Prop where
  at_ : PySem.W.findCls K (.ref C) (.type "type") m = some (.get (.builtin "classmethod.__get__") (.ref p) .none (.ref C))
  rc : ∃ rest, PySem.W.recIn K p "classmethod" = some (.ref g :: rest)
  fi : PySem.W.fnIn K g = true
structure RdF (K : PySem.W.Frag) (C : Addr) : Prop where
  rd : PySem.W.readsIn K C (.type "type") = true
  ga : PySem.W.specialIn K (.ref C) "__getattribute__" = some (some (.builtin "type.__getattribute__"))
section
variable {P : Program} {w : World} {K : PySem.W.Frag} {mg : Str → Option Value} {base h : Heap}
theorem ErrF.O {x y : Str} {C fI CS : Addr} (E : ErrF K x y C fI CS) : OexC K C := by
  obtain ⟨nm, q, N, bs, sn, sub, ab, col, dd, k0, k1, k2, k3, k5, e⟩ := E.cls
  exact ⟨⟨nm, q, N, bs, _, sn, sub, ab, col, dd, k0, k1, k2, k3, k5, e, refs5 CS⟩, E.sa, E.ex, E.ty, E.kp⟩
theorem ErrF.ec {x y : Str} {C fI CS : Addr} (E : ErrF K x y C fI CS) (B : BaseF K CS) : ExcC K C := ⟨E.ga, E.gg, E.ex, E.hd, E.cl, B.hn, B.ht, E.ob⟩
theorem ErrF.xf {x y : Str} {C fI CS : Addr} (E : ErrF K x y C fI CS) : XfC K C := ⟨E.ga, E.gg, E.ex, E.hd⟩
theorem ErrF.exm {x y : Str} {C fI CS : Addr} (E : ErrF K x y C fI CS) (B : BaseF K CS) : PySem.W.exmOne K (.ref C) (.ref CS) = some true := exm_of B.sB B.sI B.sT E.sS
theorem ErrF.ve {x y : Str} {C fI CS : Addr} (E : ErrF K x y C fI CS) : PySem.W.kitOne K (.ref C) (.type "ValueError") = some true := kit_rty (by decide +kernel) E.sV
/-- the tables of the lambdas: by the code objects of the defs that hold them -/
structure TbF (h : Heap) (K : PySem.W.Frag) (c p : Addr) : Prop where
  hd : PySem.W.CodeHd h c p
  n : K.lookup p = none
end
end NX

set_option Elab.async false
set_option linter.all false
set_option maxRecDepth 100000
set_option maxHeartbeats 4000000
/-! The head by one run in the kernel: the written part is what the end's heap holds at told addresses; what is asked of it is one Bool. -/
namespace HK
open PySem L2 LamX PySem.Spec PyProof.Rows NX
abbrev Fg := PySem.W.Frag
/-! ### addresses by names -/
/-- what the module's name x holds -/
abbrev g (x : Str) : Fg → Addr := fun K => He.ga K x
/-- what the class at C holds under m -/
abbrev m (C : Fg → Addr) (x : Str) : Fg → Addr := fun K => He.ma K (C K) x
/-- the def within a property, a classmethod -/
def inner (T : String) (p : Fg → Addr) : Fg → Addr := fun K => match PySem.W.recIn K (p K) T with
  | some (.ref a :: _) => a
  | _ => 0
/-- the classmethod object that the class at C holds under m -/
def cmO (C : Fg → Addr) (x : Str) : Fg → Addr := fun K => match PySem.W.findCls K (.ref (C K)) (.type "type") x with
  | some (.get _ (.ref p) _ _) => p
  | _ => 0
def codeAt (f : Fg → Addr) : Fg → Addr := fun K => match K.lookup (f K) with
  | some ⟨_, _, .func fd, _⟩ => (match fd.code with
    | .ref c => c
    | _ => 0)
  | _ => 0
def tabAt (f : Fg → Addr) : Fg → Addr := fun K => He.tabOf K (codeAt f K)
/-! ### defs -/
structure Df where
  at_ : Fg → Addr
  name : Str
  qual : Str
  params : Arguments
  body : List Stmt
  scope : Scope
  dfl : List He.Dv := []
  kwd : List (Str × He.Dv) := []
abbrev dOf (a : Fg → Addr) (x q : Str) (st : Stmt) : Df := ⟨a, x, q, defArgs st, defBody st, defScope st, [], []⟩
def fnW (K : Fg) (a : Addr) : He.FnW := match K.lookup a with
  | some ⟨_, _, .func fd, _⟩ => some (fd.name, fd.qualname, fd.params, fd.body, fd.scope, fd.globals, fd.closure, fd.builtins)
  | _ => none
def Df.val (d : Df) : He.FnW := some (d.name, d.qual, d.params, .stmts d.body, d.scope, mainGlobals, [], builtinsNs)
def Df.dvs (K : Fg) (d : Df) : List V := d.dfl.map (He.Dv.v K)
def Df.kws (K : Fg) (d : Df) : List (Str × V) := d.kwd.map fun q => (q.1, q.2.v K)
def Df.ok (K : Fg) (d : Df) : Bool := PySem.W.keepIn K (.ref (d.at_ K)) && (match K.lookup (d.at_ K) with
  | some ⟨_, _, .func fd, _⟩ => PySem.W.codeIn K fd.code d.qual && (He.dflB K fd.defaults (d.dvs K) && He.kwdB K fd.kwdefaults (d.kws K))
  | _ => false)
theorem Df.funD {K : Fg} {d : Df} (e : fnW K (d.at_ K) = d.val) (c : d.ok K = true) : ∃ fd, FunD K d.name d.qual d.params d.body d.scope (d.dvs K) (d.kws K) (d.at_ K) fd := by
  obtain ⟨kp, c2⟩ := He.ba c
  unfold fnW at e
  cases q : K.lookup (d.at_ K) with
  | none =>
    rw [q] at c2
    cases c2
  | some o =>
    obtain ⟨oc, od, dt, osl⟩ := o
    rw [q] at c2 e
    cases dt with
    | func fd =>
      obtain ⟨n1, n2, n3, n4, n5, n6, n7, n8, n9, n10, n11, n12, n13, n14, n15⟩ := fd
      have e2 : (some (n1, n2, n3, n4, n5, n6, n7, n15) : He.FnW) = some (d.name, d.qual, d.params, .stmts d.body, d.scope, mainGlobals, [], builtinsNs) := e
      simp only [Option.some.injEq, Prod.mk.injEq] at e2
      obtain ⟨h1, h2, h3, h4, h5, h6, h7, h8⟩ := e2
      subst h1 h2 h3 h4 h5 h6 h7 h8
      have c3 : (PySem.W.codeIn K n13 d.qual && (He.dflB K n8 (d.dvs K) && He.kwdB K n9 (d.kws K))) = true := c2
      obtain ⟨k1, k2⟩ := He.ba c3
      obtain ⟨k3, k4⟩ := He.ba k2
      exact ⟨_, ⟨oc, od, n8, n9, n10, n11, n12, n13, n14, osl, rfl, q, k1, He.dflB_ok k3, He.kwdB_ok k4⟩, kp⟩
    | _ => cases c2
/-! ### the Hook -/
/-- what is told of the written part K of the heap h -/
structure Says (fn : List Df) (tf : List (Fg → Addr)) (ex : Fg → List Bool) (h : Heap) (K : Fg) : Prop where
  fns : (fn.map fun d => fnW K (d.at_ K)) = fn.map Df.val
  fok : ∀ d ∈ fn, d.ok K = true
  more : (ex K).all id = true
  hd : ∀ f ∈ tf, PySem.W.codeHdIn K (codeAt f K) (tabAt f K) = true
  out : ∀ f ∈ tf, K.lookup (tabAt f K) = none
  empty : ∀ f ∈ tf, h.get? (tabAt f K) = some { cls := .none, data := .fields #[] }
def tabsB (gt : Addr → Option Obj) (tf : List (Fg → Addr)) (K : Fg) : Bool := tf.all fun f => PySem.W.codeHdIn K (codeAt f K) (tabAt f K) && (match gt (tabAt f K) with
  | some o => He.emptyTab o
  | none => false)
abbrev Al : Type := List He.FnW × Bool
def obsK (fn : List Df) (tf : List (Fg → Addr)) (ex : Fg → List Bool) (gt : Addr → Option Obj) (K : Fg) : Al := (fn.map fun d => fnW K (d.at_ K), (fn.all fun d => d.ok K) && ((ex K).all id && tabsB gt tf K))
/-- a list made of its items, before it is looked at -/
def frL {α β : Type} : List α → (List α → β) → β
  | [], k => k []
  | x :: r, k => frL r fun r => k (x :: r)
theorem frL_eq {α β : Type} : ∀ (l : List α) (k : List α → β), frL l k = k l
  | [], _ => rfl
  | x :: r, k => by
    show frL r (fun r => k (x :: r)) = _
    rw [frL_eq r]
def obs (as : List Addr) (fn : List Df) (tf : List (Fg → Addr)) (ex : Fg → List Bool) (gt : Addr → Option Obj) : Al := frL (He.frT gt as) fun K => obsK fn tf ex gt K
def val (fn : List Df) : Al := (fn.map Df.val, true)
theorem says_of {as : List Addr} {fn : List Df} {tf : List (Fg → Addr)} {ex : Fg → List Bool} {h : Heap} (e : obs as fn tf ex h.get? = val fn) : Says fn tf ex h (He.frT h.get? as) := by
  unfold obs at e
  rw [frL_eq] at e
  generalize hK : He.frT h.get? as = K at e
  have e1 : (fn.map fun d => fnW K (d.at_ K)) = fn.map Df.val := congrArg (fun z : Al => z.1) e
  have e2 : ((fn.all fun d => d.ok K) && ((ex K).all id && tabsB h.get? tf K)) = true := congrArg (fun z : Al => z.2) e
  obtain ⟨h1, h2⟩ := He.ba e2
  obtain ⟨h3, h4⟩ := He.ba h2
  have key : ∀ f ∈ tf, PySem.W.codeHdIn K (codeAt f K) (tabAt f K) = true ∧ ∃ o, h.get? (tabAt f K) = some o ∧ He.emptyTab o = true := fun p hp => by
    obtain ⟨h5, h6⟩ := He.ba (List.all_eq_true.mp h4 p hp)
    refine ⟨h5, ?_⟩
    cases q : h.get? (tabAt p K) with
    | none =>
      rw [q] at h6
      cases h6
    | some o =>
      rw [q] at h6
      exact ⟨o, rfl, h6⟩
  refine ⟨e1, fun d hd => List.all_eq_true.mp h1 d hd, h3, fun p hp => (key p hp).1, fun p hp => ?_, fun p hp => ?_⟩
  · obtain ⟨_, o, q, z⟩ := key p hp
    have r := He.frT_none (as := as) q z
    rw [hK] at r
    exact r
  · obtain ⟨_, o, q, z⟩ := key p hp
    rw [q, He.emptyTab_eq z]
def hook (as : List Addr) (fn : List Df) (tf : List (Fg → Addr)) (ex : Fg → List Bool) : PySem.W.Hook where
  α := Al
  obs := fun s => obs as fn tf ex s.heap.get?
  val := fun _ => val fn
  says := fun _ h => ∃ K : Fg, K.In h ∧ Says fn tf ex h K
  of := fun _ _ e => ⟨_, He.frT_in, says_of e⟩
  keeps := fun _ _ _ ⟨K, hK, c⟩ k => ⟨K, PySem.W.Frag.In.keeps hK k, ⟨c.fns, c.fok, c.more, c.hd, c.out, fun p hp => k _ _ (c.empty p hp)⟩⟩
theorem obs_eq {as : List Addr} {fn : List Df} {tf : List (Fg → Addr)} {ex : Fg → List Bool} (s : PySem.W.SharedT) : obs as fn tf ex (HandSHeadRun.getT s) = (hook as fn tf ex).obs s.abs := by
  have e : HandSHeadRun.getT s = s.abs.heap.get? := funext (HandSHeadRun.getT_eq s)
  rw [e] <;> rfl
section
variable {fn : List Df} {tf : List (Fg → Addr)} {ex : Fg → List Bool} {h : Heap} {K : Fg}
theorem Says.def_ (c : Says fn tf ex h K) (i : Nat) {d : Df} (hi : fn[i]? = some d := by rfl) : ∃ fd, FunD K d.name d.qual d.params d.body d.scope (d.dvs K) (d.kws K) (d.at_ K) fd := by
  have e2 : (fn.map fun d => fnW K (d.at_ K))[i]? = (fn.map Df.val)[i]? := by rw [c.fns]
  rw [List.getElem?_map, List.getElem?_map, hi] at e2
  exact Df.funD (Option.some.inj e2) (c.fok d (List.mem_of_getElem? hi))
/-- a def without defaults -/
theorem fnF_of {x q : Str} {st : Stmt} {f : Addr} (h : ∃ fd, FunD K x q (defArgs st) (defBody st) (defScope st) [] [] f fd) : FnF K x q st f := by
  obtain ⟨fd, F⟩ := h
  obtain ⟨oc, od, dV, kV, doc, pm, an, cdv, ct, osl, rfl, lk, hcd, hd, _⟩ := F.ex
  rcases hd with ⟨_, rfl⟩ | ⟨n, _⟩
  · exact fnF lk hcd F.kp
  · exact absurd rfl n
theorem fnT_of {x : Str} {st : Stmt} {f : Addr} (h : ∃ fd, FunD K x x (defArgs st) (defBody st) (defScope st) [] [] f fd) (a : Fg → Addr) (ha : a K = f) (hd : PySem.W.codeHdIn K (codeAt a K) (tabAt a K) = true) : FnT K x st f (codeAt a K) (tabAt a K) := by
  obtain ⟨fd, F⟩ := h
  obtain ⟨oc, od, dV, kV, doc, pm, an, cdv, ct, osl, rfl, lk, hcd, hdd, _⟩ := F.ex
  rcases hdd with ⟨_, rfl⟩ | ⟨n, _⟩
  · obtain ⟨c, rfl⟩ := He.codeIn_ref hcd
    have e : codeAt a K = c := by
      unfold codeAt
      rw [ha, lk]
    refine ⟨⟨_, ⟨oc, od, kV, doc, pm, an, ct, osl, ?_, lk, ?_⟩, F.kp⟩, hd⟩
    · rw [e]
    · rw [e]
      exact hcd
  · exact absurd rfl n
theorem Says.at_ (c : Says fn tf ex h K) (i : Nat) {b : Bool} (hi : (ex K)[i]? = some b := by rfl) : b = true := List.all_eq_true.mp c.more b (List.mem_of_getElem? hi)
end
/-! ### facts as Bools -/
section
variable {K : Fg}
def eqV (a b : Option (Option Value)) : Bool := decide (a = b)
theorem eqV_ok {a b : Option (Option Value)} (h : eqV a b = true) : a = b := of_decide_eq_true h
def eqB (a b : Option Bool) : Bool := decide (a = b)
theorem eqB_ok {a b : Option Bool} (h : eqB a b = true) : a = b := of_decide_eq_true h
def eqT (a b : Option Value) : Bool := decide (a = b)
theorem eqT_ok {a b : Option Value} (h : eqT a b = true) : a = b := of_decide_eq_true h
theorem notB_ok {b : Bool} (h : (!b) = true) : b = false := by
  cases b with
  | false => rfl
  | true => cases h
/-- a constant that is a text, an int -/
def strB (K : Fg) (x z : Str) : Bool := match PySem.W.nsIn K mainGlobals x with
  | some (some (.str y _)) => decide (y = z)
  | _ => false
theorem strB_ok {x z : Str} (h : strB K x z = true) : ∃ t, PySem.W.nsIn K mainGlobals x = some (some (.str z t)) := by
  unfold strB at h
  split at h
  · rename_i y t q
    rw [of_decide_eq_true h] at q
    exact ⟨t, q⟩
  · cases h
def intB (K : Fg) (x : Str) (i : Int) : Bool := match PySem.W.nsIn K mainGlobals x with
  | some (some (.int j _)) => decide (j = i)
  | _ => false
theorem intB_ok {x : Str} {i : Int} (h : intB K x i = true) : ∃ t, PySem.W.nsIn K mainGlobals x = some (some (.int i t)) := by
  unfold intB at h
  split at h
  · rename_i y t q
    rw [of_decide_eq_true h] at q
    exact ⟨t, q⟩
  · cases h
/-- an error class over the base CS -/
def errC (K : Fg) (C CS : Addr) : Bool := match K.lookup C with
  | some ⟨.type T, _, .cls cd, sl⟩ => decide (T = "type") && (decide (cd.mro = [.ref C, .ref CS, .type "ValueError", .type "Exception", .type "BaseException", .type "object"]) && (cd.hasDict && (!cd.hasDel && (match sl.toList with
    | [_, _, _, _, some (.builtin n), _] => decide (n = "ValueError.__new__")
    | _ => false))))
  | _ => false
theorem errC_ok {C CS : Addr} (h : errC K C CS = true) : ∃ nm q N bs sn sub ab col dd k0 k1 k2 k3 k5, K.lookup C = some (excClassObj nm q C N bs [.ref CS, .type "ValueError", .type "Exception", .type "BaseException", .type "object"] true sn sub ab col dd k0 k1 k2 k3 k5 "ValueError.__new__") := by
  unfold errC at h
  split at h
  · rename_i T dd cd sl q
    obtain ⟨h1, h⟩ := He.ba h
    obtain ⟨h2, h⟩ := He.ba h
    obtain ⟨h3, h⟩ := He.ba h
    obtain ⟨h4, h5⟩ := He.ba h
    obtain ⟨nm, bs, mro, ns, qn, hd, sn, sub, ab, col, del⟩ := cd
    have e1 : T = "type" := of_decide_eq_true h1
    have e2 : mro = [.ref C, .ref CS, .type "ValueError", .type "Exception", .type "BaseException", .type "object"] := of_decide_eq_true h2
    have e3 : hd = true := h3
    have e4 : del = false := by
      cases del with
      | false => rfl
      | true => cases h4
    subst e1 e2 e3 e4
    obtain ⟨l⟩ := sl
    split at h5
    · rename_i k0 k1 k2 k3 n k5 hl
      have e5 : n = "ValueError.__new__" := of_decide_eq_true h5
      have hl' : l = [k0, k1, k2, k3, some (.builtin n), k5] := hl
      subst e5 hl'
      exact ⟨nm, qn, ns, bs, sn, sub, ab, col, dd, k0, k1, k2, k3, k5, q⟩
    · cases h5
  · cases h
/-- an error of ours: the class x, its field y -/
def errB (K : Fg) (x y : Str) (C fI CS : Addr) : List Bool :=
  [eqV (PySem.W.nsIn K mainGlobals x) (some (some (.ref C))), eqV (PySem.W.findIn K (.ref C) "__init__") (some (some (.ref fI))), eqT (PySem.W.typeIn K (.ref fI)) (some (.type "function")), errC K C CS,
   eqV (PySem.W.findIn K (.ref C) "__setattr__") (some (some (.builtin "object.__setattr__"))), eqB (PySem.W.subIn K (.ref C) (.type "BaseException")) (some true), eqT (PySem.W.typeIn K (.ref C)) (some (.type "type")), PySem.W.keepIn K (.ref C),
   eqV (PySem.W.findIn K (.ref C) y) (some none), eqV (PySem.W.findIn K (.ref C) "__getattribute__") (some (some (.builtin "BaseException.__getattribute__"))), eqV (PySem.W.findIn K (.ref C) "__getattr__") (some none), PySem.W.hasDictIn K C,
   eqV (PySem.W.findIn K (.ref C) "__class__") (some (some (.builtin "object.__class__"))), eqB (PySem.W.mroIn K C (.type "object")) (some true), PySem.W.isClsIn K C, eqB (PySem.W.subIn K (.ref C) (.ref CS)) (some true), eqB (PySem.W.subIn K (.ref C) (.type "ValueError")) (some true)]
theorem all_at {l : List Bool} (h : l.all id = true) (i : Nat) {b : Bool} (hi : l[i]? = some b := by rfl) : b = true := List.all_eq_true.mp h b (List.mem_of_getElem? hi)
theorem errB_ok {x y : Str} {C fI CS : Addr} (h : (errB K x y C fI CS).all id = true) : ErrF K x y C fI CS :=
  ⟨eqV_ok (all_at h 0), eqV_ok (all_at h 1), eqT_ok (all_at h 2), errC_ok (all_at h 3), eqV_ok (all_at h 4), eqB_ok (all_at h 5), eqT_ok (all_at h 6), all_at h 7, eqV_ok (all_at h 8), eqV_ok (all_at h 9), eqV_ok (all_at h 10), all_at h 11, eqV_ok (all_at h 12), eqB_ok (all_at h 13), all_at h 14, eqB_ok (all_at h 15), eqB_ok (all_at h 16)⟩
def baseB (K : Fg) (CS : Addr) : List Bool :=
  [eqV (PySem.W.nsIn K mainGlobals "StowError") (some (some (.ref CS))), eqB (PySem.W.subIn K (.ref CS) (.type "BaseException")) (some true), PySem.W.isClsIn K CS, eqT (PySem.W.typeIn K (.ref CS)) (some (.type "type")),
   eqV (PySem.W.specialIn K (.builtin "object.__class__") "__get__") (some (some (.builtin "getset_descriptor.__get__"))), eqB (PySem.W.takesIn K (.builtin "object.__class__")) (some true)]
theorem baseB_ok {CS : Addr} (h : (baseB K CS).all id = true) : BaseF K CS := ⟨eqV_ok (all_at h 0), eqB_ok (all_at h 1), all_at h 2, eqT_ok (all_at h 3), eqV_ok (all_at h 4), eqB_ok (all_at h 5)⟩
def clsB (K : Fg) (x : Str) (C fI : Addr) : List Bool :=
  [eqV (PySem.W.nsIn K mainGlobals x) (some (some (.ref C))), PySem.W.plainGet K C Str.empty, PySem.W.hasDictIn K C, PySem.W.plainOver K C, eqV (PySem.W.findIn K (.ref C) "__setattr__") (some (some (.builtin "object.__setattr__"))), PySem.W.makesIn K C,
   eqV (PySem.W.findIn K (.ref C) "__init__") (some (some (.ref fI))), PySem.W.isFn K (.ref fI), PySem.W.keepIn K (.ref C)]
theorem clsB_ok {x : Str} {C fI : Addr} (h : (clsB K x C fI).all id = true) : ClsF K x C fI := ⟨eqV_ok (all_at h 0), all_at h 1, all_at h 2, all_at h 3, eqV_ok (all_at h 4), all_at h 5, eqV_ok (all_at h 6), all_at h 7, all_at h 8⟩
/-- a record's first -/
def recB (K : Fg) (p : Addr) (T : String) (gt : Addr) : Bool := match PySem.W.recIn K p T with
  | some (.ref a :: _) => decide (a = gt)
  | _ => false
theorem recB_ok {p gt : Addr} {T : String} (h : recB K p T gt = true) : ∃ rest, PySem.W.recIn K p T = some (.ref gt :: rest) := by
  unfold recB at h
  split at h
  · rename_i a r q
    rw [of_decide_eq_true h] at q
    exact ⟨r, q⟩
  · cases h
def getB (K : Fg) (C : Addr) (x : Str) (p : Addr) : Bool := match PySem.W.findCls K (.ref C) (.type "type") x with
  | some (.get gg pp ob c) => decide (gg = .builtin "classmethod.__get__") && (decide (pp = .ref p) && (decide (ob = .none) && decide (c = .ref C)))
  | _ => false
theorem getB_ok {C p : Addr} {x : Str} (h : getB K C x p = true) : PySem.W.findCls K (.ref C) (.type "type") x = some (.get (.builtin "classmethod.__get__") (.ref p) .none (.ref C)) := by
  unfold getB at h
  split at h
  · rename_i gg pp ob c q
    obtain ⟨h1, h⟩ := He.ba h
    obtain ⟨h2, h⟩ := He.ba h
    obtain ⟨h3, h4⟩ := He.ba h
    rw [q, of_decide_eq_true h1, of_decide_eq_true h2, of_decide_eq_true h3, of_decide_eq_true h4]
  · cases h
def cmB (K : Fg) (C : Addr) (x : Str) (p gt : Addr) : List Bool := [getB K C x p, recB K p "classmethod" gt, PySem.W.fnIn K gt]
theorem cmB_ok {C p gt : Addr} {x : Str} (h : (cmB K C x p gt).all id = true) : CmF K C x p gt := ⟨getB_ok (all_at h 0), recB_ok (all_at h 1), all_at h 2⟩
def rdB (K : Fg) (C : Addr) : List Bool := [PySem.W.readsIn K C (.type "type"), eqV (PySem.W.specialIn K (.ref C) "__getattribute__") (some (some (.builtin "type.__getattribute__")))]
theorem rdB_ok {C : Addr} (h : (rdB K C).all id = true) : RdF K C := ⟨all_at h 0, eqV_ok (all_at h 1)⟩
/-- a class's constant that is an int, read off the class -/
def cvalI (K : Fg) (C : Addr) (x : Str) (i : Int) : Bool := match PySem.W.findCls K (.ref C) (.type "type") x with
  | some (.val (.int j _)) => decide (j = i)
  | _ => false
theorem cvalI_ok {C : Addr} {x : Str} {i : Int} (h : cvalI K C x i = true) : ∃ t, PySem.W.findCls K (.ref C) (.type "type") x = some (.val (.int i t)) := by
  unfold cvalI at h
  split at h
  · rename_i j t q
    rw [of_decide_eq_true h] at q
    exact ⟨t, q⟩
  · cases h
end
/-! ### the end -/
theorem walkGE {l : PySem.W.OpenLaw} {n k : Nat} {q : Program} {loose : List Str} {XP : (Str → Option Value) → Heap → Prop} {YP : World → Heap → Prop} {d : DefRec} {x : Str} (hn : l.most = some n) (hn2 : n ≤ sizeLine) (hdf : d.params.defaults = []) (hr : Room k callerA) (hi : importsNone q = true)
    (G : ∀ (w : World) (mg : Str → Option Value) (fa : Addr) (h : Heap), YP w h → h.Ns mainGlobals mg → mg d.name = some (.ref fa) → ∃ K : Fg, K.In h ∧ ∃ fd cs sp, LawG l w K k n x mg fa h fd cs sp) :
    PySem.W.WalkO q loose XP YP l.row.toRowW d [] (fun f vs => PySem.call f vs) := by
  refine Att.attach_callB hn hdf fun w s₀ s₁ mg mb fa o pm cd doc a vs ns T Y ho hd hcd hmg hobj hints hlen hbits hgen => ?_
  obtain ⟨K, KX, fd, cs, sp, L⟩ := G w mg fa _ Y T.T.g hmg
  exact endG ⟨KX, L.hT, L.nT, hobj, hints, Nat.le_trans hlen hn2⟩ T.T.g T.T.b T.T.builtins T.T.nolimit hgen L.C T.T.bmain hr (by obtain ⟨mm, ⟨o, es, ep, e, d, _⟩, _⟩ := (T.T.seer hi).mods; exact ⟨o, es, ep, e, d⟩) L.F L.bind (fun H h1 h2 => L.ask H a ns hlen h1 h2)
end HK

set_option Elab.async false
set_option linter.all false
set_option maxRecDepth 100000
set_option maxHeartbeats 0
namespace K71H
open PySem PySem.W PySem.Calls PyProof.Rows NX L2
def top (i : Nat) : Stmt := PySem.Challenge.pw_loopstow_k71_rules_made.main.body.getD i (.Pass ⟨0, 0, 0, 0⟩)
def WORDS : List PySem.Str := ["dead", "far", "old", "clean", "cheap"]
/-- a def's default by keyword -/
def kwA (f : HK.Fg → Addr) (x : PySem.Str) : HK.Fg → Addr := fun K => match K.lookup (f K) with
  | some ⟨_, _, .func fd, _⟩ => (match fd.kwdefaults with
    | .ref D => (match PySem.W.nsIn K D x with
      | some (some (.ref a)) => a
      | _ => 0)
    | _ => 0)
  | _ => 0
/-- a tuple of texts -/
def tupS (K : HK.Fg) (a : Addr) (zs : List PySem.Str) : Bool := match K.lookup a with
  | some ⟨.type c, _, .seq its _, _⟩ => decide (c = "tuple") && (decide (its.size ≤ sizeLine) && He.relAll (zs.map V.str) its.toList)
  | _ => false
theorem tupS_ok {K : HK.Fg} {a : Addr} {zs : List PySem.Str} (h : tupS K a zs = true) (H : Hp) : SqT K H a (zs.map V.str) := by
  unfold tupS at h
  split at h
  · rename_i c od its n sl q
    obtain ⟨h1, h2⟩ := He.ba h
    obtain ⟨h3, h4⟩ := He.ba h2
    exact .inr ⟨_, its, n, q, congrArg Value.type (of_decide_eq_true h1), rfl, of_decide_eq_true h3, He.relAll_ok h4⟩
  · cases h
def valR (K : HK.Fg) (C : Addr) (x : PySem.Str) (a : Addr) : Bool := match PySem.W.findCls K (.ref C) (.type "type") x with
  | some (.val (.ref b)) => decide (b = a)
  | _ => false
theorem valR_ok {K : HK.Fg} {C a : Addr} {x : PySem.Str} (h : valR K C x a = true) : PySem.W.findCls K (.ref C) (.type "type") x = some (.val (.ref a)) := by
  unfold valR at h
  split at h
  · rename_i b q
    rw [q, of_decide_eq_true h]
  · cases h
def a_CS : HK.Fg → Addr := HK.g "StowError"
def a_cR : HK.Fg → Addr := HK.g "BadRule"
def a_cN : HK.Fg → Addr := HK.g "BadName"
def a_cT : HK.Fg → Addr := HK.g "Twice"
def a_C : HK.Fg → Addr := HK.g "Rule"
def a_TW : HK.Fg → Addr := HK.m (HK.g "Rule") "WORDS"
def a_fI : HK.Fg → Addr := HK.m (HK.g "Rule") "__init__"
def a_t0 : HK.Fg → Addr := kwA (HK.m (HK.g "Rule") "__init__") "pins"
def a_pW : HK.Fg → Addr := HK.m (HK.g "Rule") "words"
def a_pP : HK.Fg → Addr := HK.m (HK.g "Rule") "pins"
def a_fER : HK.Fg → Addr := HK.m (HK.g "BadRule") "__init__"
def a_fEN : HK.Fg → Addr := HK.m (HK.g "BadName") "__init__"
def a_fET : HK.Fg → Addr := HK.m (HK.g "Twice") "__init__"
def a_gW : HK.Fg → Addr := HK.inner "property" (HK.m (HK.g "Rule") "words")
def a_gP : HK.Fg → Addr := HK.inner "property" (HK.m (HK.g "Rule") "pins")
def a_fEq : HK.Fg → Addr := HK.m (HK.g "Rule") "__eq__"
def a_fIs : HK.Fg → Addr := HK.g "is_name"
def a_fCns : HK.Fg → Addr := HK.g "check_names"
def a_fCun : HK.Fg → Addr := HK.g "check_unlike"
def a_fPen : HK.Fg → Addr := HK.g "_law_pen"
def a_fDraw : HK.Fg → Addr := HK.g "_law_draw"
def a_fPick : HK.Fg → Addr := HK.g "_law_pick"
def a_fMix : HK.Fg → Addr := HK.g "_law_mixed"
def a_fHeard : HK.Fg → Addr := HK.g "_law_heard"
def a_fDue : HK.Fg → Addr := HK.g "_law_due"
def a_fAlike : HK.Fg → Addr := HK.g "_law_alike_right"
def a_fMade : HK.Fg → Addr := HK.g "_law_made"
def a_cMade : HK.Fg → Addr := HK.codeAt (HK.g "_law_made")
def a_pMade : HK.Fg → Addr := HK.tabAt (HK.g "_law_made")
def a_fLaw : HK.Fg → Addr := HK.g "law"
def a_cLaw : HK.Fg → Addr := HK.codeAt (HK.g "law")
def a_pLaw : HK.Fg → Addr := HK.tabAt (HK.g "law")
def fns : List HK.Df := [HK.dOf a_fER "__init__" "BadRule.__init__" (L2.inClass (top 4) 0),
  HK.dOf a_fEN "__init__" "BadName.__init__" (L2.inClass (top 3) 0),
  HK.dOf a_fET "__init__" "Twice.__init__" (L2.inClass (top 5) 0),
  HK.dOf a_gW "words" "Rule.words" (L2.inClass (top 13) 2),
  HK.dOf a_gP "pins" "Rule.pins" (L2.inClass (top 13) 3),
  HK.dOf a_fEq "__eq__" "Rule.__eq__" (L2.inClass (top 13) 4),
  ⟨a_fI, "__init__", "Rule.__init__", L2.defArgs (L2.inClass (top 13) 1), L2.defBody (L2.inClass (top 13) 1), L2.defScope (L2.inClass (top 13) 1), [], [("pins", .adr a_t0)]⟩,
  HK.dOf a_fIs "is_name" "is_name" (top 9),
  HK.dOf a_fCns "check_names" "check_names" (top 10),
  HK.dOf a_fCun "check_unlike" "check_unlike" (top 11),
  HK.dOf a_fPen "_law_pen" "_law_pen" (top 15),
  HK.dOf a_fDraw "_law_draw" "_law_draw" (top 16),
  HK.dOf a_fPick "_law_pick" "_law_pick" (top 17),
  HK.dOf a_fMix "_law_mixed" "_law_mixed" (top 18),
  HK.dOf a_fHeard "_law_heard" "_law_heard" (top 20),
  HK.dOf a_fDue "_law_due" "_law_due" (top 21),
  HK.dOf a_fAlike "_law_alike_right" "_law_alike_right" (top 22),
  HK.dOf a_fMade "_law_made" "_law_made" (top 19),
  HK.dOf a_fLaw "law" "law" (top 23)]
def tf : List (HK.Fg → Addr) := [a_fMade, a_fLaw]
def ex (K : HK.Fg) : List Bool := [HK.eqV (PySem.W.nsIn K mainGlobals "int") (some none),
  HK.eqV (PySem.W.nsIn K mainGlobals "len") (some none),
  HK.eqV (PySem.W.nsIn K mainGlobals "abs") (some none),
  HK.eqV (PySem.W.nsIn K mainGlobals "list") (some none),
  HK.eqV (PySem.W.nsIn K mainGlobals "str") (some none),
  HK.eqV (PySem.W.nsIn K mainGlobals "tuple") (some none),
  HK.eqV (PySem.W.nsIn K mainGlobals "isinstance") (some none),
  HK.eqV (PySem.W.nsIn K mainGlobals "repr") (some none),
  HK.eqV (PySem.W.nsIn K mainGlobals "range") (some none),
  HK.eqV (PySem.W.nsIn K mainGlobals "enumerate") (some none),
  HK.eqV (PySem.W.nsIn K mainGlobals "ValueError") (some none),
  HK.strB K "LETTERS" "abcdefghijklmnopqrstuvwxyz",
  HK.intB K "MOST_LETTERS" 6,
  (HK.baseB K (a_CS K)).all id,
  (HK.errB K "BadRule" "value" (a_cR K) (a_fER K) (a_CS K)).all id,
  (HK.errB K "BadName" "value" (a_cN K) (a_fEN K) (a_CS K)).all id,
  (HK.errB K "Twice" "name" (a_cT K) (a_fET K) (a_CS K)).all id,
  HK.eqB (PySem.W.kitOne K (.ref (a_cR K)) (.ref (a_cN K))) (some false),
  HK.eqB (PySem.W.kitOne K (.ref (a_cR K)) (.ref (a_cT K))) (some false),
  HK.eqB (PySem.W.kitOne K (.ref (a_cN K)) (.ref (a_cR K))) (some false),
  HK.eqB (PySem.W.kitOne K (.ref (a_cN K)) (.ref (a_cT K))) (some false),
  HK.eqB (PySem.W.kitOne K (.ref (a_cT K)) (.ref (a_cR K))) (some false),
  HK.eqB (PySem.W.kitOne K (.ref (a_cT K)) (.ref (a_cN K))) (some false),
  (HK.clsB K "Rule" (a_C K) (a_fI K)).all id,
  HK.eqV (PySem.W.findIn K (.ref (a_C K)) "_words") (some none),
  HK.eqV (PySem.W.findIn K (.ref (a_C K)) "_pins") (some none),
  HK.eqV (PySem.W.findIn K (.ref (a_C K)) "WORDS") (some (some (.ref (a_TW K)))),
  HK.eqV (PySem.W.specialIn K (.ref (a_TW K)) "__get__") (some none),
  tupS K (a_TW K) WORDS,
  tupS K (a_t0 K) [],
  (HK.rdB K (a_C K)).all id,
  valR K (a_C K) "WORDS" (a_TW K),
  HK.eqV (PySem.W.findIn K (.ref (a_C K)) "__eq__") (some (some (.ref (a_fEq K)))),
  HK.eqV (PySem.W.findIn K (.ref (a_C K)) "__ne__") (some (some (.builtin "object.__ne__"))),
  (PySem.W.isFn K (.ref (a_fEq K))),
  HK.eqB (PySem.W.mroIn K (a_C K) (.type "object")) (some true),
  HK.eqV (PySem.W.findIn K (.ref (a_C K)) "__class__") (some (some (.builtin "object.__class__"))),
  HK.eqB (PySem.W.kitOne K (.type "list") (.ref (a_C K))) (some false),
  HK.eqB (PySem.W.kitOne K (.type "tuple") (.ref (a_C K))) (some false),
  HK.eqB (PySem.W.kitOne K (.ref (a_C K)) (.ref (a_C K))) (some true),
  (PySem.W.notFirst K (a_C K) (.ref (a_C K))),
  (PySem.W.notFirst K (a_C K) (.type "list")),
  (PySem.W.notFirst K (a_C K) (.type "tuple")),
  HK.eqV (PySem.W.findIn K (.ref (a_C K)) "words") (some (some (.ref (a_pW K)))),
  HK.eqV (PySem.W.specialIn K (.ref (a_pW K)) "__get__") (some (some (.builtin "property.__get__"))),
  HK.eqB (PySem.W.takesIn K (.ref (a_pW K))) (some true),
  HK.recB K (a_pW K) "property" (a_gW K),
  HK.eqV (PySem.W.findIn K (.ref (a_C K)) "pins") (some (some (.ref (a_pP K)))),
  HK.eqV (PySem.W.specialIn K (.ref (a_pP K)) "__get__") (some (some (.builtin "property.__get__"))),
  HK.eqB (PySem.W.takesIn K (.ref (a_pP K))) (some true),
  HK.recB K (a_pP K) "property" (a_gP K),
  HK.eqV (PySem.W.nsIn K mainGlobals "is_name") (some (some (.ref (a_fIs K)))),
  HK.eqV (PySem.W.nsIn K mainGlobals "check_names") (some (some (.ref (a_fCns K)))),
  HK.eqV (PySem.W.nsIn K mainGlobals "check_unlike") (some (some (.ref (a_fCun K)))),
  HK.eqV (PySem.W.nsIn K mainGlobals "_law_pen") (some (some (.ref (a_fPen K)))),
  HK.eqV (PySem.W.nsIn K mainGlobals "_law_draw") (some (some (.ref (a_fDraw K)))),
  HK.eqV (PySem.W.nsIn K mainGlobals "_law_pick") (some (some (.ref (a_fPick K)))),
  HK.eqV (PySem.W.nsIn K mainGlobals "_law_mixed") (some (some (.ref (a_fMix K)))),
  HK.eqV (PySem.W.nsIn K mainGlobals "_law_heard") (some (some (.ref (a_fHeard K)))),
  HK.eqV (PySem.W.nsIn K mainGlobals "_law_due") (some (some (.ref (a_fDue K)))),
  HK.eqV (PySem.W.nsIn K mainGlobals "_law_alike_right") (some (some (.ref (a_fAlike K)))),
  HK.eqV (PySem.W.nsIn K mainGlobals "_law_made") (some (some (.ref (a_fMade K)))),
  HK.eqV (PySem.W.nsIn K mainGlobals "law") (some (some (.ref (a_fLaw K)))),
  (!decide ((a_pMade K) = (a_pLaw K)))]
def as_ : List Addr := [3, 2, 6, 4, 21, 38, 58, 77, 96, 105, 112, 119, 162, 173, 180, 187, 192, 199, 206, 211, 218, 225, 0, 20, 37, 57, 76, 95, 104, 111, 118, 161, 172, 179, 186, 191, 198, 205, 210, 217, 224, 15, 16, 17, 18, 19, 35, 36, 39, 55, 56, 74, 75, 93, 94, 99, 100, 101, 102, 103, 106, 107, 108, 109, 110, 113, 114, 115, 116, 117, 127, 136, 144, 152, 159, 160, 163, 164, 167, 168, 169, 170, 171, 174, 175, 176, 177, 178, 181, 182, 183, 184, 185, 188, 189, 190, 193, 194, 195, 196, 197, 200, 201, 202, 203, 204, 207, 208, 209, 212, 213, 214, 215, 216, 219, 220, 221, 222, 223, 34, 54, 73, 92, 135, 129, 143, 151, 158, 29, 30, 31, 32, 33, 49, 50, 51, 52, 53, 68, 69, 70, 71, 72, 87, 88, 89, 90, 91, 130, 131, 132, 133, 134, 128, 142, 150, 153, 154, 155, 156, 157, 137, 138, 139, 140, 141, 145, 146, 147, 148, 149]
abbrev R : OpenRow := OpenLaw.row PySem.Challenge.rw_loopstow_k71_rules_made
def loose : List PySem.Str := (["_wall", "StowError", "BadName", "BadRule", "Twice", "LETTERS", "MOST_LETTERS", "is_name", "check_names", "check_unlike", "Rule", "_law_pen", "_law_draw", "_law_pick", "_law_mixed", "_law_made", "_law_heard", "_law_due", "_law_alike_right"] : List PySem.Str)
abbrev hk : Hook := HK.hook as_ fns tf ex
def ob (s : SharedT) : HK.Al := HK.obs as_ fns tf ex (HandSHeadRun.getT s)
theorem run (w : World) : HandSHeadRun.RunEq R (view R.prog [23]) hk ob 20000 loose w := by
  intro os
  kernel_rfl
end K71H
set_option Elab.async false
set_option linter.all false
set_option maxRecDepth 100000
set_option maxHeartbeats 4000000
namespace K71
open PySem L2
def top (i : Nat) : Stmt := PySem.Challenge.pw_loopstow_k71_rules_made.main.body.getD i (.Pass ⟨0, 0, 0, 0⟩)
abbrev sPen : Stmt := top 15
abbrev sDraw : Stmt := top 16
abbrev sPick : Stmt := top 17
/-- the pen's dict -/
def pd (c : Addr) (r s n : Int) : List (Key × V) := [(.inr "cells", .ref c), (.inr "rest", .int r), (.inr "seed", .int s), (.inr "count", .int n)]
theorem put_r (c : Addr) (r s n x : Int) : putK (pd c r s n) (.inr (Str.ofString "rest")) (.int x) = pd c x s n := by rfl
theorem put_s (c : Addr) (r s n x : Int) : putK (pd c r s n) (.inr (Str.ofString "seed")) (.int x) = pd c r x n := by rfl
theorem put_n (c : Addr) (r s n x : Int) : putK (pd c r s n) (.inr (Str.ofString "count")) (.int x) = pd c r s x := by rfl
theorem val_c (c : Addr) (r s n : Int) : valV (pd c r s n) (.inr (Str.ofString "cells")) = some (.ref c) := by rfl
theorem val_r (c : Addr) (r s n : Int) : valV (pd c r s n) (.inr (Str.ofString "rest")) = some (.int r) := by rfl
theorem val_s (c : Addr) (r s n : Int) : valV (pd c r s n) (.inr (Str.ofString "seed")) = some (.int s) := by rfl
theorem val_n (c : Addr) (r s n : Int) : valV (pd c r s n) (.inr (Str.ofString "count")) = some (.int n) := by rfl
theorem pd_len {c : Addr} {r s n : Int} : (pd c r s n).length < sizeLine := by show 4 < sizeLine; decide
/-- the pen at p: its cells at c, what is left of a cell, the seed, how many draws were made without a cell -/
structure Pen (H : Hp) (p c : Addr) (ns : List Int) (r s n : Int) : Prop where
  hp : H p = some (.dK (pd c r s n))
  hc : H c = some (.lst (ns.map V.int))
  lr : 0 ≤ r
  ls : 0 ≤ s
  lt : s < 2147483587
  ln : 0 ≤ n
theorem Pen.ne {H : Hp} {p c : Addr} {ns : List Int} {r s n : Int} (P : Pen H p c ns r s n) : c ≠ p := fun e => by
  have h1 := P.hp
  rw [← e, P.hc] at h1
  injection h1 with h
  cases h
/-- all but what stands at p and c is as it was -/
def But (p c : Addr) (H H' : Hp) : Prop := ∀ b o, H b = some o → b ≠ p → b ≠ c → H' b = some o
/-- what a draw leaves -/
def Drawn (H : Hp) (p c : Addr) (m : Int) (H' : Hp) : Prop := ∃ ns r s n, Pen H' p c ns r s n ∧ n ≤ m ∧ But p c H H'
def spDraw : Sp := fun vs H Q _ => ∃ (p c : Addr) (ns : List Int) (r s n many : Int), vs = [.ref p, .int many] ∧ Pen H p c ns r s n ∧ n ≤ 1000000 ∧ 1 ≤ many ∧ many < 1000000000 ∧
  ∀ d H', 0 ≤ d → d < many → Drawn H p c (n + 1) H' → Q (.int d) H'
theorem scDraw : FnScope ["_law_pen_here", "_law_many", "_law_cell", "_law_digit"] ["_law_pen_here", "_law_many"] (defScope sDraw) := ⟨rfl, rfl, rfl, by decide +kernel, rfl, by decide +kernel, by decide +kernel⟩
theorem dpInts {K : PySem.W.Frag} {H : Hp} : ∀ ns : List Int, DpAll K H (ns.map V.int) (ns.map PyData.int)
  | [] => .nil
  | n :: r => .cons (.int n) (dpInts r)
structure TxtB (mg : Str → Option Value) : Prop where
  bint : mg "int" = none
  blen : mg "len" = none
  babs : mg "abs" = none
  blist : mg "list" = none
  bstr : mg "str" = none
  btuple : mg "tuple" = none
  bisinstance : mg "isinstance" = none
  brepr : mg "repr" = none
  brange : mg "range" = none
  benumerate : mg "enumerate" = none
  bVE : mg "ValueError" = none
section
variable {P : Program} {w : World} {K : PySem.W.Frag} {mg : Str → Option Value} {base : Heap}
theorem get_r {H : Hp} {p c : Addr} {ns : List Int} {r s n : Int} (P : Pen H p c ns r s n) : DGet H p (.str (Str.ofString "rest")) (some (.int r)) := DGet.k (k := .inr (Str.ofString "rest")) P.hp
theorem get_s {H : Hp} {p c : Addr} {ns : List Int} {r s n : Int} (P : Pen H p c ns r s n) : DGet H p (.str (Str.ofString "seed")) (some (.int s)) := DGet.k (k := .inr (Str.ofString "seed")) P.hp
theorem get_n {H : Hp} {p c : Addr} {ns : List Int} {r s n : Int} (P : Pen H p c ns r s n) : DGet H p (.str (Str.ofString "count")) (some (.int n)) := DGet.k (k := .inr (Str.ofString "count")) P.hp
theorem get_c {H : Hp} {p c : Addr} {ns : List Int} {r s n : Int} (P : Pen H p c ns r s n) : DGet H p (.str (Str.ofString "cells")) (some (.ref c)) := DGet.k (k := .inr (Str.ofString "cells")) P.hp
theorem ok_draw {f : Addr} {fd : FuncData} (F : Fun K "_law_draw" "_law_draw" sDraw f fd) (T : TxtB mg) : FnOk P w K mg base CX0 1 f fd ["_law_pen_here", "_law_many"] spDraw := by
  refine F.ok scDraw (fun vs H Q E h => ?_) (fun cdv A outer s H vs Q E hr h => ?_)
  · obtain ⟨p, c, ns, r, s, n, m, rfl, _⟩ := h
    rfl
  · obtain ⟨p, c, ns, r, sd, n, many, rfl, Pn, hn, hm1, hm2, k⟩ := h
    have hu := hu_of hr
    refine ⟨_, (C8.pss_cut (ps_if (PW.pt (pw_and (pt_cmpR op_eq (pe_dget hu (pv 0) pe_str (fun _ _ => rfl)) pe_int (nomark _)) (pw_and1 (pt_cmpR (op_neD hr.units) (pe_dget hu (pv 0) pe_str (fun _ _ => rfl)) (pe_lst pa_nil) (nomark _))))) (pss_cons (ps_set (i := 2) scDraw.nd rfl (Or.inl rfl) (pe_callB call_abs (by rfl) T.babs (by decide +kernel) (pa_cons (pe_callTy call_int1 (by rfl) T.bint (by decide +kernel) (pa_cons (pe_bm PySem.F.plainAttrs_list PySem.F.slot_list_pop PySem.F.type_list_pop mt_popAt (pe_dget hu (pv 0) pe_str (fun _ _ => rfl)) (pa_cons pe_int pa_nil)) pa_nil)) pa_nil)))
      (pss_cons (ps_dput hu (pv 0) pe_str (pv 2) rfl)
      (pss_one (ps_dput hu (pv 0) pe_str (pe_op op_mod (pe_callTy call_int1 (by rfl) T.bint (by decide +kernel) (pa_cons (pe_op op_add (pe_op op_mul (pe_callTy call_int1 (by rfl) T.bint (by decide +kernel) (pa_cons (pe_dget hu (pv 0) pe_str (fun _ _ => rfl)) pa_nil)) pe_int) (pv 2)) pa_nil)) pe_int) rfl)))) pss_nil)
      (pss_cons (ps_if (pt_cmpR op_gt (pe_dget hu (pv 0) pe_str (fun _ _ => rfl)) pe_int (nomark _)) (pss_cons (ps_set (i := 3) scDraw.nd rfl (Or.inl rfl) (pe_op op_mod (pe_callTy call_int1 (by rfl) T.bint (by decide +kernel) (pa_cons (pe_dget hu (pv 0) pe_str (fun _ _ => rfl)) pa_nil)) (pv 1)))
      (pss_cons (ps_dput hu (pv 0) pe_str (pe_op op_fdiv (pe_callTy call_int1 (by rfl) T.bint (by decide +kernel) (pa_cons (pe_dget hu (pv 0) pe_str (fun _ _ => rfl)) pa_nil)) (pv 1)) rfl)
      (pss_one (ps_ret (pv 3))))) pss_nil)
      (pss_cons (ps_dput hu (pv 0) pe_str (pe_op op_add (pe_callTy call_int1 (by rfl) T.bint (by decide +kernel) (pa_cons (pe_dget hu (pv 0) pe_str (fun _ _ => rfl)) pa_nil)) pe_int) rfl)
      (pss_cons (ps_dput hu (pv 0) pe_str (pe_op op_mod (pe_callTy call_int1 (by rfl) T.bint (by decide +kernel) (pa_cons (pe_op op_add (pe_op op_mul (pe_callTy call_int1 (by rfl) T.bint (by decide +kernel) (pa_cons (pe_dget hu (pv 0) pe_str (fun _ _ => rfl)) pa_nil)) pe_int) (pe_op op_mul pe_int (pe_callTy call_int1 (by rfl) T.bint (by decide +kernel) (pa_cons (pe_dget hu (pv 0) pe_str (fun _ _ => rfl)) pa_nil)))) pa_nil)) pe_int) rfl)
      (pss_one (ps_ret (pe_op op_mod (pe_callTy call_int1 (by rfl) T.bint (by decide +kernel) (pa_cons (pe_op op_fdiv (pe_callTy call_int1 (by rfl) T.bint (by decide +kernel) (pa_cons (pe_dget hu (pv 0) pe_str (fun _ _ => rfl)) pa_nil)) pe_int) pa_nil)) (pv 1)))))))), ?_⟩
    refine ⟨fun σ H' => ∃ (v2 v3 : Option V) (ns' : List Int) (r' s' : Int), σ = [some (.ref p), some (.int many), v2, v3] ∧ Pen H' p c ns' r' s' n ∧ But p c H H', ?_, ?_⟩
    · refine ⟨_, rfl, p, _, rfl, get_r Pn, rfl, _, rfl, ite2 (fun h0 => ?_) (fun h0 => iteF ⟨none, none, ns, r, sd, rfl, Pn, fun b o h _ _ => h⟩)⟩
      refine ⟨_, rfl, p, _, rfl, get_c Pn, by decide, fun l hl => ?_⟩
      have npl : p ≠ l := ne_of_none Pn.hp hl
      have ncl : c ≠ l := ne_of_none Pn.hc hl
      have P2 : Pen (upd H l (.lst [])) p c ns r sd n := ⟨by rw [upd_ne npl]; exact Pn.hp, by rw [upd_ne ncl]; exact Pn.hc, Pn.lr, Pn.ls, Pn.lt, Pn.ln⟩
      have B2 : But p c H (upd H l (.lst [])) := fun b o hb _ _ => by rw [upd_ne (ne_of_none hb hl)]; exact hb
      refine ⟨_, _, .lst (SqL.of P2.hc) (dpInts ns), .lst (SqL.of upd_same) .nil, PySem.W.ke_shaped_ints ns, by decide +kernel, _, rfl, ?_⟩
      cases ns with
      | nil => exact iteF ⟨none, none, [], r, sd, rfl, P2, B2⟩
      | cons n0 nr =>
        refine iteT ?_
        have tyL : ∀ {H2 : Hp}, H2 c = some (.lst ((n0 :: nr).map V.int)) → tyV K "list" (.ref c) H2 := fun h => .inl ⟨rfl, _, SqL.of h⟩
        refine ⟨_, rfl, p, _, rfl, get_c P2, tyL P2.hc, c, _, 0, 0, .int n0, rfl, rfl, P2.hc, by decide, by decide, ?_, rfl, .inl ⟨n0, rfl, n0, rfl, ?_⟩⟩
        · show seqIndex? 0 ((n0 :: nr).map V.int).length = some 0
          rw [List.length_map, List.length_cons]
          unfold seqIndex?
          simp
          try omega
        have P3 : Pen (upd (upd H l (.lst [])) c (.lst (((n0 :: nr).map V.int).eraseIdx 0))) p c nr r sd n := ⟨by rw [upd_ne Pn.ne.symm]; exact P2.hp, upd_same, Pn.lr, Pn.ls, Pn.lt, Pn.ln⟩
        have B3 : But p c H (upd (upd H l (.lst [])) c (.lst (((n0 :: nr).map V.int).eraseIdx 0))) := fun b o hb n1 n2 => by rw [upd_ne n2]; exact B2 b o hb n1 n2
        have hab : (0 : Int) ≤ if n0 < 0 then -n0 else n0 := by split <;> omega
        clear B2 P2
        generalize (upd (upd H l (.lst [])) c (.lst (((n0 :: nr).map V.int).eraseIdx 0))) = G3 at *
        refine ⟨_, rfl, _, rfl, p, _, rfl, DPut.k (k := .inr (Str.ofString "rest")) P3.hp pd_len, ?_⟩
        rw [put_r]
        have P4 : Pen (upd G3 p (.dK (pd c (if n0 < 0 then -n0 else n0) sd n))) p c nr (if n0 < 0 then -n0 else n0) sd n := ⟨upd_same, by rw [upd_ne Pn.ne]; exact P3.hc, hab, Pn.ls, Pn.lt, Pn.ln⟩
        have B4 : But p c H (upd G3 p (.dK (pd c (if n0 < 0 then -n0 else n0) sd n))) := fun b o hb n1 n2 => by rw [upd_ne n1]; exact B3 b o hb n1 n2
        generalize (upd G3 p (.dK (pd c (if n0 < 0 then -n0 else n0) sd n))) = G4 at *
        refine ⟨_, rfl, p, _, rfl, get_s P4, .inl ⟨sd, rfl, sd, 41, rfl, rfl, .inr ⟨by decide, by decide⟩, _, rfl, _, _, rfl, rfl, .inl ⟨_, rfl, _, _, rfl, rfl, (by show (0 : Int) < 2147483587; decide), _, rfl, p, _, rfl, DPut.k (k := .inr (Str.ofString "seed")) P4.hp pd_len, ?_⟩⟩⟩
        rw [put_s]
        exact ⟨_, none, nr, _, _, rfl, ⟨upd_same, by rw [upd_ne Pn.ne]; exact P4.hc, hab, Int.emod_nonneg _ (by decide), Int.emod_lt_of_pos _ (by decide), Pn.ln⟩, fun b o hb n1 n2 => by rw [upd_ne n1]; exact B4 b o hb n1 n2⟩
    · rintro σ' H' ⟨v2, v3, ns', r', s', rfl, P2, B2⟩
      refine ⟨_, rfl, p, _, rfl, get_r P2, _, _, rfl, rfl, _, rfl, ite2 (fun h0 => ?_) (fun h0 => ?_)⟩
      · have h0 := of_decide_eq_true h0
        refine ⟨_, rfl, p, _, rfl, get_r P2, .inl ⟨r', rfl, _, rfl, r', many, rfl, rfl, (by show 0 < many; omega), ?_⟩⟩
        refine ⟨_, rfl, p, _, rfl, get_r P2, .inl ⟨r', rfl, _, rfl, r', many, rfl, rfl, ⟨by omega, by omega⟩, ?_⟩⟩
        refine ⟨_, rfl, p, _, rfl, DPut.k (k := .inr (Str.ofString "rest")) P2.hp pd_len, _, rfl, ?_⟩
        rw [put_r]
        exact k _ _ (Int.emod_nonneg _ (by omega)) (Int.emod_lt_of_pos _ (by omega)) ⟨ns', r' / many, s', n, ⟨upd_same, by rw [upd_ne Pn.ne]; exact P2.hc, Int.ediv_nonneg P2.lr (by omega), P2.ls, P2.lt, P2.ln⟩, by omega, fun b o hb n1 n2 => by rw [upd_ne n1]; exact B2 b o hb n1 n2⟩
      · have ls := P2.ls
        have lt := P2.lt
        have ln := P2.ln
        refine ⟨_, rfl, p, _, rfl, get_n P2, .inl ⟨n, rfl, _, _, rfl, rfl, _, rfl, p, _, rfl, DPut.k (k := .inr (Str.ofString "count")) P2.hp pd_len, ?_⟩⟩
        rw [put_n]
        have P3 : Pen (upd H' p (.dK (pd c r' s' (n + 1)))) p c ns' r' s' (n + 1) := ⟨upd_same, by rw [upd_ne Pn.ne]; exact P2.hc, P2.lr, P2.ls, P2.lt, by omega⟩
        have B3 : But p c H (upd H' p (.dK (pd c r' s' (n + 1)))) := fun b o hb n1 n2 => by rw [upd_ne n1]; exact B2 b o hb n1 n2
        generalize (upd H' p (.dK (pd c r' s' (n + 1)))) = G3 at *
        refine ⟨_, rfl, p, _, rfl, get_s P3, .inl ⟨s', rfl, s', 69621, rfl, rfl, .inr ⟨by decide, by decide⟩, ?_⟩⟩
        refine ⟨_, rfl, p, _, rfl, get_n P3, .inl ⟨_, rfl, 30011, _, rfl, rfl, .inl ⟨by decide, by decide⟩, ?_⟩⟩
        refine ⟨_, _, rfl, rfl, .inl ⟨_, rfl, _, _, rfl, rfl, (by show (0 : Int) < 2147483587; decide), _, rfl, p, _, rfl, DPut.k (k := .inr (Str.ofString "seed")) P3.hp pd_len, ?_⟩⟩
        rw [put_s]
        obtain ⟨M, hM⟩ : ∃ M : Int, M = (s' * 69621 + 30011 * (n + 1)) % 2147483587 := ⟨_, rfl⟩
        have m3 : 0 ≤ M := by rw [hM]; exact Int.emod_nonneg _ (by decide)
        have m4 : M < 2147483587 := by rw [hM]; exact Int.emod_lt_of_pos _ (by decide)
        rw [← hM]
        have P4 : Pen (upd G3 p (.dK (pd c r' M (n + 1)))) p c ns' r' M (n + 1) := ⟨upd_same, by rw [upd_ne Pn.ne]; exact P3.hc, P2.lr, m3, m4, by omega⟩
        have B4 : But p c H (upd G3 p (.dK (pd c r' M (n + 1)))) := fun b o hb n1 n2 => by rw [upd_ne n1]; exact B3 b o hb n1 n2
        generalize (upd G3 p (.dK (pd c r' M (n + 1)))) = G4 at *
        refine ⟨_, rfl, p, _, rfl, get_s P4, .inl ⟨M, rfl, M, 64, rfl, rfl, ⟨by decide, by decide⟩, .inl ⟨_, rfl, _, rfl, _, many, rfl, rfl, (by show 0 < many; omega), ?_⟩⟩⟩
        exact k _ _ (Int.emod_nonneg _ (by omega)) (Int.emod_lt_of_pos _ (by omega)) ⟨ns', r', M, n + 1, P4, by omega, B4⟩
end
end K71

set_option Elab.async false
set_option linter.all false
set_option maxRecDepth 100000
set_option maxHeartbeats 4000000
namespace K71
open PySem L2
theorem But.seq {K : PySem.W.Frag} {H H' : Hp} {p c a : Addr} {xs : List V} (B : But p c H H') (n : a ≠ p) (m : a ≠ c) (h : SqL K H a xs) : SqL K H' a xs := by
  rcases h with (h | ⟨o, h⟩) | h
  · exact .inl (.inl (B _ _ h n m))
  · exact .inl (.inr ⟨o, B _ _ h n m⟩)
  · exact .inr h
theorem But.trans {p c : Addr} {H H1 H2 : Hp} (a : But p c H H1) (b : But p c H1 H2) : But p c H H2 := fun d o h n m => b d o (a d o h n m) n m
theorem But.refl {p c : Addr} {H : Hp} : But p c H H := fun _ _ h _ _ => h
theorem But.same {p c : Addr} {H H1 : Hp} (s : Same H H1) : But p c H H1 := fun b o h _ _ => s b o h
theorem Same.new {a : Addr} {H : Hp} {o : HO} (h : H a = none) : Same H (upd H a o) := fun b u e => by rw [upd_ne (ne_of_none e h)]; exact e
theorem Pen.same {H H' : Hp} {p c : Addr} {ns : List Int} {r s n : Int} (P : Pen H p c ns r s n) (e : Same H H') : Pen H' p c ns r s n := ⟨e _ _ P.hp, e _ _ P.hc, P.lr, P.ls, P.lt, P.ln⟩
def spPen (K : PySem.W.Frag) : Sp := fun vs H Q _ => ∃ (a : Addr) (ns : List Int), vs = [.ref a] ∧ SqL K H a (ns.map V.int) ∧ ∀ (p c : Addr) (ms : List Int) (H' : Hp), H p = none → H c = none → Pen H' p c ms 0 29 0 → Same H H' → Q (.ref p) H'
theorem scPen : FnScope ["_law_script"] ["_law_script"] (defScope sPen) := ⟨rfl, rfl, rfl, by decide +kernel, rfl, by decide +kernel, by decide +kernel⟩
def spPick (K : PySem.W.Frag) : Sp := fun vs H Q _ => ∃ (p c : Addr) (ns : List Int) (r s n : Int) (a : Addr) (xs : List V), vs = [.ref p, .ref a] ∧ Pen H p c ns r s n ∧ n ≤ 1000000 ∧ SqL K H a xs ∧ a ≠ p ∧ a ≠ c ∧ 0 < xs.length ∧ xs.length < 1000 ∧
  ∀ v H', v ∈ xs → Drawn H p c (n + 1) H' → Q v H'
theorem scPick : FnScope ["_law_pen_here", "_law_some"] ["_law_pen_here", "_law_some"] (defScope sPick) := ⟨rfl, rfl, rfl, by decide +kernel, rfl, by decide +kernel, by decide +kernel⟩
def cutM (ns : List Int) : List Int := (ns.drop (HT.sIx ns.length 0 none)).take (HT.sIx ns.length ns.length (some 60) - HT.sIx ns.length 0 none)
section
variable {P : Program} {w : World} {K : PySem.W.Frag} {mg : Str → Option Value} {base : Heap}
theorem ok_pen {f : Addr} {fd : FuncData} (F : Fun K "_law_pen" "_law_pen" sPen f fd) (T : TxtB mg) : FnOk P w K mg base CX0 1 f fd ["_law_script"] (spPen K) := by
  refine F.ok scPen (fun vs H Q E h => ?_) (fun cdv A outer s H vs Q E hr h => ?_)
  · obtain ⟨a, ns, rfl, _⟩ := h
    rfl
  · obtain ⟨a, ns, rfl, hS, k⟩ := h
    refine ⟨_, (pss_one (ps_ret (pe_disp (pps_cons pe_str (pe_callTy call_list_of (by rfl) T.blist (by decide +kernel) (pa_cons (pe_slice sl_list (pv 0) po_none (po_some pe_int)) pa_nil)) (pps_cons pe_str pe_int (pps_cons pe_str pe_int (pps_cons pe_str pe_int pps_nil)))) rfl rfl (by intro h; cases h) (by decide)))), ?_⟩
    intro p hp
    have s0 : Same H (upd H p (.dK [])) := Same.new hp
    have sq : SqL K (upd H p (.dK [])) a (ns.map V.int) := by
      rcases hS with (h | ⟨o, h⟩) | h
      · exact .inl (.inl (s0 _ _ h))
      · exact .inl (.inr ⟨o, s0 _ _ h⟩)
      · exact .inr h
    refine ⟨_, rfl, _, rfl, a, ns.map V.int, rfl, sq, fun d hd => ⟨d, _, rfl, .inl (SqL.of upd_same), fun c hc => ?_⟩⟩
    have s1 := s0.trans (Same.new (o := .lst (cutV (ns.map V.int) none (some 60))) hd)
    have s2 := s1.trans (Same.new (o := .lst (cutV (ns.map V.int) none (some 60))) hc)
    have n1 : p ≠ d := ne_of_none upd_same hd
    have n2 : p ≠ c := ne_of_none (by rw [upd_ne n1]; exact upd_same) hc
    have e : cutV (ns.map V.int) none (some 60) = (cutM ns).map V.int := by
      unfold cutV cutM
      rw [← List.map_drop, ← List.map_take, List.length_map]
    refine ⟨by rw [upd_ne n2, upd_ne n1]; exact upd_same, pd c 0 29 0, rfl, by show 4 ≤ 15; decide, ?_⟩
    have hm : mergeK [] (pd c 0 29 0) = pd c 0 29 0 := rfl
    rw [hm]
    refine k p c (cutM ns) _ hp (s1.free hc) ⟨upd_same, ?_, Int.le_refl _, by decide, by decide, Int.le_refl _⟩ (fun b o hb => ?_)
    · rw [upd_ne n2.symm, upd_same, e]
    · rw [upd_ne (ne_of_none hb hp)]
      exact s2 b o hb
theorem ok_pick {f : Addr} {fd : FuncData} (F : Fun K "_law_pick" "_law_pick" sPick f fd) (T : TxtB mg) (cDraw : C8.Cal P w K mg base 1 "_law_draw" spDraw []) : FnOk P w K mg base CX0 2 f fd ["_law_pen_here", "_law_some"] (spPick K) := by
  refine F.ok scPick (fun vs H Q E h => ?_) (fun cdv A outer s H vs Q E hr h => ?_)
  · obtain ⟨p, c, ns, r, s, n, a, xs, rfl, _⟩ := h
    rfl
  · obtain ⟨p, c, ns, r, sd, n, a, xs, rfl, Pn, hn, hS, h1, h2, h3, h4, k⟩ := h
    refine ⟨_, (pss_one (ps_ret (pe_ix ix_list (pv 1) (C8.pe_c cDraw hr (by decide) rfl (pa_cons (pv 0) (pa_cons (pe_callB call_len_seq (by rfl) T.blen (by decide +kernel) (pa_cons (pv 1) pa_nil)) pa_nil))) (fun _ _ => rfl)))), ?_⟩
    refine ⟨_, rfl, _, rfl, _, rfl, a, xs, rfl, .inl hS, ?_⟩
    refine ⟨p, c, ns, r, sd, n, _, rfl, Pn, hn, by omega, by omega, fun d H' d0 d1 hD => ?_⟩
    obtain ⟨_, _, _, _, _, _, hB⟩ := id hD
    obtain ⟨j, rfl⟩ := Int.eq_ofNat_of_zero_le d0
    have hj : j < xs.length := by omega
    exact ⟨a, xs, _, xs[j], rfl, rfl, hB.seq h1 h2 hS, atI_nat (List.getElem?_eq_getElem hj), k _ _ (List.getElem_mem hj) hD⟩
end
end K71

set_option linter.all false
namespace NX
open PySem PySem.Builtin PySem.Builtin.Str
theorem tw_all {p : Nat → Bool} : ∀ {l : List Nat}, l.all p = true → l.takeWhile p = l
  | [], _ => rfl
  | c :: r, h => by
    rw [List.all_cons, Bool.and_eq_true] at h
    rw [List.takeWhile_cons, if_pos h.1, tw_all h.2]
theorem tw_lt {p : Nat → Bool} {l : List Nat} (h : l.all p = false) : (l.takeWhile p).length < l.length := by
  induction l with
  | nil => simp at h
  | cons c r ih =>
    rw [List.all_cons] at h
    rw [List.takeWhile_cons]
    by_cases hc : p c = true
    · rw [if_pos hc, List.length_cons, List.length_cons]
      rw [hc, Bool.true_and] at h
      have := ih h
      omega
    · rw [if_neg hc]
      simp
theorem drop_all {p : Nat → Bool} {l : List Nat} (h : l.all p = false) : (l.drop (l.takeWhile p).length).all p = false := by
  induction l with
  | nil => simp at h
  | cons c r ih =>
    rw [List.all_cons] at h
    rw [List.takeWhile_cons]
    by_cases hc : p c = true
    · rw [if_pos hc, List.length_cons, List.drop_succ_cons]
      rw [hc, Bool.true_and] at h
      exact ih h
    · rw [if_neg hc]
      simp [hc]
theorem strip_empty (x y : Str) : (Txt.stripChars x y = ("" : Str)) ↔ x.cps.toList.all y.cps.contains = true := by
  have len : x.length = x.cps.toList.length := by show x.cps.size = _; simp
  have empty : ∀ {z : Str}, z = ("" : Str) ↔ z.cps.toList = [] := fun {z} => by
    constructor
    · intro e
      rw [e]
      decide +kernel
    · intro e
      obtain ⟨⟨l⟩⟩ := z
      have e' : l = [] := e
      subst e'
      decide +kernel
  unfold Txt.stripChars Txt.stripBy stripSame stripped stripLo stripHi
  simp only [if_true]
  cases ha : x.cps.toList.all y.cps.contains with
  | true =>
    rw [tw_all ha]
    refine ⟨fun _ => rfl, fun _ => ?_⟩
    split
    · rename_i q
      rw [Bool.and_eq_true, beq_iff_eq] at q
      exact empty.mpr (List.length_eq_zero_iff.mp q.1)
    · refine empty.mpr ?_
      simp [strSub, len]
  | false =>
    refine ⟨fun e => ?_, fun e => by cases e⟩
    exfalso
    have h1 := tw_lt ha
    have h2 : (((x.cps.toList.drop (x.cps.toList.takeWhile y.cps.contains).length).reverse).takeWhile y.cps.contains).length < (x.cps.toList.drop (x.cps.toList.takeWhile y.cps.contains).length).length := by
      have := tw_lt (p := y.cps.contains) (l := (x.cps.toList.drop (x.cps.toList.takeWhile y.cps.contains).length).reverse) (by rw [List.all_reverse]; exact drop_all ha)
      rwa [List.length_reverse] at this
    rw [List.length_drop] at h2
    split at e
    · rw [empty] at e
      rw [e] at ha
      cases ha
    · rw [empty] at e
      have q := congrArg List.length e
      simp [strSub] at q
      rw [len] at q
      simp at q h1 h2
      omega
/-- a small letter -/
def lett (c : Nat) : Bool := decide (97 ≤ c) && decide (c ≤ 122)
theorem letters_list : ("abcdefghijklmnopqrstuvwxyz" : Str).cps.toList = List.range' 97 26 := by decide +kernel
theorem letters_mem (c : Nat) : c ∈ ("abcdefghijklmnopqrstuvwxyz" : Str).cps.toList ↔ lett c = true := by
  rw [letters_list, List.mem_range'_1]
  unfold lett
  rw [Bool.and_eq_true, decide_eq_true_eq, decide_eq_true_eq]
  omega
theorem letters_has (c : Nat) : ("abcdefghijklmnopqrstuvwxyz" : Str).cps.contains c = lett c := by
  rw [Bool.eq_iff_iff, Array.contains_iff_mem, ← Array.mem_toList_iff]
  exact letters_mem c
/-- is it a name -/
def nm (z : Str) : Bool := decide (1 ≤ z.length) && (decide (z.length ≤ 6) && z.cps.toList.all lett)
theorem strip_nm (z : Str) : decide (Txt.stripChars z ("abcdefghijklmnopqrstuvwxyz" : Str) = ("" : Str)) = z.cps.toList.all lett := by
  rw [Bool.eq_iff_iff, decide_eq_true_eq, strip_empty]
  have e : ("abcdefghijklmnopqrstuvwxyz" : Str).cps.contains = lett := funext letters_has
  rw [e]
end NX

set_option Elab.async false
set_option linter.all false
set_option maxRecDepth 100000
set_option maxHeartbeats 4000000
/-! A rule of my own: «a, *b = xs», xs a list. -/
namespace NX
open PySem PySem.Spec PyProof.Rows L2
def gStar (K : PySem.W.Frag) (t : TGs) : TG := fun v σ H Q => ∃ (a : Addr) (x : V) (rest : List V), v = .ref a ∧ SqL K H a (x :: rest) ∧ rest.length < 16384 ∧ ∀ D, H D = none → t [x, .ref D] σ (upd H D (.lst rest)) Q
section
variable {X : Cx} {e1 e2 : Expr} {k : Nat} {pos sp : Pos} {t : TGs}
theorem pg_star (hc : X.calm = true) (h : PGs X [e1, e2] t) (hm : (assignEach [e1, .Starred e2 sp] X.env).map (·.2) = (assignEach [e1, e2] X.env).map (·.2) := by rfl) (hl : (assignEach [e1, .Starred e2 sp] X.env).length = 2 := by rfl)
    (hi : (assignEach [e1, .Starred e2 sp] X.env).findIdx? (·.1) = some 1 := by rfl) : PG X (.Tuple [e1, .Starred e2 sp] k pos) (gStar X.K t) := by
  refine ⟨fun pins s σ H v u Q I r hw => ?_⟩
  obtain ⟨a, x, rest, rfl, hq, hz, hw⟩ := hw
  cases r
  obtain ⟨its, rv, pl, _⟩ := I.list hq
  cases rv with
  | @cons _ u1 _ us ra rr =>
    have hlen : rest.length = us.length := Paired.length rr
    have ll := pl.isList
    have hlt : a ≠ s.heap.objs.size := by
      obtain ⟨o, ho, _⟩ := id ll
      exact Nat.ne_of_lt (Heap.lt_size ho)
    rw [PyProof.Rows.assign_Tuple]
    refine wpAny_bind (wpAny_standAt ?_)
    unfold unpack
    rw [hl, hi, hm]
    -- one is drawn, the others are collected, a new list is made of them
    have items : ∀ {R : List Value → Shared → Prop}, (∀ (h2 : Heap) tk, (∀ b o, s.heap.get? b = some o → h2.get? b = some o) → R [u1, .ref h2.objs.size] { s with heap := h2.push { cls := .type "list", data := .seq us.toArray }, toks := tk }) →
        wpAny (model X.prog X.w) X.A (unpackItems (.ref a) 2 (some 1)) R X.xe s := fun {R} hR => by
      unfold unpackItems
      refine wpAny_bind ?_
      unfold notIterableAtAll
      refine wpAny_bind (wpAny_specialOf ll.typeIs slot_list_iter.lookup (wpAny_pure ?_))
      simp only [Bool.false_eq_true, if_false]
      refine wpAny_bind (wpAny_holding (wpAny_pyIter_list ll ?_))
      refine wpAny_bind (wpAny_holding (PySem.W.kun_draw hlt 1 0 _ _ ⟨_, Heap.get?_push_size _ rfl, rfl, rfl⟩ (ll.push _) (by simp) fun h1 it1 sb1 => ?_))
      have l1 : h1.IsList a (u1 :: us).toArray := (ll.push _).extBut sb1.extBut hlt
      obtain ⟨oi, hoi, _⟩ := id it1
      obtain ⟨ol, hol, _⟩ := id l1
      have k1 : ∀ b o, s.heap.get? b = some o → h1.get? b = some o := fun b o e => sb1.extBut b o (Nat.ne_of_lt (Heap.lt_size e)) (Heap.get?_push_of_some _ e)
      show wpAny _ _ (if [u1].length < 1 then _ else _) _ _ _
      rw [if_neg (by simp)]
      refine wpAny_bind (wpAny_holding (PySem.W.kun_collect (s := { s with heap := h1 }) (T := "list_iterator") (.inr (.inr (.inl rfl))) (Walks.list (A := X.A.in1) (I.ok.hd hc) s.heap.objs.size a hlt (u1 :: us).toArray) (fun j u st => st.1.typeIs) (k := 1) (by simp) ⟨it1, l1⟩ (Heap.lt_size hoi) (Heap.lt_size hol) (fun h2 tk k2 => ?_) (by rw [sizeLine_eq]; simp; omega)))
      have e0 : (u1 :: us).toArray.toList.drop 1 = us := by simp
      rw [e0]
      show wpAny _ _ (if us.length < 2 - 1 - 1 then _ else _) _ _ _
      rw [if_neg (by omega)]
      have e1 : us.take (us.length - (2 - 1 - 1)) = us := by simp
      have e2 : us.drop (us.length - (2 - 1 - 1)) = [] := by simp
      have K2 : ∀ b o, s.heap.get? b = some o → h2.get? b = some o := fun b o e => k2 b o (Nat.ne_of_lt (Heap.lt_size e)) (k1 b o e)
      refine wpAny_bind (wpAny_newList (s := { s with heap := h2, toks := tk }) (wpAny_pure ?_) (by rw [e1, sizeLine_eq]; omega))
      have q := hR h2 tk K2
      rw [e1, e2]
      exact q
    refine wpAny_bind (wpAny_holding (items fun h2 tk kp => ?_))
    have I2 : Inv X pins σ H { s with heap := h2, toks := tk } := I.kept kp
    have hn : H h2.objs.size = none := I2.hok.fresh (Nat.le_refl _)
    have J : Inv X pins σ (upd H h2.objs.size (.lst rest)) { s with heap := h2.push { cls := .type "list", data := .seq us.toArray }, toks := tk } :=
      I2.laid (t' := tk) (h' := h2.push { cls := .type "list", data := .seq us.toArray }) (fun b o e => Heap.get?_push_of_some _ e) (Nat.le_refl _) ⟨by rw [sizeLine_eq]; omega, us, 0, rr, Heap.get?_push_size _ rfl⟩
    exact h.run pins _ σ _ [x, .ref h2.objs.size] [u1, .ref h2.objs.size] Q J (.cons ra (.cons rfl .nil)) (hw _ hn)
end
end NX

set_option Elab.async false
set_option linter.all false
set_option maxRecDepth 100000
set_option maxHeartbeats 4000000
namespace K71
open PySem L2 NX
abbrev sIs : Stmt := top 9
theorem scIs : FnScope ["value"] ["value"] (defScope sIs) := ⟨rfl, rfl, rfl, by decide +kernel, rfl, by decide +kernel, by decide +kernel⟩
/-- no text -/
def NoStr (K : PySem.W.Frag) (H : Hp) (x : V) : Prop := ∃ t, TyX K H x t ∧ PySem.W.kitOne K t (.type "str") = some false
def spIs (K : PySem.W.Frag) : Sp := fun vs H Q _ => ∃ x, vs = [x] ∧ ((∃ z, x = .str z ∧ z.length ≤ 1000 ∧ Q (.bl (nm z)) H) ∨ (NoStr K H x ∧ Q (.bl false) H))
structure TxtN (mg : Str → Option Value) : Prop where
  gLet : ∃ t, mg "LETTERS" = some (.str "abcdefghijklmnopqrstuvwxyz" t)
  gMost : ∃ t, mg "MOST_LETTERS" = some (.int 6 t)
section
variable {P : Program} {w : World} {K : PySem.W.Frag} {mg : Str → Option Value} {base : Heap}
theorem ok_is {f : Addr} {fd : FuncData} (F : Fun K "is_name" "is_name" sIs f fd) (T : TxtB mg) (N : TxtN mg) : FnOk P w K mg base CX0 1 f fd ["value"] (spIs K) := by
  refine F.ok scIs (fun vs H Q E h => ?_) (fun cdv A outer s H vs Q E hr h => ?_)
  · obtain ⟨x, rfl, _⟩ := h
    rfl
  · obtain ⟨x, rfl, h⟩ := h
    obtain ⟨t1, gL⟩ := N.gLet
    obtain ⟨t2, gM⟩ := N.gMost
    refine ⟨_, (pss_one (ps_ret (pe_and (pe_callB call_isi (by rfl) T.bisinstance (by decide +kernel) (pa_cons (pv 0) (pa_cons (pe_bltn (v := .ty "str") (by rfl) T.bstr (by decide +kernel) rfl) pa_nil))) (pe_and (pe_chain op_le op_le pe_int (pe_callB call_len_str (by rfl) T.blen (by decide +kernel) (pa_cons (pv 0) pa_nil)) (pe_glob (v := .int 6) rfl gM ⟨_, rfl⟩)) (pe_one (pe_cmpR op_eq (pe_bm PySem.F.plainAttrs_str PySem.F.slot_str_strip PySem.F.type_str_strip mt_stripChars (pv 0) (pa_cons (pe_glob (v := .str "abcdefghijklmnopqrstuvwxyz") rfl gL ⟨_, rfl⟩) pa_nil)) pe_str (nomark _))))))), ?_⟩
    rcases h with ⟨z, rfl, hz, q⟩ | ⟨⟨t, ty, k⟩, q⟩
    · refine ⟨_, rfl, _, _, _, _, true, rfl, .ty "str", .base (.str z), kit_ty (by decide +kernel), true, rfl, iteT ?_⟩
      refine ⟨_, rfl, z, rfl, Nat.le_of_lt (small1000 hz), 1, _, rfl, rfl, _, rfl, ite2 (fun h1 => ?_) (fun h1 => ?_)⟩
      · refine ⟨_, 6, rfl, rfl, _, rfl, ite2 (fun h2 => ?_) (fun h2 => ?_)⟩
        · have e : ∀ b : Bool, b = nm z → Q (.bl b) H := fun b e => by rw [e]; exact q
          refine ⟨_, rfl, rfl, z, _, rfl, rfl, Nat.le_trans hz (by decide), by rfl, e _ ?_⟩
          have e1 := of_decide_eq_true h1
          have e2 := of_decide_eq_true h2
          have g : decide (V.str (Txt.stripChars z (Str.ofString "abcdefghijklmnopqrstuvwxyz")) = V.str (Str.ofString "")) = decide (Txt.stripChars z ("abcdefghijklmnopqrstuvwxyz" : Str) = ("" : Str)) := by
            rw [Bool.eq_iff_iff, decide_eq_true_eq, decide_eq_true_eq]
            exact ⟨fun h => by injection h, fun h => by rw [← h]⟩
          rw [g, strip_nm]
          unfold nm
          rw [decide_eq_true (by omega : 1 ≤ z.length), decide_eq_true (by omega : z.length ≤ 6)]
          rfl
        · have e1 : ¬ (z.length ≤ 6) := fun h => h2 (decide_eq_true (by omega))
          have e : nm z = false := by unfold nm; rw [decide_eq_false e1]; simp
          rw [e] at q
          exact q
      · have e1 : ¬ (1 ≤ z.length) := fun h => h1 (decide_eq_true (by omega))
        have e : nm z = false := by unfold nm; rw [decide_eq_false e1]; simp
        rw [e] at q
        exact ⟨false, rfl, iteF q⟩
    · exact ⟨_, rfl, _, _, _, _, false, rfl, .ty "str", ty, k, false, rfl, iteF q⟩
end
end K71

set_option Elab.async false
set_option linter.all false
set_option maxRecDepth 100000
set_option maxHeartbeats 4000000
/-! Walks over what is a list or a tuple. -/
namespace NI
open PySem L2 LamX
abbrev Sq (K : PySem.W.Frag) (H : Hp) (a : Addr) (xs : List V) : Prop := SqL K H a xs ∨ SqT K H a xs
theorem sqL_same {K : PySem.W.Frag} {H H2 : Hp} {a : Addr} {xs : List V} (s : Same H H2) (h : SqL K H a xs) : SqL K H2 a xs := by
  rcases h with (h | ⟨o, h⟩) | h
  · exact .inl (.inl (s _ _ h))
  · exact .inl (.inr ⟨o, s _ _ h⟩)
  · exact .inr h
theorem sqT_same {K : PySem.W.Frag} {H H2 : Hp} {a : Addr} {xs : List V} (s : Same H H2) (h : SqT K H a xs) : SqT K H2 a xs := by
  rcases h with (h | ⟨o, h⟩) | h
  · exact .inl (.inl (s _ _ h))
  · exact .inl (.inr ⟨o, s _ _ h⟩)
  · exact .inr h
theorem Sq.same {K : PySem.W.Frag} {H H2 : Hp} {a : Addr} {xs : List V} (s : Same H H2) (h : Sq K H a xs) : Sq K H2 a xs := h.imp (sqL_same s) (sqT_same s)
theorem pi_either {X : Cx} {tg l : Expr} {w1 w2 : TI} (h1 : PI X tg l w1) (h2 : PI X tg l w2) : PI X tg l (fun σ H R => w1 σ H R ∨ w2 σ H R) := ⟨fun pins s σ H R I h => h.elim (h1.run pins s σ H R I) (h2.run pins s σ H R I)⟩
theorem for_either {K : PySem.W.Frag} {j : Nat} {a : Addr} {xs : List V} {g : TG} {tb : TS} {D : Ends} {σ : L2.St} {H H0 : Hp} (hv : σ[j]? = some (some (.ref a))) (hS : Sq K H0 a xs) (Pv : Nat → L2.St → Hp → Prop) (h0 : Pv 0 σ H) (hk : ∀ i σ2 H2, Pv i σ2 H2 → Same H0 H2)
    (hs : ∀ i x σ1 H1, xs[i]? = some x → Pv i σ1 H1 → g x σ1 H1 fun σ2 H2 => tb { D with nx := Pv (i + 1), ct := Pv (i + 1), bk := D.nx } σ2 H2) (hd : ∀ σ1 H1, Pv xs.length σ1 H1 → D.nx σ1 H1) :
    tFor (fun σ H R => iList K (tVar j) σ H R ∨ iTup K (tVar j) σ H R) g tb D σ H := by
  rcases hS with h | h
  · exact .inl ⟨_, hv, a, rfl, ⟨xs, sqL_same (hk 0 σ H h0) h⟩, for_list (xs := xs) Pv h0 (fun i σ2 H2 _ p => sqL_same (hk i σ2 H2 p) h) hs hd⟩
  · exact .inr ⟨_, hv, a, rfl, ⟨xs, sqT_same (hk 0 σ H h0) h⟩, for_tup (xs := xs) Pv h0 (fun i σ2 H2 _ p => sqT_same (hk i σ2 H2 p) h) hs hd⟩
theorem tyOf_ext {K : PySem.W.Frag} {H H' : Hp} {v : V} {t : Value} (s : ExtN H H') (h : TyOf K H v t) : TyOf K H' v t := by
  cases h with
  | non => exact .non
  | bl x => exact .bl x
  | int x => exact .int x
  | str x => exact .str x
  | flt x => exact .flt x
  | lst h => exact .lst (s _ _ h (by intro p e; cases e))
  | frz h => exact .frz (s _ _ h (by intro p e; cases e))
  | tup h => exact .tup (s _ _ h (by intro p e; cases e))
  | dK h => exact .dK (s _ _ h (by intro p e; cases e))
  | dT h => exact .dT (s _ _ h (by intro p e; cases e))
  | ins h a b c d e => exact .ins (s _ _ h (by intro p e; cases e)) a b c d e
theorem tyX_ext {K : PySem.W.Frag} {H H' : Hp} {v : V} {t : Value} (s : ExtN H H') (h : TyX K H v t) : TyX K H' v t := by
  cases h with
  | base h => exact .base (tyOf_ext s h)
  | byt b => exact .byt b
  | set h => exact .set (s _ _ h (by intro p e; cases e))
  | kList a b => exact .kList a b
  | kTuple a b => exact .kTuple a b
  | kDict a b => exact .kDict a b
  | fTuple h => exact .fTuple (s _ _ h (by intro p e; cases e))
  | fDict h => exact .fDict (s _ _ h (by intro p e; cases e))
theorem sqL_ext {K : PySem.W.Frag} {H H2 : Hp} {a : Addr} {xs : List V} (s : ExtN H H2) (h : SqL K H a xs) : SqL K H2 a xs := by
  rcases h with (h | ⟨o, h⟩) | h
  · exact .inl (.inl (s _ _ h (by intro p e; cases e)))
  · exact .inl (.inr ⟨o, s _ _ h (by intro p e; cases e)⟩)
  · exact .inr h
theorem sqT_ext {K : PySem.W.Frag} {H H2 : Hp} {a : Addr} {xs : List V} (s : ExtN H H2) (h : SqT K H a xs) : SqT K H2 a xs := by
  rcases h with (h | ⟨o, h⟩) | h
  · exact .inl (.inl (s _ _ h (by intro p e; cases e)))
  · exact .inl (.inr ⟨o, s _ _ h (by intro p e; cases e)⟩)
  · exact .inr h
theorem Sq.ext {K : PySem.W.Frag} {H H2 : Hp} {a : Addr} {xs : List V} (s : ExtN H H2) (h : Sq K H a xs) : Sq K H2 a xs := by
  rcases h with ((h | ⟨o, h⟩) | h) | ((h | ⟨o, h⟩) | h)
  · exact .inl (.inl (.inl (s _ _ h (by intro p e; cases e))))
  · exact .inl (.inl (.inr ⟨o, s _ _ h (by intro p e; cases e)⟩))
  · exact .inl (.inr h)
  · exact .inr (.inl (.inl (s _ _ h (by intro p e; cases e))))
  · exact .inr (.inl (.inr ⟨o, s _ _ h (by intro p e; cases e)⟩))
  · exact .inr (.inr h)
/-- an instance is written, a list or a tuple stays -/
theorem sqT_put {K : PySem.W.Frag} {H : Hp} {a x C dx : Addr} {fs : List (Str × V)} {o : HO} {xs : List V} (hx : H x = some (.ins C dx fs)) (h : SqT K H a xs) : SqT K (upd H x o) a xs := by
  have ne : ∀ {u : HO}, H a = some u → (∀ C dx fs, u ≠ .ins C dx fs) → a ≠ x := fun e n z => by
    rw [z, hx] at e
    exact n _ _ _ (Option.some.inj e).symm
  rcases h with (h | ⟨o1, h⟩) | h
  · exact .inl (.inl ((upd_ne (ne h (by intro C dx fs e; cases e))).trans h))
  · exact .inl (.inr ⟨o1, (upd_ne (ne h (by intro C dx fs e; cases e))).trans h⟩)
  · exact .inr h
theorem sqL_put {K : PySem.W.Frag} {H : Hp} {a x C dx : Addr} {fs : List (Str × V)} {o : HO} {xs : List V} (hx : H x = some (.ins C dx fs)) (h : SqL K H a xs) : SqL K (upd H x o) a xs := by
  have ne : ∀ {u : HO}, H a = some u → (∀ C dx fs, u ≠ .ins C dx fs) → a ≠ x := fun e n z => by
    rw [z, hx] at e
    exact n _ _ _ (Option.some.inj e).symm
  rcases h with (h | ⟨o1, h⟩) | h
  · exact .inl (.inl ((upd_ne (ne h (by intro C dx fs e; cases e))).trans h))
  · exact .inl (.inr ⟨o1, (upd_ne (ne h (by intro C dx fs e; cases e))).trans h⟩)
  · exact .inr h
theorem same_refl {H : Hp} : Same H H := fun _ _ e => e
end NI

set_option Elab.async false
set_option linter.all false
set_option maxRecDepth 100000
set_option maxHeartbeats 4000000
/-! Sets of texts: made of a list or a tuple, their length, sorted. -/
namespace NU
open PySem PySem.Spec PyProof.Rows L2
/-- the text of a row of a set's table -/
def txOf (e : Int × Value) : Str := match e.2 with | .str x _ => x | _ => Str.empty
def Tx (wo : World) (e : Int × Value) : Prop := ∃ x u, e.2 = Value.str x u ∧ e.1 = hashStr wo x
/-- the rows of a set of the texts mem, cnt of them -/
structure Rws (wo : World) (mem : Str → Bool) (cnt : Nat) (es : Array (Int × Value)) (t : SetTable) : Prop where
  tx : ∀ e ∈ es.toList, Tx wo e
  nd : (es.toList.map txOf).Nodup
  mm : ∀ x, mem x = true ↔ x ∈ es.toList.map txOf
  few : es.size < scanBound
  fit : t.fits es.size = true
  num : es.size = cnt
  ris : Ris t.place.toList
  led : wo.params.followText "set-order" = true ∨ t.led = true
def SetT (wo : World) (h : Heap) (a : Addr) (mem : Str → Bool) (cnt : Nat) : Prop :=
  ∃ o es ep t, h.get? a = some o ∧ o.ExactSet ∧ o.data = .set es ep t ∧ Rws wo mem cnt es t
section
variable {Pg : Program} {wo : World} {h h2 : Heap} {a : Addr} {mem : Str → Bool} {cnt : Nat}
theorem SetT.mv (R : SetT wo h a mem cnt) (k : ∀ o, h.get? a = some o → h2.get? a = some o) : SetT wo h2 a mem cnt :=
  have ⟨o, es, ep, t, g, r⟩ := R
  ⟨o, es, ep, t, k o g, r⟩
theorem SetT.eqv {mem2 : Str → Bool} (R : SetT wo h a mem cnt) (e : ∀ x, mem2 x = mem x) : SetT wo h a mem2 cnt := (funext e : mem2 = mem) ▸ R
theorem tx_elems {l : List (Int × Value)} (g : ∀ e ∈ l, Tx wo e) : ElemsOf (PySem.strKind Pg wo) l := fun e he =>
  have ⟨x, u, e1, e2⟩ := g e he
  ⟨⟨x, by rw [e1]; exact PySem.strKind_is Pg wo x u, e2⟩, by rw [e1]; rfl⟩
theorem tx_is {e : Int × Value} (g : Tx wo e) (x : Str) : (PySem.strKind Pg wo).is x e.2 = true ↔ txOf e = x := by
  have ⟨y, u, e1, _⟩ := g
  unfold txOf
  rw [e1]
  constructor
  · intro z
    have ⟨u2, e2⟩ := Value.isStrOf_shape (x := x) (v := .str y u) z
    injection e2
  · intro z
    have z : y = x := z
    subst z
    exact PySem.strKind_is Pg wo y u
theorem tx_mem {l : List (Int × Value)} (g : ∀ e ∈ l, Tx wo e) (x : Str) : x ∈ l.map txOf ↔ ∃ e ∈ l, (PySem.strKind Pg wo).is x e.2 = true := by
  rw [List.mem_map]
  exact ⟨fun ⟨e, he, z⟩ => ⟨e, he, (tx_is (g e he) x).2 z⟩, fun ⟨e, he, z⟩ => ⟨e, he, (tx_is (g e he) x).1 z⟩⟩
end
section
variable {Pg : Program} {wo : World} {Ar : Around} {Er : Value → Shared → Prop} {st : Shared} {a : Addr} {mem : Str → Bool} {cnt : Nat}
/-- the rest of a set's add: the new rows are kept, or kept and laid anew -/
theorem rest_add {tell : Bool → Sem Unit} (quiet : ∀ (b : Bool) (s1 : Shared) (Q1 : Unit → Shared → Prop), Q1 () s1 → wpAny (model Pg wo) Ar (tell b) Q1 Er s1)
    {o : Obj} {es es1 : Array (Int × Value)} {ep : Nat} {t t1 : SetTable} (g : st.heap.get? a = some o) (x : o.ExactSet) (d : o.data = .set es ep t) {mem2 : Str → Bool} {c : Nat} (W : Rws wo mem2 c es1 t1)
    {was : Bool} {R : Option Bool → Shared → Prop} (out : ∀ h2, Heap.SameBut a st.heap h2 → SetT wo h2 a mem2 c → R (some true) { st with heap := h2 }) :
    wpAny (model Pg wo) Ar (storeSet a es1 t1 >>= fun _ =>
        if (!was && t1.tooFull) = true then (do tell (relayAll t1 es1 (SetTable.grown es1.size)).2.2; storeSet a (relayAll t1 es1 (SetTable.grown es1.size)).1 (relayAll t1 es1 (SetTable.grown es1.size)).2.1; pure (some true)) else pure (some true)) R Er st := by
  refine wpAny_bind (wpAny_storeSet_of g d ?_ (fits_of_scanBound W.few))
  have g1 := L2.store_at (es' := es1) (t' := t1) g d
  have b1 := Heap.SameBut.update st.heap a (Obj.putSet es1 t1)
  by_cases full : (!was && t1.tooFull) = true
  · rw [if_pos full]
    have p := relayAll_perm t1 es1 (SetTable.grown es1.size)
    have f2 := relayAll_fits t1 es1 (SetTable.grown es1.size)
    have r2 := L2.relayAll_ris t1 es1 (SetTable.grown es1.size)
    have l2 := L2.relayAll_led t1 es1 (SetTable.grown es1.size)
    revert p f2 r2 l2
    generalize relayAll t1 es1 (SetTable.grown es1.size) = Z
    obtain ⟨es2, t2, gave⟩ := Z
    intro p f2 r2 l2
    have same : es2.size = es1.size := by simpa using p.length_eq
    have few2 : es2.size < scanBound := by rw [same]; exact W.few
    refine wpAny_bind (quiet _ _ _ (wpAny_bind (wpAny_storeSet_of g1 rfl (wpAny_pure (out _ (b1.trans (Heap.SameBut.update _ a _)) ?_)) (fits_of_scanBound few2))))
    exact ⟨_, es2, _, t2, L2.store_at (es' := es2) (t' := t2) g1 rfl, x, rfl, fun e he => W.tx e (p.mem_iff.mp he), (p.map txOf).nodup_iff.mpr W.nd, fun y => (W.mm y).trans (p.map txOf).mem_iff.symm, few2, f2,
      same.trans W.num, r2, W.led.imp id fun z => l2.trans z⟩
  · rw [if_neg full]
    exact wpAny_pure (out _ b1 ⟨_, es1, _, t1, g1, x, rfl, W⟩)
theorem add_tx {x : Str} {u : Tok} {Q : Bool → Shared → Prop} (R : SetT wo st.heap a mem cnt) (room : cnt + 1 < scanBound)
    (out : ∀ h2, Heap.SameBut a st.heap h2 → SetT wo h2 a (fun y => mem y || decide (y = x)) (if mem x = true then cnt else cnt + 1) → Q (!mem x) { st with heap := h2 }) :
    wpAny (model Pg wo) Ar (setAddHashed a (.str x u) ((PySem.strKind Pg wo).hash x)) Q Er st := by
  obtain ⟨o, es, ep, t, g, ex, d, W⟩ := R
  have key : (PySem.strKind Pg wo).is x (.str x u) = true := PySem.strKind_is Pg wo x u
  have elems : ElemsOf (PySem.strKind Pg wo) es.toList := tx_elems W.tx
  have plain : (Value.str x u).scannable = true := rfl
  unfold setAddHashed setAddHashedIn
  refine wpAny_holding (wpAny_bind (wpAny_setState_of g d W.fit ?_))
  dsimp only
  rw [byScan_of plain W.few elems, if_pos rfl]
  unfold setAddByScan
  refine wpAny_bind (wpAny_bind (wpAny_rule (wpAny_bind (wpAny_setScan_of key g d W.fit elems ?_))))
  cases at_ : List.findIdx? (fun e => (PySem.strKind Pg wo).is x e.2) es.toList with
  | some j =>
    dsimp only
    obtain ⟨lt, yes, _⟩ := List.findIdx?_eq_some_iff_getElem.mp at_
    have has : mem x = true := (W.mm x).2 ((tx_mem (Pg := Pg) W.tx x).2 ⟨es.toList[j], List.getElem_mem lt, yes⟩)
    have z := out st.heap (Heap.SameBut.refl a st.heap) ⟨o, es, ep, t, g, ex, d, { W with
      mm := fun y => by
        rw [Bool.or_eq_true, decide_eq_true_eq]
        exact ⟨fun q => (W.mm y).1 (q.elim id fun e => by rw [e]; exact has), fun q => .inl ((W.mm y).2 q)⟩
      num := by rw [if_pos has]; exact W.num }⟩
    rw [has] at z
    exact wpAny_pure (wpAny_pure z)
  | none =>
    dsimp only
    have no : x ∉ es.toList.map txOf := fun z => by
      obtain ⟨e, he, q⟩ := (tx_mem (Pg := Pg) W.tx x).1 z
      rw [List.findIdx?_eq_none_iff.mp at_ e he] at q
      cases q
    have not : mem x = false := Bool.eq_false_iff.mpr fun z => no ((W.mm x).1 z)
    have hush : ∀ (b : Bool) {s1 : Shared} {Q1 : Unit → Shared → Prop}, Q1 () s1 → wpAny (model Pg wo) Ar (match b with | true => rule "set.scan.the-table-gave-way" | false => pure ()) Q1 Er s1
      | true, _, _, q => wpAny_rule q
      | false, _, _, q => wpAny_pure q
    have p := layNew_perm t es ((PySem.strKind Pg wo).hash x) (.str x u)
    have f1 := layNew_fits t es ((PySem.strKind Pg wo).hash x) (.str x u)
    have r1 := L2.layNew_ris t es ((PySem.strKind Pg wo).hash x) (.str x u) W.ris
    have l1 := L2.layNew_led t es ((PySem.strKind Pg wo).hash x) (.str x u)
    revert p f1 r1 l1
    generalize layNew t es ((PySem.strKind Pg wo).hash x) (.str x u) = Z
    obtain ⟨es1, t1, was, gave⟩ := Z
    intro p f1 r1 l1
    dsimp only at p f1 r1 l1 ⊢
    rw [Array.toList_push] at p
    have p : es1.toList.Perm (((PySem.strKind Pg wo).hash x, Value.str x u) :: es.toList) := p.trans (List.perm_append_singleton _ _)
    have pt : (es1.toList.map txOf).Perm (x :: es.toList.map txOf) := p.map txOf
    have size1 : es1.size = cnt + 1 := by rw [← W.num]; simpa using p.length_eq
    have V : ∀ t2 : SetTable, t2.fits es1.size = true → Ris t2.place.toList → (wo.params.followText "set-order" = true ∨ t2.led = true) → Rws wo (fun y => mem y || decide (y = x)) (cnt + 1) es1 t2 := fun t2 f r l =>
      { tx := fun e he => (List.mem_cons.mp (p.mem_iff.mp he)).elim (fun z => by rw [z]; exact ⟨x, u, rfl, rfl⟩) (W.tx e)
        nd := pt.nodup_iff.mpr (List.nodup_cons.mpr ⟨no, W.nd⟩)
        mm := fun y => by rw [Bool.or_eq_true, decide_eq_true_eq, W.mm y, pt.mem_iff, List.mem_cons]; exact Or.comm
        few := by rw [size1]; exact room
        fit := f
        num := size1
        ris := r
        led := l }
    have led1 : wo.params.followText "set-order" = true ∨ t1.led = true := W.led.imp id fun z => l1.trans z
    have fin : ∀ h2, Heap.SameBut a st.heap h2 → SetT wo h2 a (fun y => mem y || decide (y = x)) (cnt + 1) → Q true { st with heap := h2 } := fun h2 b r => by
      have z := out h2 b
      rw [not] at z
      exact z r
    refine wpAny_bind (hush _ ?_)
    split
    · refine wpAny_bind ?_
      rw [hashByValue_scannable 8 plain]
      refine wpAny_pure (rest_add (fun b s1 Q1 q => ?_) g ex d (V _ ?_ ?_ ?_) fun h2 b r => wpAny_pure (fin h2 b r))
      · cases b <;> first | exact wpAny_pure q | exact wpAny_rule q
      · first | (split <;> first | exact f1 | exact SetTable.fits_plain_off f1) | exact f1
      · first | (split <;> exact r1) | exact r1
      · first | (split <;> exact led1) | exact led1
    · refine wpAny_bind (wpAny_pure ?_)
      rw [if_pos rfl]
      refine rest_add (fun b s1 Q1 q => ?_) g ex d (V t1 f1 r1 led1) fun h2 b r => wpAny_pure (fin h2 b r)
      cases b <;> first | exact wpAny_pure q | exact wpAny_rule q
end

section
variable {Pg : Program} {wo : World} {Ar : Around} {Er : Value → Shared → Prop} {st : Shared}
abbrev bare (wo : World) : Obj := { cls := .type "set", dict := none, data := .set #[] 0 (.fresh 0 0 (!wo.params.followText "set-order")) }
theorem led0 (wo : World) : wo.params.followText "set-order" = true ∨ (SetTable.fresh 0 0 (!wo.params.followText "set-order")).led = true := by
  show _ ∨ (!wo.params.followText "set-order") = true
  cases wo.params.followText "set-order"
  · exact .inr rfl
  · exact .inl rfl
theorem setT_bare {h : Heap} {a : Addr} (g : h.get? a = some (bare wo)) : SetT wo h a (fun _ => false) 0 :=
  ⟨_, #[], 0, _, g, ⟨rfl, rfl, rfl⟩, rfl, { tx := nofun, nd := List.nodup_nil, mm := fun x => ⟨nofun, nofun⟩, few := by decide, fit := rfl, num := rfl, ris := List.Pairwise.nil, led := led0 wo }⟩
/-- the texts of xs that are new, from the last on: as many as the set of xs has members -/
def many : List Str → Nat
  | [] => 0
  | x :: l => if x ∈ l then many l else many l + 1
theorem many_le : ∀ l : List Str, many l ≤ l.length
  | [] => Nat.le_refl 0
  | x :: l => by
    have q := many_le l
    unfold many
    rw [List.length_cons]
    split <;> omega
theorem many_snoc (x : Str) : ∀ l : List Str, many (l ++ [x]) = if x ∈ l then many l else many l + 1
  | [] => rfl
  | y :: l => by
    have q := many_snoc x l
    show many (y :: (l ++ [x])) = _
    unfold many
    rw [q]
    by_cases e : x = y
    · subst e
      by_cases m : x ∈ l <;> simp [m]
    · have e2 : ¬ y = x := fun z => e z.symm
      by_cases m : x ∈ l <;> by_cases n : y ∈ l <;> simp [m, n, e, e2]
theorem upd_tx {I : Addr} {fp wr : List Addr} {G : Array GenState → Array GenState → Prop} {n : Nat} {Pv : Nat → Value → Prop} {St : Nat → Shared → Prop} {R : Result → Shared → Prop} (W : WalksS Pg wo Ar.in1 I fp wr G n Pv St) (D : Addr) (far : D ∉ fp)
    (xs : List Str) (len : n = xs.length) (room : xs.length + 1 < scanBound) (val : ∀ i v, Pv i v → ∃ x u, xs[i]? = some x ∧ v = .str x u) :
    ∀ (left i : Nat) (t : Shared), n - i = left → i ≤ n → St i t → SetT wo t.heap D (fun y => decide (y ∈ xs.take i)) (many (xs.take i)) →
      (∀ t2, Moved (D :: wr) G t t2 → SetT wo t2.heap D (fun y => decide (y ∈ xs)) (many xs) → R (.ok (.ret .none)) t2) → codeAny (model Pg wo) Ar (.builtin "set.update.loop" ⟨[.ref D, .ref I], []⟩) R t := by
  have off : D ∉ wr := fun z => far (W.sub _ z)
  have sub : ∀ b ∈ wr, b ∈ D :: wr := fun b z => List.mem_cons_of_mem _ z
  intro left
  induction left with
  | zero =>
    intro i t e le here S out
    obtain rfl : i = n := by omega
    refine codeAny_builtin F.entry_set_update_loop ?_
    rw [Around.under_plainId F.plain_set_update_loop _]
    refine wpAny_bind (m := pyNext (.ref I)) (W.done t _ _ here fun t2 mv => wpAny_pure (out t2 (mv.mono sub) ?_))
    have all : xs.take i = xs := List.take_of_length_le (by omega)
    rw [all] at S
    exact S.mv fun o z => mv.heap D o off z
  | succ left ih =>
    intro i t e le here S out
    have lt : i < n := by omega
    refine codeAny_builtin F.entry_set_update_loop ?_
    rw [Around.under_plainId F.plain_set_update_loop _]
    refine wpAny_bind (m := pyNext (.ref I)) (W.item i t _ _ lt here fun v t2 pv next mv => ?_)
    obtain ⟨x, u, at_, rfl⟩ := val i v pv
    have S2 : SetT wo t2.heap D (fun y => decide (y ∈ xs.take i)) (many (xs.take i)) := S.mv fun o z => mv.heap D o off z
    refine wpAny_bind (m := holding [Value.str x u] (setAdd D (.str x u))) (wpAny_holding ?_)
    unfold setAdd
    have low : many (xs.take i) ≤ i := Nat.le_trans (many_le _) (by rw [List.length_take]; omega)
    refine wpAny_holding (wpAny_bind ((PySem.strKind Pg wo).pyHash (k := x) (PySem.strKind_is _ _ _ _) (add_tx (st := { t2 with toks := t2.toks + 1 }) S2 (by omega) fun h3 but S3 => ?_)))
    have more : xs.take (i + 1) = xs.take i ++ [x] := by rw [List.take_add_one, at_]; rfl
    have S4 : SetT wo h3 D (fun y => decide (y ∈ xs.take (i + 1))) (many (xs.take (i + 1))) := by
      rw [more, many_snoc]
      have z : (fun y => decide (y ∈ xs.take i ++ [x])) = fun y => decide (y ∈ xs.take i) || decide (y = x) := funext fun y => by simp [List.mem_append]
      rw [z]
      by_cases m : x ∈ xs.take i
      · rw [if_pos m]
        rw [if_pos (decide_eq_true m)] at S3
        exact S3
      · rw [if_neg m]
        rw [if_neg (by simpa using m)] at S3
        exact S3
    have keep : ∀ b o, b ≠ D → t2.heap.get? b = some o → h3.get? b = some o := fun b o ne z => by rw [but.2 b ne]; exact z
    refine wpAny_pure ⟨plainId_quiet F.plain_set_update_loop _, ih (i + 1) _ (by omega) lt (W.frame _ t2 _ _ next (Nat.le_succ _) fun b z o q => keep b o (fun e2 => far (e2 ▸ z)) q) S4 fun t4 mv2 S5 => out t4 ?_ S5⟩
    exact Moved.trans W.gtrans ((mv.mono sub).then_heap (Nat.le_succ _) fun b o z q => keep b o (fun e2 => z (e2 ▸ List.mem_cons_self)) q) mv2
/-- set(xs), xs a list or a tuple of texts -/
theorem call_set {l : Addr} {its : Array Value} (xs : List Str) {Q : Value → Shared → Prop} (cold : Ar.handled = none) (hl : st.heap.IsList l its ∨ st.heap.IsTuple l its) (each : StrsAre its.toList xs) (room : xs.length + 1 < scanBound)
    (out : ∀ h2 tk, SetT wo h2 st.heap.objs.size (fun y => decide (y ∈ xs)) (many xs) → (∀ b o, st.heap.get? b = some o → h2.get? b = some o) → Q (.ref st.heap.objs.size) { st with heap := h2, toks := tk }) :
    wpAny (model Pg wo) Ar (call (.type "set") [.ref l]) Q Er st := by
  have len : its.size = xs.length := by simpa using each.length
  have val : ∀ (i : Nat) (v : Value), its[i]? = some v → ∃ x u, xs[i]? = some x ∧ v = .str x u := fun i v z => by
    have lt : i < xs.length := by rw [← len]; exact (Array.getElem?_eq_some_iff.mp z).1
    obtain ⟨u, e⟩ := SS.strs_at each i v (by rw [Array.getElem?_toList]; exact z)
    exact ⟨xs[i], u, List.getElem?_eq_getElem lt, by rw [e, List.getD_eq_getElem?_getD, List.getElem?_eq_getElem lt]; rfl⟩
  have lo : l < st.heap.objs.size := by
    rcases hl with ⟨o, g, _⟩ | ⟨o, g, _⟩ <;> exact Heap.lt_size g
  obtain ⟨c, tl, hmro⟩ := PySem.F.called_set.mro
  have hmade := PySem.F.called_set.made
  have hsub := PySem.F.called_set.sub
  refine wpAny_call (codeAny_of_tree ?_)
  show wpAny _ _ (callAny (.type "set") _) _ _ _
  refine wpAny_pure ⟨Code.quiet_builtin _ (by decide +kernel), codeAny_builtin PySem.F.entry_type_call ?_⟩
  rw [Around.under_plain (weight_type_call_type "set" [.ref l] []) rfl]
  have h1 := PySem.F.called_set.notType
  have h2 := PySem.F.called_set.canCreate
  have hct := PySem.F.typeCall_set_1 (.ref l)
  repeat (any_goals (first | assumption | wp_step))
  refine codeAny_mono (L2.code_set_led1 (.ref l) (E := Er) (Q₁ := fun v t => v = .ref st.heap.objs.size ∧ t = { st with heap := st.heap.push (bare wo) }) ⟨rfl, rfl⟩) fun r t z => ?_
  rcases r with e | fl
  · exact z
  cases fl with
  | ret v =>
    obtain ⟨rfl, rfl⟩ := z
    have gD : (st.heap.push (bare wo)).get? st.heap.objs.size = some (bare wo) := Heap.get?_push_size _ rfl
    have isD : Shared.TypeIs { st with heap := st.heap.push (bare wo) } (.ref st.heap.objs.size) "set" := ⟨_, gD, rfl⟩
    have sz : (st.heap.push (bare wo)).objs.size = st.heap.objs.size + 1 := Heap.size_push ..
    have hli := PySem.F.called_set.init.lookup
    have hbi := PySem.F.called_set.init.bind (.ref st.heap.objs.size)
    repeat (any_goals (first | assumption | wp_step))
    refine codeAny_mono (codeAny_call_builtin (R := wants (fun r t => r = .none ∧ ∃ h2 tk, t = { st with heap := h2, toks := tk } ∧ SetT wo h2 st.heap.objs.size (fun y => decide (y ∈ xs)) (many xs) ∧ (∀ b o, st.heap.get? b = some o → h2.get? b = some o)) Er)
      PySem.F.called_set.init.plain PySem.F.entry_set_init (check_set_init_1 isD ?_)) fun r2 t2 z2 => ?_
    · have cold3 : Ar.in1.in1.in1.handled = none := by simp [cold]
      have start : ∀ {h : Heap}, h.get? st.heap.objs.size = some (bare wo) → SetT wo h st.heap.objs.size (fun y => decide (y ∈ xs.take 0)) (many (xs.take 0)) := fun g => (setT_bare g).eqv fun y => by simp
      have neI : l ≠ (st.heap.push (bare wo)).objs.size := Nat.ne_of_lt (by rw [sz]; exact Nat.lt_succ_of_lt lo)
      have far : st.heap.objs.size ∉ [(st.heap.push (bare wo)).objs.size, l] := by
        simp only [List.mem_cons, List.not_mem_nil, or_false, not_or]
        exact ⟨Nat.ne_of_lt (by rw [sz]; exact Nat.lt_succ_self _), Nat.ne_of_gt lo⟩
      have old : ∀ b o, st.heap.get? b = some o → b ∉ [st.heap.objs.size, (st.heap.push (bare wo)).objs.size] := fun b o g => by
        have lb := Heap.lt_size g
        simp only [List.mem_cons, List.not_mem_nil, or_false, not_or]
        exact ⟨Nat.ne_of_lt lb, Nat.ne_of_lt (by rw [sz]; exact Nat.lt_succ_of_lt lb)⟩
      have ne : (Value.type "tuple" == Value.type "dict") = false := by decide
      have ne2 : (Value.type "list" == Value.type "dict") = false := by decide
      rcases hl with hl | hl
      · obtain ⟨⟨ocls, odict, odata, oslots⟩, g, hc, nl, hd⟩ := hl
        simp only at hc hd
        subst hc; subst hd
        have g2 : (st.heap.push (bare wo)).get? l = some { cls := .type "list", dict := odict, data := .seq its nl, slots := oslots } := Heap.get?_push_of_some _ g
        have s1 := PySem.F.sub_list_set
        have s2 := PySem.F.sub_list_frozenset
        have hl2 : (st.heap.push (bare wo)).IsList l its := ⟨_, g2, rfl, nl, rfl⟩
        unfold Builtin.«set.__init__» noKeywords Builtin.Frozenset.updateFrom
        generalize hPI : pyIter = PI
        wp_walk
        subst hPI
        refine wpAny_pyIter_list hl2 (wpAny_bind (wpAny_runValue ?_))
        refine upd_tx (Walks.list cold3 _ l neI its).toS st.heap.objs.size far xs len room val (its.size - 0) 0 _ rfl (Nat.zero_le _) ⟨⟨_, Heap.get?_push_size _ rfl, rfl, rfl⟩, hl2.push _⟩
          (start (Heap.get?_push_of_some _ gD)) fun t4 mv S => ?_
        obtain ⟨h4, g4, d4, k4, o4⟩ := t4
        have eg : g4 = st.gens := mv.gens
        have ed : d4 = st.drawn := mv.drawn
        have eo : o4 = st.os := mv.os
        subst eg ed eo
        refine wpAny_pure (wpAny_pure ⟨rfl, h4, k4, rfl, S, fun b o q => mv.heap b o (old b o q) (Heap.get?_push_of_some _ (Heap.get?_push_of_some _ q))⟩)
      · obtain ⟨⟨ocls, odict, odata, oslots⟩, g, hc, nl, hd⟩ := hl
        simp only at hc hd
        subst hc; subst hd
        have g2 : (st.heap.push (bare wo)).get? l = some { cls := .type "tuple", dict := odict, data := .seq its nl, slots := oslots } := Heap.get?_push_of_some _ g
        have s1 := PySem.F.sub_tuple_set
        have s2 := PySem.F.sub_tuple_frozenset
        have hl2 : (st.heap.push (bare wo)).IsTuple l its := ⟨_, g2, rfl, nl, rfl⟩
        unfold Builtin.«set.__init__» noKeywords Builtin.Frozenset.updateFrom
        generalize hPI : pyIter = PI
        wp_walk
        subst hPI
        refine wpAny_pyIter_tuple hl2 (wpAny_bind (wpAny_runValue ?_))
        refine upd_tx (Walks.tuple cold3 _ l neI its).toS st.heap.objs.size far xs len room val (its.size - 0) 0 _ rfl (Nat.zero_le _) ⟨⟨_, Heap.get?_push_size _ rfl, rfl, rfl⟩, hl2.push _⟩
          (start (Heap.get?_push_of_some _ gD)) fun t4 mv S => ?_
        obtain ⟨h4, g4, d4, k4, o4⟩ := t4
        have eg : g4 = st.gens := mv.gens
        have ed : d4 = st.drawn := mv.drawn
        have eo : o4 = st.os := mv.os
        subst eg ed eo
        refine wpAny_pure (wpAny_pure ⟨rfl, h4, k4, rfl, S, fun b o q => mv.heap b o (old b o q) (Heap.get?_push_of_some _ (Heap.get?_push_of_some _ q))⟩)
    · rcases r2 with e | fl
      · exact z2
      cases fl with
      | ret r =>
        obtain ⟨rfl, h4, tk, rfl, S, k⟩ := z2
        repeat (any_goals (first | assumption | wp_step))
        exact out _ _ S k
      | _ => exact z2.elim
  | _ => exact z.elim
end
end NU

set_option Elab.async false
set_option linter.all false
set_option maxRecDepth 100000
set_option maxHeartbeats 4000000
/-! Sets of texts under the invariant: set(xs), len(set), sorted(set). -/
namespace NU
open PySem PySem.Spec PyProof.Rows L2
section
variable {Pg : Program} {wo : World} {Ar : Around} {Er : Value → Shared → Prop} {st : Shared} {a : Addr}
/-- texts in the order of their first row are listed once: how many -/
theorem many_of : ∀ l : List Str, l.Nodup → many l = l.length
  | [], _ => rfl
  | x :: l, d => by
    have ⟨d1, d2⟩ := List.nodup_cons.mp d
    show (if x ∈ l then many l else many l + 1) = l.length + 1
    rw [if_neg d1, many_of l d2]
theorem texts_of : ∀ l : List Value, (∀ v ∈ l, ∃ x u, v = Value.str x u) → ∃ xs, StrsAre l xs ∧ xs = l.map fun v => txOf (0, v)
  | [], _ => ⟨[], .nil, rfl⟩
  | v :: l, h => by
    obtain ⟨x, u, rfl⟩ := h v List.mem_cons_self
    obtain ⟨xs, s, e⟩ := texts_of l fun z hz => h z (List.mem_cons_of_mem _ hz)
    exact ⟨x :: xs, .cons x u s, by rw [e]; rfl⟩
theorem sorted_tx {mem : Str → Bool} {cnt : Nat} {Q : Value → Shared → Prop} (R : SetT wo st.heap a mem cnt) (cold : Ar.handled = none) (small : cnt < 64)
    (out : ∀ t p (arr : Array Value) (c : Nat) (ys : List Str), (∀ b o, st.heap.get? b = some o → t.heap.get? b = some o) → t.gens = st.gens → t.os = st.os → st.heap.objs.size ≤ p →
      t.heap.get? p = some (seqObj "list" arr c) → StrsAre arr.toList ys → sortedS ys = true → ys.Nodup → (∀ y, y ∈ ys ↔ mem y = true) → ys.length = cnt → Q (.ref p) t) :
    wpAny (model Pg wo) Ar (call (.builtin "sorted") [.ref a]) Q Er st := by
  obtain ⟨o, es, ep, t, g, ex, d, W⟩ := R
  refine Calls.call_function_entry kind_sorted plain_sorted entry_sorted (args_sorted1 _) ?_
  unfold Builtin.«sorted»
  refine wpAny_bind (m := checkCount "sorted" 1 1 _) (wpAny_pure (wpAny_bind (L2.collect_set (A := Ar.in1) cold ⟨o, g, ex.1, d⟩ W.fit W.few W.ris W.led fun t1 vs k1 z1 g1 o1 pm => ?_)))
  have lv : vs.length = cnt := by rw [pm.length_eq, List.length_map, Array.length_toList]; exact W.num
  obtain ⟨xs, are, exs⟩ := texts_of vs fun v hv => by
    obtain ⟨e, he, q⟩ := List.mem_map.mp (pm.mem_iff.mp hv)
    obtain ⟨x, u, e1, _⟩ := W.tx e he
    exact ⟨x, u, q ▸ e1⟩
  have px : xs.Perm (es.toList.map txOf) := by
    have q := pm.map fun v => txOf (0, v)
    rw [List.map_map, ← exs] at q
    exact q
  refine wpAny_bind (wpAny_newList ?_ (by rw [lv, sizeLine_eq]; omega))
  have oL : (t1.heap.push (seqObj "list" vs.toArray 0)).get? t1.heap.objs.size = some (seqObj "list" vs.toArray 0) := Heap.get?_push_size _ rfl
  refine wpAny_bind (wpAny_holding (wpAny_call_entry slot_list_sort ⟨_, oL, rfl⟩ entry_list_sort (list_sort_treeK strKind_oneLt (s := { t1 with heap := t1.heap.push (seqObj "list" vs.toArray 0) }) oL are.keysOf (fun v1 v2 rest e => keyKind_strs (by rw [← e]; exact are)) (by rw [lv]; exact small)
    fun st' hp hs => ⟨_, rfl, ?_⟩) (args_list_sort _)))
  obtain ⟨ys, q1, q2, q3⟩ := sorted_out_str are hp hs
  obtain ⟨c, hc⟩ := sortedHeap_at (vs := vs) (out := (arrOf st').map (·.2)) oL
  have py := q2.trans px
  refine wpAny_pure ⟨_, rfl, out _ t1.heap.objs.size _ c ys (fun b u e => ?_) g1 o1 z1 hc q1 q3 (py.nodup_iff.mpr W.nd) (fun y => py.mem_iff.trans (W.mm y).symm) (by rw [py.length_eq, List.length_map, Array.length_toList]; exact W.num)⟩
  have q := k1 b u e
  have lb := Heap.lt_size q
  show (sortedHeap (t1.heap.push (seqObj "list" vs.toArray 0)) t1.heap.objs.size vs _).get? b = some u
  rw [sortedHeap_old (Nat.ne_of_lt lb) (by rw [size_push']; exact Nat.lt_succ_of_lt lb)]
  exact Heap.get?_push_of_some _ q
end
section
variable {X : Cx}
/-- the set of the texts xs at a -/
def SetX (wo : World) (a : Addr) (xs : List Str) : HO := .ext fun h => SetT wo h a (fun y => decide (y ∈ xs)) (many xs)
theorem setX_get {pins : List (Addr × Obj)} {σ : L2.St} {H : Hp} {s : Shared} {a : Addr} {xs : List Str} (I : Inv X pins σ H s) (g : H a = some (SetX X.w a xs)) : SetT X.w s.heap a (fun y => decide (y ∈ xs)) (many xs) := (I.hok a _ g).1
/-- set(xs), xs a list or a tuple of texts -/
def rSetX (K : PySem.W.Frag) (wo : World) : List V → Hp → VK → Prop := fun vs H Q => ∃ (l : Addr) (xs : List Str), vs = [.ref l] ∧ (SqL K H l (xs.map V.str) ∨ SqT K H l (xs.map V.str)) ∧ xs.length ≤ 1000 ∧ ∀ p, H p = none → Q (.ref p) (upd H p (SetX wo p xs))
theorem cr_setX (hc : X.calm = true) : CallR X (.type "set") (rSetX X.K X.w) := by
  intro pins s σ H vs us Q I r h
  obtain ⟨l, xs, rfl, at_, few, q⟩ := h
  rw [Vals.ref1 r]
  have room : xs.length + 1 < scanBound := Nat.lt_of_le_of_lt (Nat.succ_le_succ few) (by decide)
  have look : ∃ its : Array Value, Vals (xs.map V.str) its.toList ∧ (s.heap.IsList l its ∨ s.heap.IsTuple l its) := by
    rcases at_ with z | z
    · obtain ⟨its, rv, pl, _⟩ := I.list z
      exact ⟨its.toArray, rv, .inl pl.isList⟩
    · obtain ⟨its, rv, pl, _⟩ := I.tuple z
      exact ⟨its.toArray, rv, .inr pl⟩
  obtain ⟨its, rv, pl⟩ := look
  refine call_set xs (I.ok.hd hc) pl rv.strs room fun h2 tk R k => ?_
  refine ⟨.ref _, upd H s.heap.objs.size (SetX X.w s.heap.objs.size xs), I.laid (t' := tk) k (Nat.le_refl _) ⟨R, ?_, fun h3 h4 p k2 => SetT.mv p k2⟩, rfl, q _ (I.hok.fresh (Nat.le_refl _))⟩
  have ⟨o, _, _, _, g, _⟩ := R
  exact ⟨o, g⟩
/-- len of a set of texts -/
def rLenX (wo : World) : List V → Hp → VK → Prop := fun vs H Q => ∃ (a : Addr) (xs : List Str), vs = [.ref a] ∧ H a = some (SetX wo a xs) ∧ Q (.int ((many xs : Nat) : Int)) H
theorem cr_lenX : CallR X (.builtin "len") (rLenX X.w) := by
  intro pins s σ H vs us Q I r h
  obtain ⟨a, xs, rfl, g, q⟩ := h
  obtain ⟨o, es, ep, t, go, ex, d, W⟩ := setX_get I g
  rw [Vals.ref1 r]
  have low : es.size < 2 ^ 24 := Nat.lt_of_lt_of_le W.few (by decide)
  refine call_len_set go ex d W.fit (by omega) ?_
  rw [W.num]
  exact ⟨.int ((many xs : Nat) : Int), H, I.tok _, ⟨_, rfl⟩, q⟩
/-- sorted of a set of fewer than 64 texts -/
def rSrtX (wo : World) : List V → Hp → VK → Prop := fun vs H Q => ∃ (a : Addr) (xs : List Str), vs = [.ref a] ∧ H a = some (SetX wo a xs) ∧ xs.length < 64 ∧
  ∀ (ys : List Str) (p : Addr), sortedS ys = true → ys.Nodup → (∀ y, y ∈ ys ↔ y ∈ xs) → H p = none → Q (.ref p) (upd H p (.lst (ys.map V.str)))
theorem cr_srtX (hc : X.calm = true) : CallR X (.builtin "sorted") (rSrtX X.w) := by
  intro pins s σ H vs us Q I r h
  obtain ⟨a, xs, rfl, ga, few, q⟩ := h
  rw [Vals.ref1 r]
  have low := many_le xs
  refine sorted_tx (setX_get I ga) (I.ok.hd hc) (by omega) fun t p arr c ys k g o lp gp are srt nd mm len => ?_
  have fits : (ys.map V.str).length ≤ sizeLine := by rw [List.length_map, len, sizeLine_eq]; omega
  have new : H p = none := I.hok.fresh lp
  have J : Inv X pins σ (upd H p (.lst (ys.map V.str))) { s with heap := t.heap, gens := t.gens, drawn := t.drawn, toks := t.toks } :=
    I.call (ch := []) (Un.laid k lp new) (I.hok.laid k lp ⟨fits, arr.toList, c, vals_of_strs are, gp⟩) (by rw [g]; exact I.bare) nofun
  have same : t = { s with heap := t.heap, gens := t.gens, drawn := t.drawn, toks := t.toks } := by
    obtain ⟨_, _, _, _, _⟩ := t
    subst o
    rfl
  rw [same]
  exact ⟨.ref p, _, J, rfl, q ys p srt nd (fun y => (mm y).trans decide_eq_true_iff) new⟩
end
end NU

set_option Elab.async false
set_option linter.all false
set_option maxRecDepth 100000
set_option maxHeartbeats 4000000
/-! Defs that raise where nothing is handled, said with the context None: what they ask; the weaker promise. -/
namespace NN
open PySem PySem.Spec PyProof.Rows L2
section
variable {P : Program} {w : World} {K : PySem.W.Frag} {mg : Str → Option Value} {base : Heap} {k : Nat} {f : Addr} {fd : FuncData} {ps : List Str} {sp : Sp}
theorem cx_less {outer : List Env} {H : Hp} {s s' : Shared} {E : XK} {u : Value} (h : L2N.CX P w outer H s E u s') : L2.CX P w outer H s E u s' :=
  have ⟨a, B, H2, cls, d, e, fl, r⟩ := h
  ⟨a, B, H2, cls, d, e, L2H.flyingZ_imp (fun _ z => z.zc) fl, r⟩
theorem cr_less {outer : List Env} {H : Hp} {s s' : Shared} {Q : VK} {E : XK} {r : Result} (h : CR (L2N.CX P w) outer P w H s Q E r s') : CR (L2.CX P w) outer P w H s Q E r s' := by
  cases r with
  | error e => exact cx_less h
  | ok fl => cases fl <;> exact h
theorem fnOk_less (F : FnOk P w K mg base (L2N.CX P w) k f fd ps sp) : FnOk P w K mg base (L2.CX P w) k f fd ps sp :=
  ⟨F.len, fun A outer s H args us vs Q E hr e0 hb r h => codeAny_mono (F.run A outer s H args us vs Q E hr e0 hb r h) fun _ _ q => cr_less q⟩
theorem fnR_less (F : FnR P w K mg base (L2N.CX P w) k f sp) : FnR P w K mg base (L2.CX P w) k f sp :=
  fun A outer s H us vs Q E hr e0 r h => codeAny_mono (F A outer s H us vs Q E hr e0 r h) fun _ _ q => cr_less q
theorem upN : StX.CXUp (L2N.CX P w) := by
  intro outer s H s2 H2 E e s' un kp ho h
  obtain ⟨a, B, H3, cls, d, ea, fl, hok, ub, na, os, ag, he⟩ := h
  refine ⟨a, B, H3, cls, d, ea, fl, hok, { keep := fun b o q n hb => ?_, slot := fun b o q hb => ub.slot b o (kp b o q) hb, free := fun b o q n => ?_, there := fun b o q hb => ub.there b o (kp b o q) hb, tups := fun b xs q => ub.tups b xs (un.tups b xs q), frzs := fun b o xs q => ub.frzs b o xs (un.frzs b o xs q), tbls := fun b ts q => ?_ }, na, os.trans ho, ag, he⟩
  · exact ub.keep b o (kp b o q) (un.free b o q n (by simp)) hb
  · exact ub.free b o (kp b o q) (un.free b o q n (by simp))
  · obtain ⟨m1, e1⟩ := un.tbls b ts q
    obtain ⟨m2, e2⟩ := ub.tbls b _ e1
    exact ⟨m1 ++ m2, e2.trans (by rw [Array.append_assoc])⟩
/-- a def of the text that may raise, its exceptions with the context None -/
theorem okN {x qual : Str} {st : Stmt} {N : List Str} (F : Fun K x qual st f fd) (S : FnScope N ps (defScope st)) (len : ∀ vs H Q E, sp vs H Q E → vs.length = ps.length)
    (run : ∀ (cdv : Value) (A : Around) (outer : List Env) (s : Shared) (H : Hp) (vs : List V) (Q : VK) (E : XK), Room k (A.deeper (envOfC qual (defScope st) s.heap.objs.size f cdv)) → sp vs H Q E →
      ∃ t, PSs (cxOf (L2N.CX P w) P w K mg base N qual (defScope st) f cdv A outer s H E) (defBody st) t ∧ t { nx := fun _ H2 => Q .non H2, rt := Q } (start N vs) H) : FnOk P w K mg base (L2N.CX P w) (k + 1) f fd ps sp := by
  obtain ⟨oc, od, kV, doc, pm, an, cdv, ct, osl, e, lk, cd⟩ := F.ex
  subst e
  exact fn_of lk cd S len fun A outer s H vs Q E hr h => run cdv A outer s H vs Q E hr h
end
theorem passN {X : Cx} {E : XK} (tk : L2N.Takes X (fun cls d _ H => E cls d H)) : Passes (L2N.CX X.prog X.w) X E := fun pins σ H s e s' I h => L2N.passAt tk σ pins H s e s' I h
section
variable {X : Cx} {CX : CXT} {x : Str} {e : Expr} {es : List Expr} {ta : TA} {p pos : Pos} {C fI : Addr} {k : Nat} {fd : FuncData} {ps : List Str} {sp : Sp}
/-- C(e, ..), an exception class of ours with an __init__, where nothing is handled: made with the context None -/
theorem pmkN (T : OexC X.K C) (iC : PySem.W.findIn X.K (.ref C) "__init__" = some (some (.ref fI))) (tI : PySem.W.typeIn X.K (.ref fI) = some (.type "function"))
    (F1 : FnOk X.prog X.w X.K X.mg X.base CX k fI fd ps sp) (hr : Room (k + 1) X.A) (hb : Binds X.K fd ps []) (hx : Passes CX X (fun _ _ _ => False)) (hg : Gl X x) (hm : X.mg x = some (.ref C)) (ha : PA X (e :: es) ta)
    (hdb : (x == ("__debug__" : Str)) = false := by decide) (he : starEach (e :: es) X.env = (false, eval e X.env) :: starEach es X.env := by rfl) (hpl : (backTo pos (starEach es X.env)).any (·.1) = false := by rfl) :
    L2N.PMk X (.Call (.Name x p) (e :: es) [] pos) (tMkO C sp [] ta) := by
  intro pins s σ H Q I h
  have tc := T.cls
  obtain ⟨nm, q, N, bs, bm, sn, sub, ab, col, dd, k0, k1, k2, k3, k5, hC, hbm⟩ := tc
  refine wpAny_Call_Name_kw (ld_glob I hg hm ?_ hdb)
  refine PySem.W.callWith_K (h₀ := X.base) I.ok.mod.kin T.kC (thn (ha.run pos pins s σ H _ I h) fun us s1 ⟨vs, H1, I1, r1, few, q1⟩ => ⟨I1.kIn, ?_⟩) he hpl
  show wpAny _ _ (call (.ref C) us) _ _ _
  obtain ⟨hp, g, dr, tk, os⟩ := s1
  have up : hp.objs.size ≤ hp.objs.size + 1 := Nat.le_succ _
  have new : H1 (hp.objs.size + 1) = none := I1.hok.fresh up
  have ask := q1 (hp.objs.size + 1) new
  rw [List.append_nil] at ask
  let hp2 : Heap := (hp.push (PySem.W.kdv_tup us)).push (PySem.HandSPX.excO C hp.objs.size)
  have keeps : ∀ b o, hp.get? b = some o → hp2.get? b = some o := fun b o z => Heap.get?_push_of_some _ (Heap.get?_push_of_some _ z)
  have at_ : hp2.get? (hp.objs.size + 1) = some (PySem.HandSPX.excO C hp.objs.size) := by
    show ((hp.push (PySem.W.kdv_tup us)).push (PySem.HandSPX.excO C hp.objs.size)).get? (hp.objs.size + 1) = _
    heap_get
  have I2 : Inv X pins σ (upd H1 (hp.objs.size + 1) (exo (hp.objs.size + 1) C none)) ⟨hp2, g, dr, tk, os⟩ := I1.laid (t' := tk) (a := hp.objs.size + 1) (o := exo (hp.objs.size + 1) C none) (h' := hp2) keeps up (exo_ok at_)
  have r2 : Vals (V.ref (hp.objs.size + 1) :: vs) (Value.ref (hp.objs.size + 1) :: us) := .cons rfl r1
  have len : (Value.ref (hp.objs.size + 1) :: us ++ []).length = ps.length := by
    rw [List.append_nil]
    exact r2.length.symm.trans (F1.len _ _ _ _ ask)
  have low : us.length ≤ sizeLine := by
    rw [← Paired.length r1, sizeLine_eq]
    omega
  have bd := hb _ (Value.ref (hp.objs.size + 1) :: us) I2.kIn len
  rw [List.append_nil] at bd
  refine wpAny_call (PySem.HandSPX.call_own F.excBase_ValueError (fun Y => PySem.HandSPX.refsVE_contains Y bm hbm) (I1.kIn _ _ hC) (PySem.W.looks_findIn I1.kIn iC) (fun self => PySem.W.bind_fn I1.kIn self tI) low
    (codeAny_mono (F1.run _ X.stack _ _ ⟨Value.ref (hp.objs.size + 1) :: us, []⟩ _ _ _ (fun _ _ _ => False) (hr.make C us []) (I2.env0.make C us []) bd r2 ask) fun r s2 z => ?_))
  cases r with
  | error er => exact hx pins σ _ _ er s2 I2 z
  | ok fl =>
    cases fl with
    | ret u =>
      obtain ⟨v, H2, os2, bare2, un2, hok2, rv, ev, d, fs, ea, ed, hd1, q2⟩ := z
      subst ev
      obtain ⟨h2, g2, d2, t2, os3⟩ := s2
      obtain ⟨t0, G, J, kG, ge, hoe, na⟩ := mk_end0 (d2 := d2) (t2 := t2) I1 up keeps un2 hok2 os2 bare2 ea ed hd1
      refine ⟨rv, hp.objs.size + 1, _, _, ⟨G, g2, d2, t2, os3⟩, _, .ref C, some d, rfl, J, kG, ge, hoe, ⟨rfl, rfl, fun ws hv => ?_⟩, rfl, rfl, na, rfl, bare2, raises_own T.exC T.tyC, q2⟩
      cases hv
      rfl
    | next => exact z.elim
    | brk => exact z.elim
    | cont => exact z.elim
end
end NN

set_option Elab.async false
set_option linter.all false
set_option maxRecDepth 100000
set_option maxHeartbeats 4000000
namespace K71
open PySem L2 NX NU
abbrev sErrN : Stmt := inClass (top 3) 0
abbrev sErrR : Stmt := inClass (top 4) 0
abbrev sErrT : Stmt := inClass (top 5) 0
abbrev sCns : Stmt := top 10
abbrev sCun : Stmt := top 11
/-- what stood stands, and an error's dict at d is new, with its one field -/
def Told (H : Hp) (d : Addr) (x : Str) (v : V) (H' : Hp) : Prop := Same H H' ∧ H d = none ∧ H' d = some (.xd [(x, v)])
theorem sameNone {H H' : Hp} {d : Addr} (s : Same H H') (h : H' d = none) : H d = none := by
  cases e : H d with
  | none => rfl
  | some o =>
    rw [s d o e] at h
    cases h
theorem Told.old {H0 H H' : Hp} {d : Addr} {x : Str} {v : V} (s : Same H0 H) (t : Told H d x v H') : Told H0 d x v H' := ⟨s.trans t.1, sameNone s t.2.1, t.2.2⟩
def spErr (K : PySem.W.Frag) (x : Str) : Sp := fun vs H Q _ => ∃ (a C : Addr) (v : V), vs = [.ref a, v] ∧ OexC K C ∧ PySem.W.findIn K (.ref C) x = some none ∧ H a = some (exo a C none) ∧
  ∀ dx, H dx = none → dx ≠ a → Q .non (upd (upd H dx (exd dx [(x, v)])) a (exo a C (some dx)))
theorem scErrN : FnScope ["self", "value"] ["self", "value"] (defScope sErrN) := ⟨rfl, rfl, rfl, by decide +kernel, rfl, by decide +kernel, by decide +kernel⟩
theorem scErrR : FnScope ["self", "value"] ["self", "value"] (defScope sErrR) := ⟨rfl, rfl, rfl, by decide +kernel, rfl, by decide +kernel, by decide +kernel⟩
theorem scErrT : FnScope ["self", "name"] ["self", "name"] (defScope sErrT) := ⟨rfl, rfl, rfl, by decide +kernel, rfl, by decide +kernel, by decide +kernel⟩
theorem scCns : FnScope ["values", "value"] ["values"] (defScope sCns) := ⟨rfl, rfl, rfl, by decide +kernel, rfl, by decide +kernel, by decide +kernel⟩
theorem scCun : FnScope ["names", "seen", "name"] ["names"] (defScope sCun) := ⟨rfl, rfl, rfl, by decide +kernel, rfl, by decide +kernel, by decide +kernel⟩
/-- a name, or something that is none -/
def IsNm (v : V) (z : Str) : Prop := v = .str z ∧ z.length ≤ 1000 ∧ nm z = true
def NoNm (K : PySem.W.Frag) (H : Hp) (v : V) : Prop := (∃ z, v = .str z ∧ z.length ≤ 1000 ∧ nm z = false) ∨ NoStr K H v
/-- the texts ws are names -/
def Nms (ws : List Str) : Prop := ∀ z ∈ ws, z.length ≤ 1000 ∧ nm z = true
/-- the first of some values that is no name, behind the names ws -/
def Bad (K : PySem.W.Frag) (H : Hp) (xs : List V) (ws : List Str) (v : V) : Prop := ∃ l, xs = ws.map V.str ++ v :: l ∧ Nms ws ∧ NoNm K H v
section
variable {P : Program} {w : World} {K : PySem.W.Frag} {mg : Str → Option Value} {base : Heap}
theorem ok_errN {f : Addr} {fd : FuncData} (F : Fun K "__init__" "BadName.__init__" sErrN f fd) : FnOk P w K mg base CX0 1 f fd ["self", "value"] (spErr K "value") := by
  refine F.ok scErrN (fun vs H Q E h => ?_) (fun cdv A outer s H vs Q E hr h => ?_)
  · obtain ⟨a, C, v, rfl, _⟩ := h
    rfl
  · obtain ⟨a, C, v, rfl, T, hf, ha, k⟩ := h
    exact ⟨_, (pss_one (ps_ost (pv 0) (pv 1))), _, rfl, _, rfl, a, C, rfl, T, hf, .inl ⟨ha, fun dx h1 h2 => k dx h1 h2⟩⟩
theorem ok_errR {f : Addr} {fd : FuncData} (F : Fun K "__init__" "BadRule.__init__" sErrR f fd) : FnOk P w K mg base CX0 1 f fd ["self", "value"] (spErr K "value") := by
  refine F.ok scErrR (fun vs H Q E h => ?_) (fun cdv A outer s H vs Q E hr h => ?_)
  · obtain ⟨a, C, v, rfl, _⟩ := h
    rfl
  · obtain ⟨a, C, v, rfl, T, hf, ha, k⟩ := h
    exact ⟨_, (pss_one (ps_ost (pv 0) (pv 1))), _, rfl, _, rfl, a, C, rfl, T, hf, .inl ⟨ha, fun dx h1 h2 => k dx h1 h2⟩⟩
theorem ok_errT {f : Addr} {fd : FuncData} (F : Fun K "__init__" "Twice.__init__" sErrT f fd) : FnOk P w K mg base CX0 1 f fd ["self", "name"] (spErr K "name") := by
  refine F.ok scErrT (fun vs H Q E h => ?_) (fun cdv A outer s H vs Q E hr h => ?_)
  · obtain ⟨a, C, v, rfl, _⟩ := h
    rfl
  · obtain ⟨a, C, v, rfl, T, hf, ha, k⟩ := h
    exact ⟨_, (pss_one (ps_ost (pv 0) (pv 1))), _, rfl, _, rfl, a, C, rfl, T, hf, .inl ⟨ha, fun dx h1 h2 => k dx h1 h2⟩⟩
/-- an error class x of ours with its __init__, which keeps the field y -/
structure ErrC (P : Program) (w : World) (K : PySem.W.Frag) (mg : Str → Option Value) (base : Heap) (x y : Str) (C fI : Addr) : Prop where
  O : OexC K C
  i : PySem.W.findIn K (.ref C) "__init__" = some (some (.ref fI))
  t : PySem.W.typeIn K (.ref fI) = some (.type "function")
  ok : ∃ fd, FnOk P w K mg base CX0 1 fI fd ["self", y] (spErr K y) ∧ Binds K fd ["self", y] []
  g : mg x = some (.ref C)
  v : PySem.W.findIn K (.ref C) y = some none
/-- what making an error of ours asks -/
theorem mkO_of {H : Hp} {C : Addr} {y : Str} {v : V} {Q : XK} (O : OexC K C) (hv : PySem.W.findIn K (.ref C) y = some none) (k : ∀ d H', Told H d y v H' → Q (.ref C) (some d) H') :
    [v].length ≤ 1000 ∧ ∀ a : Addr, H a = none → spErr K y (.ref a :: ([v] ++ [])) (upd H a (exo a C none)) (fun x H2 => x = .non ∧ ∃ (d : Addr) (fs : List (Str × V)), H2 a = some (exo a C (some d)) ∧ H2 d = some (exd d fs) ∧ H d = none ∧ Q (.ref C) (some d) (upd (L2.del H2 a) d (.xd fs))) (fun _ _ _ => False) := by
  refine ⟨by show 1 ≤ 1000; decide, fun a ha => ⟨a, C, v, rfl, O, hv, upd_same, fun d hd hne => ?_⟩⟩
  have hd' : H d = none := by rw [upd_ne hne] at hd; exact hd
  refine ⟨rfl, d, [(y, v)], upd_same, by rw [upd_ne hne]; exact upd_same, hd', k d _ ⟨fun b o hb => ?_, hd', upd_same⟩⟩
  have n1 : b ≠ d := fun e => by rw [e, hd'] at hb; cases hb
  have n2 : b ≠ a := fun e => by rw [e, ha] at hb; cases hb
  rw [upd_ne n1]
  unfold L2.del
  rw [if_neg n2, upd_ne n2, upd_ne n1, upd_ne n2]
  exact hb
/-- check_names(values), the values in a list or a tuple -/
def spCns (K : PySem.W.Frag) (CN : Addr) : Sp := fun vs H Q E => ∃ (p : Addr) (xs : List V), vs = [.ref p] ∧ NI.Sq K H p xs ∧
  ((∃ ws, xs = ws.map V.str ∧ Nms ws ∧ Q .non H) ∨ ∃ ws v, Bad K H xs ws v ∧ ∀ d H', Told H d "value" v H' → E (.ref CN) (some d) H')
theorem ok_cns {CN fI f : Addr} {fd : FuncData} (F : Fun K "check_names" "check_names" sCns f fd) (cIs : C8.Cal P w K mg base 1 "is_name" (spIs K) []) (B : ErrC P w K mg base "BadName" "value" CN fI) :
    FnOk P w K mg base (L2N.CX P w) 3 f fd ["values"] (spCns K CN) := by
  obtain ⟨fde, Fe, hbe⟩ := B.ok
  refine NN.okN F scCns (fun vs H Q E h => ?_) (fun cdv A outer s H vs Q E hr h => ?_)
  · obtain ⟨p, xs, rfl, _⟩ := h
    rfl
  · obtain ⟨p, xs, rfl, hS, h⟩ := h
    refine ⟨_, (pss_one (ps_for (passes_of rfl) rfl (NI.pi_either (pi_list (pv 0)) (pi_tup (pv 0))) (pg_name (i := 1) scCns.nd rfl (Or.inl rfl)) (pss_one (ps_if (pt_not (pt_val (C8.pe_c cIs hr (by decide) rfl (pa_cons (pv 1) pa_nil))))
      (pss_one (L2N.ps_raise rfl (L2N.takes_of rfl rfl rfl rfl) (NN.pmkN B.O B.i B.t Fe hr hbe pass0 rfl B.g (pa_cons (pv 1) pa_nil)))) pss_nil)))), ?_⟩
    rcases h with ⟨ws, rfl, hn, q⟩ | ⟨ws, v, ⟨l, rfl, hn, bad⟩, q⟩
    · refine NI.for_either (xs := ws.map V.str) rfl hS (fun i σ H' => H' = H ∧ ∃ y, σ = [some (.ref p), y]) ⟨rfl, _, rfl⟩ (fun i σ H' ⟨e, _⟩ => by rw [e]; exact fun _ _ z => z) (fun i x σ H' hx ⟨e, y, eσ⟩ => ?_) (fun σ H' ⟨e, _⟩ => by rw [e]; exact q)
      subst e eσ
      rw [List.getElem?_map] at hx
      obtain ⟨z, hz, rfl⟩ := Option.map_eq_some_iff.mp hx
      obtain ⟨h1, h2⟩ := hn z (List.mem_of_getElem? hz)
      refine ⟨_, rfl, _, rfl, .inl ⟨z, rfl, h1, ?_⟩⟩
      rw [h2]
      exact ⟨_, rfl, iteF ⟨rfl, _, rfl⟩⟩
    · refine NI.for_either (xs := ws.map V.str ++ v :: l) rfl hS (fun i σ H' => i ≤ ws.length ∧ H' = H ∧ ∃ y, σ = [some (.ref p), y]) ⟨Nat.zero_le _, rfl, _, rfl⟩ (fun i σ H' ⟨_, e, _⟩ => by rw [e]; exact fun _ _ z => z) (fun i x σ H' hx ⟨hi, e, y, eσ⟩ => ?_) (fun σ H' ⟨hi, _⟩ => ?_)
      · subst e eσ
        by_cases lt : i < ws.length
        · rw [List.getElem?_append_left (by rw [List.length_map]; exact lt), List.getElem?_map, List.getElem?_eq_getElem lt] at hx
          obtain rfl := Option.some.inj hx
          obtain ⟨h1, h2⟩ := hn ws[i] (List.getElem_mem lt)
          refine ⟨_, rfl, _, rfl, .inl ⟨ws[i], rfl, h1, ?_⟩⟩
          rw [h2]
          exact ⟨_, rfl, iteF ⟨lt, rfl, _, rfl⟩⟩
        · obtain rfl : i = ws.length := by omega
          rw [List.getElem?_append_right (by rw [List.length_map]; exact Nat.le_refl _), List.length_map, Nat.sub_self] at hx
          obtain rfl : v = x := Option.some.inj hx
          refine ⟨_, rfl, _, rfl, ?_⟩
          rcases bad with ⟨z, rfl, hz, hb⟩ | bad
          · refine .inl ⟨z, rfl, hz, ?_⟩
            rw [hb]
            exact ⟨_, rfl, iteT ⟨_, rfl, mkO_of B.O B.v q⟩⟩
          · exact .inr ⟨bad, _, rfl, iteT ⟨_, rfl, mkO_of B.O B.v q⟩⟩
      · rw [List.length_append, List.length_map, List.length_cons] at hi
        omega
end
end K71

set_option Elab.async false
set_option linter.all false
set_option maxRecDepth 100000
set_option maxHeartbeats 4000000
namespace K71
open PySem L2 NX NU
/-- a def of ours that may raise, called by its name -/
structure CalL (P : Program) (w : World) (K : PySem.W.Frag) (mg : Str → Option Value) (base : Heap) (k : Nat) (x : Str) (sp : Sp) : Prop where
  ex : ∃ (f : Addr) (fd : FuncData) (ps : List Str), FnOk P w K mg base (L2N.CX P w) k f fd ps sp ∧ mg x = some (.ref f) ∧ PySem.W.keepIn K (.ref f) = true ∧ Binds K fd ps []
theorem pe_cL {X : Cx} {k j : Nat} {x : Str} {sp : Sp} {E : XK} {e : Expr} {es : List Expr} {t : TA} {p pos : Pos} (c : CalL X.prog X.w X.K X.mg X.base k x sp) (hr : Room j X.A) (hk : k ≤ j) (hg : Gl X x) (hx : Passes (L2N.CX X.prog X.w) X E) (ha : PA X (e :: es) t)
    (hdb : (x == ("__debug__" : Str)) = false := by decide) (he : starEach (e :: es) X.env = (false, eval e X.env) :: starEach es X.env := by rfl) (hpl : (backTo pos (starEach es X.env)).any (·.1) = false := by rfl) :
    PE X (.Call (.Name x p) (e :: es) [] pos) (tCall sp [] E t) := by
  obtain ⟨f, fd, ps, F, hm, kp, b⟩ := c.ex
  exact pe_call F (hr.mono hk) hg hm kp b .nil hx ha hdb he hpl
/-- no text stands twice; the first that does, at place i -/
def NoRep (ws : List Str) : Prop := ∀ i z, ws[i]? = some z → z ∉ ws.take i
def Rep (ws : List Str) (i : Nat) (z : Str) : Prop := ws[i]? = some z ∧ z ∈ ws.take i ∧ ∀ j, j < i → ∀ y, ws[j]? = some y → y ∉ ws.take j
theorem rep_or (ws : List Str) : NoRep ws ∨ ∃ i z, Rep ws i z := by
  suffices h : ∀ n, n ≤ ws.length → (∀ j, j < n → ∀ y, ws[j]? = some y → y ∉ ws.take j) ∨ ∃ i z, Rep ws i z by
    rcases h ws.length (Nat.le_refl _) with h | h
    · exact .inl fun i z e => h i (List.getElem?_eq_some_iff.mp e).1 z e
    · exact .inr h
  intro n
  induction n with
  | zero => exact fun _ => .inl nofun
  | succ n ih =>
    intro hn
    rcases ih (by omega) with h | h
    · have at_ : ws[n]? = some ws[n] := List.getElem?_eq_getElem (by omega)
      by_cases m : ws[n] ∈ ws.take n
      · exact .inr ⟨n, _, at_, m, h⟩
      · refine .inl fun j hj y e => ?_
        by_cases e2 : j = n
        · subst e2
          rw [at_] at e
          exact Option.some.inj e ▸ m
        · exact h j (by omega) y e
    · exact .inr h
/-- check_unlike(names), the names texts -/
def spCun (K : PySem.W.Frag) (CT : Addr) : Sp := fun vs H Q E => ∃ (p : Addr) (ws : List Str), vs = [.ref p] ∧ NI.Sq K H p (ws.map V.str) ∧ ws.length ≤ 1000 ∧
  ((NoRep ws ∧ ∀ H', Same H H' → Q .non H') ∨ ∃ i z, Rep ws i z ∧ ∀ d H', Told H d "name" (.str z) H' → E (.ref CT) (some d) H')
section
variable {P : Program} {w : World} {K : PySem.W.Frag} {mg : Str → Option Value} {base : Heap}
theorem ok_cun {CT fI f : Addr} {fd : FuncData} (F : Fun K "check_unlike" "check_unlike" sCun f fd) (B : ErrC P w K mg base "Twice" "name" CT fI) :
    FnOk P w K mg base (L2N.CX P w) 3 f fd ["names"] (spCun K CT) := by
  obtain ⟨fde, Fe, hbe⟩ := B.ok
  refine NN.okN F scCun (fun vs H Q E h => ?_) (fun cdv A outer s H vs Q E hr h => ?_)
  · obtain ⟨p, ws, rfl, _⟩ := h
    rfl
  · obtain ⟨p, ws, rfl, hS, few, h⟩ := h
    have hu := hu_of hr
    refine ⟨_, (pss_cons (ps_set (i := 1) scCun.nd rfl (Or.inl rfl) pe_dnewK) (pss_one (ps_for (passes_of rfl) rfl (NI.pi_either (pi_list (pv 0)) (pi_tup (pv 0))) (pg_name (i := 2) scCun.nd rfl (Or.inl rfl))
      (pss_cons (ps_if (pt_cmp (pc_din hu (pv 2) (pv 1))) (pss_one (L2N.ps_raise rfl (L2N.takes_of rfl rfl rfl rfl) (NN.pmkN B.O B.i B.t Fe hr hbe pass0 rfl B.g (pa_cons (pv 2) pa_nil)))) pss_nil)
        (pss_one (ps_dput hu (pv 1) (pv 2) pe_bl rfl)))))), ?_⟩
    intro d hd
    have step : ∀ (i : Nat) (z : Str) (H' : Hp) (kvs : List (Key × V)), ws[i]? = some z → (∀ b o, H b = some o → H' b = some o) → H' d = some (.dK kvs) → kvs.length ≤ i → (∀ y : Str, (valV kvs (.inr y)).isSome = decide (y ∈ ws.take i)) →
        z ∉ ws.take i → (∀ b o, H b = some o → upd H' d (.dK (putK kvs (.inr z) (.bl true))) b = some o) ∧ (putK kvs (.inr z) (.bl true)).length ≤ i + 1 ∧ ∀ y : Str, (valV (putK kvs (.inr z) (.bl true)) (.inr y)).isSome = decide (y ∈ ws.take (i + 1)) := fun i z H' kvs hz s g l k no => by
      refine ⟨fun b o hb => ?_, Nat.le_trans (length_putK kvs _ _) (by omega), fun y => ?_⟩
      · have ne : b ≠ d := fun e => by rw [e, hd] at hb; cases hb
        rw [upd_ne ne]
        exact s b o hb
      · rw [valV_put, List.take_add_one, hz]
        by_cases e : y = z
        · subst e
          rw [if_pos rfl]
          simp
        · rw [if_neg (fun q => e (Sum.inr.inj q)), k y]
          simp [e]
    let Iv : Nat → L2.St → Hp → Prop := fun i σ H' => (∀ b o, H b = some o → H' b = some o) ∧ (∃ kvs, H' d = some (.dK kvs) ∧ kvs.length ≤ i ∧ ∀ y : Str, (valV kvs (.inr y)).isSome = decide (y ∈ ws.take i)) ∧ ∃ y, σ = [some (.ref p), some (.ref d), y]
    have base0 : Iv 0 [some (.ref p), some (.ref d), none] (upd H d (.dK [])) := ⟨Same.new hd, ⟨[], upd_same, Nat.le_refl _, fun y => by simp [valV]⟩, _, rfl⟩
    rcases h with ⟨nr, q⟩ | ⟨n, zn, ⟨hn, hin, hfirst⟩, q⟩
    · refine NI.for_either (xs := ws.map V.str) rfl hS Iv base0 (fun i σ H' ⟨s, _⟩ => s) (fun i x σ H' hx ⟨s, ⟨kvs, g, l, k⟩, y, eσ⟩ => ?_) (fun σ H' ⟨s, _⟩ => q _ s)
      subst eσ
      rw [List.getElem?_map] at hx
      obtain ⟨z, hz, rfl⟩ : ∃ z, ws[i]? = some z ∧ V.str z = x := by
        cases e : ws[i]? with
        | none => rw [e] at hx; cases hx
        | some z => rw [e] at hx; exact ⟨z, rfl, Option.some.inj hx⟩
      have no := nr i z hz
      obtain ⟨a1, a2, a3⟩ := step i z H' kvs hz s g l k no
      refine ⟨_, rfl, _, rfl, _, _, rfl, DGet.k (k := .inr z) g, ?_⟩
      rw [k z, decide_eq_false no]
      exact ⟨_, rfl, iteF ⟨_, rfl, _, rfl, _, _, rfl, DPut.k (k := .inr z) g (by have := (List.getElem?_eq_some_iff.mp hz).1; rw [sizeLine_eq]; omega), a1, ⟨_, upd_same, a2, a3⟩, _, rfl⟩⟩
    · have ltn : n < ws.length := (List.getElem?_eq_some_iff.mp hn).1
      refine NI.for_either (xs := ws.map V.str) rfl hS (fun i σ H' => i ≤ n ∧ Iv i σ H') ⟨Nat.zero_le _, base0⟩ (fun i σ H' ⟨_, s, _⟩ => s) (fun i x σ H' hx ⟨hi, s, ⟨kvs, g, l, k⟩, y, eσ⟩ => ?_) (fun σ H' ⟨hi, _⟩ => ?_)
      · subst eσ
        rw [List.getElem?_map] at hx
        obtain ⟨z, hz, rfl⟩ : ∃ z, ws[i]? = some z ∧ V.str z = x := by
          cases e : ws[i]? with
          | none => rw [e] at hx; cases hx
          | some z => rw [e] at hx; exact ⟨z, rfl, Option.some.inj hx⟩
        refine ⟨_, rfl, _, rfl, _, _, rfl, DGet.k (k := .inr z) g, ?_⟩
        rw [k z]
        by_cases e : i = n
        · subst e
          rw [hn] at hz
          obtain rfl := Option.some.inj hz
          rw [decide_eq_true hin]
          exact ⟨_, rfl, iteT ⟨_, rfl, mkO_of B.O B.v fun d2 H2 t => q d2 H2 (t.old s)⟩⟩
        · have no := hfirst i (by omega) z hz
          obtain ⟨a1, a2, a3⟩ := step i z H' kvs hz s g l k no
          rw [decide_eq_false no]
          exact ⟨_, rfl, iteF ⟨_, rfl, _, rfl, _, _, rfl, DPut.k (k := .inr z) g (by rw [sizeLine_eq]; omega), (by omega), a1, ⟨_, upd_same, a2, a3⟩, _, rfl⟩⟩
      · rw [List.length_map] at hi
        omega
end
end K71

set_option Elab.async false
set_option linter.all false
set_option maxRecDepth 100000
set_option maxHeartbeats 4000000
/-! Defs with a star parameter and keyword-only ones behind it, called by place and by keywords; classes made by such an __init__. -/
namespace NB
open PySem PySem.Spec PyProof.Rows L2
/-- a def's promise: what is passed for the keywords ks first, then by place -/
def FnK (P : Program) (w : World) (K : PySem.W.Frag) (mg : Str → Option Value) (base : Heap) (CX : CXT) (k : Nat) (f : Addr) (ks : List Str) (sp : List V → Sp) : Prop :=
  ∀ (A : Around) (outer : List Env) (s : Shared) (H : Hp) (us ws : List Value) (vs zs : List V) (Q : VK) (E : XK), Room k A → Env0 P w K mg base A outer s H → Vals vs us → Vals zs ws → zs.length = ks.length → sp zs vs H Q E →
    codeAny (model P w) A (.call (.ref f) ⟨us, ks.zip ws⟩) (CR CX outer P w H s Q E) s
def spStar (ps : List Str) (sp : Sp) (zs : List V) : Sp := fun vs H Q E => ∃ wv rest, vs = wv ++ rest ∧ wv.length = ps.length ∧ rest.length ≤ sizeLine ∧ ∀ p, H p = none → sp (wv ++ zs ++ [V.ref p]) (upd H p (.tup rest)) Q E
section
variable {CX : CXT} {P : Program} {w : World} {K : PySem.W.Frag} {mg : Str → Option Value} {base : Heap} {k : Nat} {f : Addr} {name qual : Str} {params : Arguments} {body : List Stmt} {scope : Scope} {dV kV doc pm cdv ct oc : Value} {an od : Option Addr}
  {osl : Array (Option Value)} {N ps qs : List Str} {sp : Sp} {pv : Str}
theorem star_core (lk : K.lookup f = some ⟨oc, od, .func (PySem.W.fnOf name qual params body scope dV kV doc pm an cdv ct), osl⟩) (hcd : PySem.W.codeIn K cdv qual = true) (S : FnScope N (ps ++ qs ++ [pv]) scope) (hCX : StX.CXUp CX)
    {A : Around} {outer : List Env} {s : Shared} {H : Hp} {us ws : List Value} {vs zs : List V} {kw : List (Str × Value)} {Q : VK} {E : XK} (hr : Room (k + 1) A) (e0 : Env0 P w K mg base A outer s H) (rv : Vals vs us) (rz : Vals zs ws) (lz : zs.length = qs.length)
    (hb : ∀ (u1 u2 : List Value), us = u1 ++ u2 → u1.length = ps.length → ∀ (A' : Around) (Ex : Value → Shared → Prop) (Q' : List (Str × Value) → Shared → Prop), wpAny (model P w) A' (newTuple u2 >>= fun t => pure ((ps ++ qs).zip (u1 ++ ws) ++ [(pv, t)])) Q' Ex s →
      wpAny (model P w) A' (bindArgs (PySem.W.fnOf name qual params body scope dV kV doc pm an cdv ct) ⟨us, kw⟩) Q' Ex s)
    (hbody : ∀ (A : Around) (outer : List Env) (s : Shared) (H : Hp) (vs : List V) (Q : VK) (E : XK), Room k (A.deeper (envOfC qual scope s.heap.objs.size f cdv)) → sp vs H Q E →
      ∃ t, PSs (cxOf CX P w K mg base N qual scope f cdv A outer s H E) body t ∧ t { nx := fun _ H2 => Q .non H2, rt := Q } (start N vs) H)
    (h : spStar ps sp zs vs H Q E) : codeAny (model P w) A (.call (.ref f) ⟨us, kw⟩) (CR CX outer P w H s Q E) s := by
  obtain ⟨wv, rest, ev, hl, hz, ask⟩ := h
  subst ev
  obtain ⟨u1, u2, eu, r1, r2⟩ := StX.vals_split rv
  have free : H s.heap.objs.size = none := e0.hok.fresh (Nat.le_refl _)
  have hl1 : u1.length = ps.length := by rw [← r1.length]; exact hl
  have hw : ws.length = qs.length := by rw [← rz.length]; exact lz
  refine StX.run_bnd lk hcd S hr e0 (G := fun xs H2 => ∃ p, H p = none ∧ xs = wv ++ zs ++ [V.ref p] ∧ H2 = upd H p (.tup rest)) (fun A' Ex Q' go => ?_) fun s2 H2 xs ⟨p, hp, ex, eH⟩ hr2 => ?_
  · refine hb u1 u2 eu hl1 A' Ex Q' ?_
    refine wpAny_bind (wpAny_newTuple (wpAny_pure ?_) (by rw [← r2.length]; exact hz))
    have new : ObjOk P w (upd H s.heap.objs.size (.tup rest)) (s.heap.push ({ cls := .type "tuple", data := .seq u2.toArray } : Obj)) s.heap.objs.size (.tup rest) := ⟨hz, u2, r2, ⟨_, Heap.get?_push_size _ rfl, rfl, _, rfl⟩⟩
    have un := StX.un_laid (fs := frs outer) (s := s) (o := ({ cls := .type "tuple", data := .seq u2.toArray } : Obj)) (u := .tup rest) free
    have z := go _ _ (wv ++ zs ++ [V.ref s.heap.objs.size]) (u1 ++ ws ++ [Value.ref s.heap.objs.size]) (StX.env0_laid e0 new) un rfl (fun e s' => hCX outer s H _ _ E e s' un (fun b o q => Heap.get?_push_of_some _ q) rfl) ((r1.append rz).append (.cons rfl .nil))
      (by simp only [List.length_append, hl, lz, List.length_cons, List.length_nil]) ⟨_, free, rfl, rfl⟩
    rw [List.zip_append (by rw [List.length_append, List.length_append, hl1, hw])] at z
    exact z
  · subst ex eH
    exact hbody A outer s2 _ _ Q E hr2 (ask p hp)
/-- def f(a, .., *v, k, ..), called with all of the keywords k, .. -/
theorem fn_starK (lk : K.lookup f = some ⟨oc, od, .func (PySem.W.fnOf name qual params body scope dV kV doc pm an cdv ct), osl⟩) (hcd : PySem.W.codeIn K cdv qual = true) (S : FnScope N (ps ++ qs ++ [pv]) scope) (hCX : StX.CXUp CX)
    (hb : ∀ u1 u2 ws : List Value, u1.length = ps.length → ws.length = qs.length → bindArgs (PySem.W.fnOf name qual params body scope dV kV doc pm an cdv ct) ⟨u1 ++ u2, qs.zip ws⟩ = (newTuple u2 >>= fun t => pure ((ps ++ qs).zip (u1 ++ ws) ++ [(pv, t)])))
    (hbody : ∀ (A : Around) (outer : List Env) (s : Shared) (H : Hp) (vs : List V) (Q : VK) (E : XK), Room k (A.deeper (envOfC qual scope s.heap.objs.size f cdv)) → sp vs H Q E →
      ∃ t, PSs (cxOf CX P w K mg base N qual scope f cdv A outer s H E) body t ∧ t { nx := fun _ H2 => Q .non H2, rt := Q } (start N vs) H) : FnK P w K mg base CX (k + 1) f qs (spStar ps sp) := by
  intro A outer s H us ws vs zs Q E hr e0 rv rz lz h
  refine star_core lk hcd S hCX hr e0 rv rz lz (fun u1 u2 eu hl A' Ex Q' q => ?_) hbody h
  rw [eu, hb u1 u2 ws hl (by rw [← rz.length]; exact lz)]
  exact q
/-- .. called without the one keyword, whose default is dv -/
theorem fn_starD {kn : Str} {D : Addr} {u : Value} {dv : V} (lk : K.lookup f = some ⟨oc, od, .func (PySem.W.fnOf name qual params body scope dV (.ref D) doc pm an cdv ct), osl⟩) (hcd : PySem.W.codeIn K cdv qual = true) (S : FnScope N (ps ++ [kn] ++ [pv]) scope) (hCX : StX.CXUp CX)
    (hu : PySem.W.nsIn K D kn = some (some u)) (rd : RelV dv u)
    (hb : ∀ u1 u2 : List Value, u1.length = ps.length → ∃ (β γ : Type) (k1 : Option Value → Sem β) (k2 : β → Sem γ) (k3 : γ → Sem (List (Str × Value))) (a : β), bindArgs (PySem.W.fnOf name qual params body scope dV (.ref D) doc pm an cdv ct) ⟨u1 ++ u2, []⟩ = ((nsGet D kn >>= k1) >>= k2) >>= k3 ∧
      k1 (some u) = pure a ∧ (k2 a >>= k3) = (newTuple u2 >>= fun t => pure ((ps ++ [kn]).zip (u1 ++ [u]) ++ [(pv, t)])))
    (hbody : ∀ (A : Around) (outer : List Env) (s : Shared) (H : Hp) (vs : List V) (Q : VK) (E : XK), Room k (A.deeper (envOfC qual scope s.heap.objs.size f cdv)) → sp vs H Q E →
      ∃ t, PSs (cxOf CX P w K mg base N qual scope f cdv A outer s H E) body t ∧ t { nx := fun _ H2 => Q .non H2, rt := Q } (start N vs) H) : FnR P w K mg base CX (k + 1) f (spStar ps sp [dv]) := by
  intro A outer s H us vs Q E hr e0 rv h
  have KX : K.In s.heap := e0.mod.kin.keeps fun b o e => (e0.bs b o e).1
  refine star_core lk hcd S hCX hr e0 rv (.cons rd .nil) rfl (fun u1 u2 eu hl A' Ex Q' q => ?_) hbody h
  obtain ⟨β, γ, k1, k2, k3, a, e1, e2, e3⟩ := hb u1 u2 hl
  have l1 : PySem.W.Looks (model P w) s.heap (nsGet D kn >>= k1) a := (PySem.W.looks_nsIn KX hu).andThen (PySem.W.Looks.of_pure e2)
  rw [eu, e1, bind_assoc]
  refine wpAny_bind (l1.here ?_)
  show wpAny _ _ (k2 a >>= k3) _ _ _
  rw [e3]
  exact q
end
section
variable {X : Cx} {CX : CXT} {k : Nat} {f C : Addr} {ks : List Str} {sp : List V → Sp} {E : XK} {x : Str} {p pos : Pos} {e : Expr} {es : List Expr} {kws : List Keyword} {t tk : TA}
theorem run_makeKS {pins : List (Addr × Obj)} {σ : L2.St} {H : Hp} {s : Shared} {Q : VK} {us ws : List Value} {vs zs : List V} (M : Mk X.K C f) (F : FnK X.prog X.w X.K X.mg X.base CX k f ks sp) (hr : Room (k + 1) X.A) (hx : Passes CX X E)
    (I : Inv X pins σ H s) (r : Vals vs us) (rz : Vals zs ws) (lz : zs.length = ks.length)
    (h : ∀ y dy, H y = none → H dy = none → dy ≠ y → sp zs (V.ref y :: vs) (upd (upd H dy (.own y)) y (.ins C dy [])) (fun v H2 => v = .non ∧ Q (.ref y) H2) E) :
    wpAny (model X.prog X.w) X.A (call (.ref C) us (ks.zip ws)) (EP X pins σ Q) X.xe s := by
  have ask := h (s.heap.objs.size + 1) s.heap.objs.size (I.hok.fresh (Nat.le_succ _)) (I.hok.fresh (Nat.le_refl _)) (Nat.ne_of_lt (Nat.lt_succ_self _))
  have J := Inv.made (C := C) I
  have rr : Vals (V.ref (s.heap.objs.size + 1) :: vs) (Value.ref (s.heap.objs.size + 1) :: us) := .cons rfl r
  refine wpAny_call (make_map (f := f) I.kIn M.makes M.init (beq_iff_eq.mp M.fn) (codeAny_mono (F _ X.stack _ _ (Value.ref (s.heap.objs.size + 1) :: us) ws _ _ _ E (hr.make C us (ks.zip ws)) (J.env0.make C us (ks.zip ws)) rr rz lz ask) fun r s2 back => ?_))
  cases r with
  | error er => exact hx pins σ _ _ er s2 J back
  | ok fl =>
    cases fl with
    | next => exact False.elim back
    | brk => exact False.elim back
    | cont => exact False.elim back
    | ret u =>
      obtain ⟨v, H2, J2, rv, ev, q⟩ := J.after back
      subst ev
      exact ⟨rv, ⟨V.ref (s.heap.objs.size + 1), H2, J2, rfl, q⟩⟩
def tMakeKS (C : Addr) (n : Nat) (sp : List V → Sp) (E : XK) (t tk : TA) : TE := fun σ H Q => t σ H fun vs H1 => tk σ H1 fun zs H2 => zs.length = n ∧ ∀ y dy, H2 y = none → H2 dy = none → dy ≠ y →
  sp zs (V.ref y :: vs) (upd (upd H2 dy (.own y)) y (.ins C dy [])) (fun v H3 => v = .non ∧ Q (.ref y) H3) E
/-- C(k = v, ..) -/
theorem pe_makeKS0 (M : Mk X.K C f) (F : FnK X.prog X.w X.K X.mg X.base CX k f ks sp) (hr : Room (k + 1) X.A) (hg : Gl X x) (hm : X.mg x = some (.ref C)) (hx : Passes CX X E) (hkw : PK X kws tk)
    (hall : (backToKw pos (keywordEach kws X.env)).all (·.1.isSome) = true := by rfl) (hks : (backToKw pos (keywordEach kws X.env)).filterMap (·.1) = ks := by rfl) (hdb : (x == ("__debug__" : Str)) = false := by decide)
    (hpl : ((backTo pos (starEach [] X.env)).any (·.1) || (backToKw pos (keywordEach kws X.env)).any (·.1.isNone)) = false := by rfl) : PE X (.Call (.Name x p) [] kws pos) (tMakeKS C ks.length sp E tNil tk) := by
  refine ⟨fun pins s σ H Q I h => wpAny_Call_Name_kw (ld_glob I hg hm ?_ hdb)⟩
  refine PySem.W.callWith_KW0 (h₀ := X.base) I.ok.mod.kin M.kp hall (thn (hkw.run pos pins s σ H _ I h) fun ws s2 ⟨zs, H2, J, rz, l, q⟩ => ⟨J.kIn, ?_⟩) hpl
  rw [hks]
  exact run_makeKS (us := []) (vs := []) M F hr hx J .nil rz l q
/-- C(e, .., k = v, ..) -/
theorem pe_makeKS (M : Mk X.K C f) (F : FnK X.prog X.w X.K X.mg X.base CX k f ks sp) (hr : Room (k + 1) X.A) (hg : Gl X x) (hm : X.mg x = some (.ref C)) (hx : Passes CX X E) (ha : PA X (e :: es) t) (hkw : PK X kws tk)
    (hall : (backToKw pos (keywordEach kws X.env)).all (·.1.isSome) = true := by rfl) (hks : (backToKw pos (keywordEach kws X.env)).filterMap (·.1) = ks := by rfl) (hdb : (x == ("__debug__" : Str)) = false := by decide)
    (he : starEach (e :: es) X.env = (false, eval e X.env) :: starEach es X.env := by rfl) (hpl : ((backTo pos (starEach (e :: es) X.env)).any (·.1) || (backToKw pos (keywordEach kws X.env)).any (·.1.isNone)) = false := by rfl) :
    PE X (.Call (.Name x p) (e :: es) kws pos) (tMakeKS C ks.length sp E t tk) := by
  refine ⟨fun pins s σ H Q I h => wpAny_Call_Name_kw (ld_glob I hg hm ?_ hdb)⟩
  refine PySem.W.callWith_KW (h₀ := X.base) I.ok.mod.kin M.kp hall (thn (ha.run pos pins s σ H _ I h) fun us s1 ⟨vs, H1, I1, r, q⟩ => ?_) hpl he
  refine thn (hkw.run pos pins s1 σ H1 _ I1 q) fun ws s2 ⟨zs, H2, J, rz, l, ask⟩ => ⟨J.kIn, ?_⟩
  rw [hks]
  exact run_makeKS M F hr hx J r rz l ask
end
end NB

set_option Elab.async false
set_option linter.all false
set_option maxRecDepth 100000
set_option maxHeartbeats 4000000
/-! enumerate(tuple). -/
namespace NEn
open PySem PySem.Spec PyProof.Rows L2
theorem meets_new {v : Value} {o : Obj} {St : Heap → Prop} (B : Begins v o St) :
    Meets (Builtin.«enumerate.__new__» ⟨[.type "enumerate", v], []⟩) (fun _ R s => St s.heap ∧
      R (.ok (.ret (.ref (s.heap.push o).objs.size))) { s with heap := (s.heap.push o).push { cls := .type "enumerate", data := .fields #[.none, .bool false, .ref s.heap.objs.size, rawInt 0, .none, .none] } }) :=
  .of_wp fun prog w A R s h => by
    obtain ⟨hp, gs, dr, tk, os⟩ := s
    obtain ⟨st, h⟩ := h
    have sub := sub_enumerate
    have start : ∀ {A2 : Around} {E Q : Value → Shared → Prop}, Q (.ref hp.objs.size) ⟨hp.push o, gs, dr, tk, os⟩ → wpAny (model prog w) A2 (pyIter v) Q E ⟨hp, gs, dr, tk, os⟩ := fun q => B.iter prog w _ _ ⟨hp, gs, dr, tk, os⟩ _ st q
    wp_walk using start
    refine wpAny_stack_any fun stk => wpAny_pure ?_
    split
    · rename_i c _ _ _ _ _
      cases (c == Value.type "enumerate") <;> (wp_walk using start; exact ⟨_, rfl, h⟩)
    · wp_walk using start
      exact ⟨_, rfl, h⟩
theorem begins1 {prog : Program} {w : World} {A : Around} {E : Value → Shared → Prop} {s : Shared} {v : Value} {o : Obj} {St : Heap → Prop} {Q : Value → Shared → Prop} (B : Begins v o St) (st : St s.heap)
    (h : ∀ h1, IsEnum h1 (s.heap.objs.size + 1) s.heap.objs.size 0 .none → h1.get? s.heap.objs.size = some o → (∀ b u, s.heap.get? b = some u → h1.get? b = some u) → Q (.ref (s.heap.objs.size + 1)) { s with heap := h1 }) :
    wpAny (model prog w) A (call (.type "enumerate") [v]) Q E s := by
  refine callType_new F.called_enumerate (by decide) (F.typeCall_enumerate_1 _) (F.newCall_enumerate_1 _) (fun obj => F.args_object_init_2 obj _) F.entry_enumerate_new (meets_new B) ⟨st, ?_⟩
  have sz : (s.heap.push o).objs.size = s.heap.objs.size + 1 := Heap.size_push ..
  have at_ := Heap.get?_push_size (s.heap.push o) (o := { cls := .type "enumerate", data := .fields #[.none, .bool false, .ref s.heap.objs.size, rawInt 0, .none, .none] }) rfl
  show _ ∧ _
  rw [sz] at at_ ⊢
  exact ⟨⟨_, at_, rfl⟩, h _ at_ (Heap.get?_push_of_some _ (Heap.get?_push_size _ B.free)) fun b u x => Heap.get?_push_of_some _ (Heap.get?_push_of_some _ x)⟩
/-- the tuple at a, each item in a new pair -/
def Ent (K : PySem.W.Frag) (a : Addr) : It :=
  ⟨fun i H => ∃ (xs : List V) (x : V), SqT K H a xs ∧ xs[i]? = some x, fun i H v H2 => ∃ T x, v = .ref T ∧ H T = none ∧ H2 = upd H T (.tup [.int (i : Nat), x]) ∧ ∀ xs, SqT K H a xs → xs[i]? = some x, fun i H => ∃ xs : List V, SqT K H a xs ∧ xs.length ≤ i⟩
theorem turn_ent {P : Program} {w : World} {K : PySem.W.Frag} {elts : List Expr} {kk : Nat} {tpos : Pos} (a e it : Addr) :
    Turn P w K (.Tuple elts kk tpos) (Ent K a) [e, it] e (fun i h => (∃ old, IsEnum h e it ((i : Nat) : Int) old) ∧ h.IsTupleIter it a i ∧ e ≠ it) where
  mem := List.mem_cons_self
  obj := fun i h st b hb => by
    obtain ⟨⟨old, he⟩, ⟨o, ho, hc, hd⟩, _⟩ := st
    rcases List.mem_cons.mp hb with z | z
    · subst z
      exact ⟨_, he, fun v q => nomatch q⟩
    · have z := List.mem_singleton.mp z
      subst z
      exact ⟨o, ho, fun v q => by rw [hd] at q; cases q⟩
  keep := fun i h h1 ⟨⟨old, he⟩, hi, ne⟩ k => ⟨⟨old, k e (by simp) _ he⟩, hi.at fun o q => k it (by simp) o q, ne⟩
  item := by
    intro X hP hw hK hc i pins s σ H E I hf st hg
    subst hP hw hK
    obtain ⟨⟨old, he⟩, hit, hne⟩ := st
    obtain ⟨xs, x, hq, hx⟩ := hg
    obtain ⟨its, rv, p, hz⟩ := I.tuple hq
    have hT : s.heap.IsTuple a its.toArray := p
    have nit : a ≠ it := fun z => by
      obtain ⟨o1, g1, _, d1⟩ := hit
      obtain ⟨o2, g2, _, n, d2⟩ := hT
      rw [← z, g2] at g1
      cases g1
      rw [d2] at d1
      cases d1
    have nea : e ≠ a := fun z => by
      obtain ⟨o2, g2, _, n, d2⟩ := hT
      rw [← z, he] at g2
      cases g2
      cases d2
    obtain ⟨u, hu, ru⟩ := rv.get hx
    have lt : i < its.toArray.size := by
      rw [List.size_toArray]
      exact (List.getElem?_eq_some_iff.mp hu).1
    have hel : e < s.heap.objs.size := Heap.lt_size he
    have hil : it < s.heap.objs.size := by obtain ⟨_, q, _⟩ := hit; exact Heap.lt_size q
    have D := Draws.tuple (prog := X.prog) (w := X.w) (A := X.A.in1) (I.ok.hd hc) it a nit its.toArray
    refine wpAny_pyNext_enum_itemC D he ⟨hit, hT⟩ lt hne (by simp only [List.mem_cons, List.not_mem_nil, or_false, not_or]; exact ⟨hne, nea⟩) fun x1 h1 tk px ho st1 hT1 hsz hk => ?_
    obtain rfl : u = x1 := by
      have q : its.toArray[i]? = some x1 := px
      have q2 : its.toArray[i]? = some u := by simpa using hu
      rw [q2] at q
      exact Option.some.inj q
    refine ⟨_, rfl, wpAny_letOwnedTupleGo_enum (s := { s with heap := h1, toks := tk + 1 }) ho fun h2 he2 sb => ?_⟩
    have hT2 : h2.get? s.heap.objs.size = some { cls := .type "tuple", data := .seq #[.int i tk, u] } := (sb.2 _ (Nat.ne_of_gt hel)).trans hT1
    have new : ObjOk X.prog X.w (upd H s.heap.objs.size (.tup [.int (i : Nat), x])) h2 s.heap.objs.size (.tup [.int (i : Nat), x]) :=
      ⟨by show 2 ≤ sizeLine; decide, [.int i tk, u], .cons ⟨_, rfl⟩ (.cons ru .nil), ⟨_, hT2, rfl, _, rfl⟩⟩
    have J : Inv X pins σ (upd H s.heap.objs.size (.tup [.int (i : Nat), x])) { s with heap := h2, toks := tk + 1 } :=
      I.turnedNew (ch := [e, it]) (fun b ob hb q => (sb.2 b (fun z => hb (by simp [z]))).trans (hk b ob (fun z => hb (by simp [z])) (fun z => hb (by simp [z])) q)) hf (Nat.le_refl _) new
    refine ⟨.ref s.heap.objs.size, _, J, rfl, ⟨_, x, rfl, I.hok.fresh (Nat.le_refl _), rfl, fun ys hy => by rw [I.tuple_inj hy hq]; exact hx⟩, ⟨⟨u, ?_⟩, st1.1.at fun o q => (sb.2 it (Ne.symm hne)).trans q, hne⟩, fun b hb => ?_⟩
    · have e1 : ((i + 1 : Nat) : Int) = (i : Int) + 1 := by omega
      rw [e1]
      exact he2
    · have lb : b < s.heap.objs.size := by
        rcases List.mem_cons.mp hb with z | z
        · rw [z]; exact hel
        · rw [List.mem_singleton.mp z]; exact hil
      rw [upd_ne (Nat.ne_of_lt lb)]
      exact (hf b hb).1
  done := by
    intro X hP hw hK hc i pins s σ H E I hf st hg
    subst hP hw hK
    obtain ⟨⟨old, he⟩, hit, hne⟩ := st
    obtain ⟨xs, hq, hx⟩ := hg
    obtain ⟨its, rv, p, hz⟩ := I.tuple hq
    obtain ⟨f0, f1, f2, f3, f4, f5⟩ := hf it (by simp)
    have hl := rv.length
    have hT : s.heap.IsTuple a its.toArray := p
    obtain ⟨o1, g1, c1, d1⟩ := id hit
    have nit : a ≠ it := fun z => by
      obtain ⟨o2, g2, _, n, d2⟩ := hT
      rw [← z, g2] at g1
      cases g1
      rw [d2] at d1
      cases d1
    have D := Draws.tuple (prog := X.prog) (w := X.w) (A := X.A.in1) (I.ok.hd hc) it a nit its.toArray
    have hT0 : s.TypeIs (.ref e) "enumerate" := ⟨_, he, rfl⟩
    unfold pyNext
    refine wpAny_bind (wpAny_attempt (wpAny_callSpecial?_slot (name := Str.ofString "__next__") hT0 F.slot_enumerate_next (wpAny_call_entry F.slot_enumerate_next hT0 F.entry_enumerate_next ?_ (F.args_enumerate_next_1 _))))
    show wpAny _ _ (field (.ref e) 2 >>= _) _ _ _
    refine wpAny_bind (wpAny_field he rfl (x := .ref it) rfl ?_)
    refine wpAny_bind (wpAny_nextOf_tuple_end (I.ok.hd hc) hit hT (by simp; omega) fun h1 x1 eb ⟨o, ho, hc1⟩ => ?_)
    refine wpAny_bind (wpAny_isInstance (T := "StopIteration") (b := true) ⟨o, ho, hc1⟩ isSubtype_stop ?_)
    exact wpAny_pure ⟨rfl, I.turned (t' := s.toks) (fun b o hb q => eb b o hb q) f0 f1 f3 f4 f5⟩
  self := fun A i s Q E st h => let ⟨⟨_, he⟩, _⟩ := st; wpAny_pyIter_enum he h
def iEnt (K : PySem.W.Frag) (ta : TA) : TI := fun σ H R => ta σ H fun vs H1 => ∃ a xs, vs = [.ref a] ∧ SqT K H1 a xs ∧ R (Ent K a) H1
theorem pi_ent {X : Cx} {e : Expr} {ta : TA} {p pos tpos : Pos} {elts : List Expr} {kk : Nat} (hg : Gl X "enumerate") (hm : X.mg "enumerate" = none) (ha : PA X [e] ta) (hs : starEach [e] X.env = [(false, eval e X.env)] := by rfl) :
    PI X (.Tuple elts kk tpos) (.Call (.Name "enumerate" p) [e] [] pos) (iEnt X.K ta) := by
  refine ⟨fun pins s σ H R I h => Call_ (ld_blt I hg hm boot_enumerate (PyProof.Rows.callWith_type1 (thn (ha.run pos pins s σ H _ I h) fun us s1 ⟨vs, H1, I1, r1, q1⟩ => ?_) hs rfl))⟩
  obtain ⟨a, xs, ex, hq, q⟩ := q1
  subst ex
  cases r1 with
  | cons r rr =>
    cases rr
    cases r
    obtain ⟨its, rv, pt, hz⟩ := I1.tuple hq
    refine begins1 (begins_tuple a its.toArray) pt fun h1 he hit hk => wpAny_pyIter_enum he ?_
    refine ⟨s1.heap.objs.size + 1, [s1.heap.objs.size + 1, s1.heap.objs.size], _, _, H1, rfl, I1.kept (t' := s1.toks) hk, turn_ent a (s1.heap.objs.size + 1) s1.heap.objs.size, ⟨⟨.none, he⟩, ⟨_, hit, rfl, rfl⟩, Nat.succ_ne_self _⟩, fun b hb => ?_, q⟩
    have low : s1.heap.objs.size ≤ b := by
      rcases List.mem_cons.mp hb with z | z
      · rw [z]; exact Nat.le_succ _
      · rw [List.mem_singleton.mp z]; exact Nat.le_refl _
    exact I1.fpOk low (I1.hok.fresh low)
theorem for_ent {K : PySem.W.Frag} {a : Addr} {xs : List V} {g : TG} {tb : TS} {D : Ends} {σ : L2.St} {H : Hp} (Pv : Nat → L2.St → Hp → Prop) (h0 : Pv 0 σ H) (hl : ∀ i σ H, i ≤ xs.length → Pv i σ H → SqT K H a xs)
    (hs : ∀ i x σ H T, xs[i]? = some x → Pv i σ H → H T = none → g (.ref T) σ (upd H T (.tup [.int (i : Nat), x])) fun σ2 H2 => tb { D with nx := Pv (i + 1), ct := Pv (i + 1), bk := D.nx } σ2 H2) (hd : ∀ σ H, Pv xs.length σ H → D.nx σ H) :
    ∃ W : Nat → Nat → L2.St → Hp → Prop, (∃ m, W 0 m σ H) ∧ ∀ i m σ H, W i m σ H →
      ((Ent K a).stop i H ∧ D.nx σ H) ∨ ((Ent K a).go i H ∧ ∃ N : L2.St → Hp → Prop, (∀ σ' H', N σ' H' → ∃ m', m' < m ∧ W (i + 1) m' σ' H') ∧ ∀ x H', (Ent K a).yld i H x H' → g x σ H' fun σ2 H2 => tb { D with nx := N, ct := N, bk := D.nx } σ2 H2) := by
  refine ⟨fun i m σ H => m = xs.length - i ∧ i ≤ xs.length ∧ Pv i σ H, ⟨xs.length, by simp, Nat.zero_le _, h0⟩, ?_⟩
  rintro i m σ H ⟨rfl, hi, p⟩
  have q := hl i σ H hi p
  by_cases lt : i < xs.length
  · have at_ : xs[i]? = some xs[i] := List.getElem?_eq_getElem lt
    refine .inr ⟨⟨xs, xs[i], q, at_⟩, Pv (i + 1), fun σ1 H1 p1 => ⟨xs.length - (i + 1), by omega, rfl, lt, p1⟩, fun y H1 ⟨T, x, ey, hT, eH, hx⟩ => ?_⟩
    subst ey eH
    exact hs i x σ H T (hx xs q) p hT
  · obtain rfl : i = xs.length := by omega
    exact .inl ⟨⟨xs, q, Nat.le_refl _⟩, hd σ H p⟩
theorem for_enl {K : PySem.W.Frag} {a : Addr} {xs : List V} {g : TG} {tb : TS} {D : Ends} {σ : L2.St} {H : Hp} (Pv : Nat → L2.St → Hp → Prop) (h0 : Pv 0 σ H) (hl : ∀ i σ H, i ≤ xs.length → Pv i σ H → SqL K H a xs)
    (hs : ∀ i x σ H T, xs[i]? = some x → Pv i σ H → H T = none → g (.ref T) σ (upd H T (.tup [.int (i : Nat), x])) fun σ2 H2 => tb { D with nx := Pv (i + 1), ct := Pv (i + 1), bk := D.nx } σ2 H2) (hd : ∀ σ H, Pv xs.length σ H → D.nx σ H) :
    ∃ W : Nat → Nat → L2.St → Hp → Prop, (∃ m, W 0 m σ H) ∧ ∀ i m σ H, W i m σ H →
      ((Ite K a).stop i H ∧ D.nx σ H) ∨ ((Ite K a).go i H ∧ ∃ N : L2.St → Hp → Prop, (∀ σ' H', N σ' H' → ∃ m', m' < m ∧ W (i + 1) m' σ' H') ∧ ∀ x H', (Ite K a).yld i H x H' → g x σ H' fun σ2 H2 => tb { D with nx := N, ct := N, bk := D.nx } σ2 H2) := by
  refine ⟨fun i m σ H => m = xs.length - i ∧ i ≤ xs.length ∧ Pv i σ H, ⟨xs.length, by simp, Nat.zero_le _, h0⟩, ?_⟩
  rintro i m σ H ⟨rfl, hi, p⟩
  have q := hl i σ H hi p
  by_cases lt : i < xs.length
  · have at_ : xs[i]? = some xs[i] := List.getElem?_eq_getElem lt
    refine .inr ⟨⟨xs, xs[i], q, at_⟩, Pv (i + 1), fun σ1 H1 p1 => ⟨xs.length - (i + 1), by omega, rfl, lt, p1⟩, fun y H1 ⟨T, x, ey, hT, eH, hx⟩ => ?_⟩
    subst ey eH
    exact hs i x σ H T (hx xs q) p hT
  · obtain rfl : i = xs.length := by omega
    exact .inl ⟨⟨xs, q, Nat.le_refl _⟩, hd σ H p⟩
end NEn

set_option Elab.async false
set_option linter.all false
set_option maxRecDepth 100000
set_option maxHeartbeats 4000000
namespace K71
open PySem L2 NX NU LamX
abbrev sInit : Stmt := inClass (top 13) 1
theorem scInit : FnScope ["self", "pins", "words", "index", "word"] ["self", "pins", "words"] (defScope sInit) := ⟨rfl, rfl, rfl, by decide +kernel, rfl, by decide +kernel, by decide +kernel⟩
def WORDS : List Str := ["dead", "far", "old", "clean", "cheap"]
/-- the classes of the errors -/
structure C3 where
  r : Addr
  n : Addr
  t : Addr
/-- what is refused: a value that is no word, one that is no name, a name that stands twice -/
inductive Er
  | ru (v : V)
  | nm (v : V)
  | tw (z : Str)
def Er.cls (c : C3) : Er → Addr
  | .ru _ => c.r
  | .nm _ => c.n
  | .tw _ => c.t
def Er.fld : Er → Str
  | .ru _ => "value"
  | .nm _ => "value"
  | .tw _ => "name"
def Er.val : Er → V
  | .ru v => v
  | .nm v => v
  | .tw z => .str z
/-- the texts us are words, no two alike -/
def Wds (us : List Str) : Prop := (∀ z ∈ us, z ∈ WORDS) ∧ NoRep us
/-- a value that is no new word behind the words us -/
def NoWd (K : PySem.W.Frag) (H : Hp) (us : List Str) (v : V) : Prop := (∃ z, v = .str z ∧ (z ∉ WORDS ∨ z ∈ us)) ∨ NoStr K H v
theorem NoStr.ext {K : PySem.W.Frag} {H H' : Hp} {v : V} (s : ExtN H H') (h : NoStr K H v) : NoStr K H' v := let ⟨t, a, b⟩ := h; ⟨t, NI.tyX_ext s a, b⟩
theorem NoStr.same {K : PySem.W.Frag} {H H' : Hp} {v : V} (s : Same H H') (h : NoStr K H v) : NoStr K H' v := NoStr.ext (ExtN.of s) h
theorem NoWd.same {K : PySem.W.Frag} {H H' : Hp} {us : List Str} {v : V} (s : Same H H') (h : NoWd K H us v) : NoWd K H' us v := h.imp id fun h => NoStr.same s h
theorem NoNm.same {K : PySem.W.Frag} {H H' : Hp} {v : V} (s : Same H H') (h : NoNm K H v) : NoNm K H' v := h.imp id fun h => NoStr.same s h
theorem Bad.same {K : PySem.W.Frag} {H H' : Hp} {xs : List V} {ws : List Str} {v : V} (s : Same H H') (h : Bad K H xs ws v) : Bad K H' xs ws v := by
  obtain ⟨l, a, b, c⟩ := h
  exact ⟨l, a, b, c.same s⟩
/-- what words and pins are refused with -/
inductive Due (K : PySem.W.Frag) (H : Hp) (ws ps : List V) : Option Er → Prop
  | em : ws = [] → Due K H ws ps (some (.ru .non))
  | ru {us : List Str} {v : V} {l : List V} : ws = us.map V.str ++ v :: l → Wds us → NoWd K H us v → Due K H ws ps (some (.ru v))
  | nm {us zs : List Str} {v : V} : ws = us.map V.str → us ≠ [] → Wds us → Bad K H ps zs v → Due K H ws ps (some (.nm v))
  | tw {us zs : List Str} {i : Nat} {z : Str} : ws = us.map V.str → us ≠ [] → Wds us → ps = zs.map V.str → Nms zs → Rep zs i z → Due K H ws ps (some (.tw z))
  | ok {us zs : List Str} : ws = us.map V.str → us ≠ [] → Wds us → ps = zs.map V.str → Nms zs → NoRep zs → Due K H ws ps none
theorem Due.same {K : PySem.W.Frag} {H H' : Hp} {ws ps : List V} {r : Option Er} (s : Same H H') (h : Due K H ws ps r) : Due K H' ws ps r := by
  cases h with
  | em a => exact .em a
  | ru a b c => exact .ru a b (c.same s)
  | nm a b c d => exact .nm a b c (d.same s)
  | tw a b c d e f => exact .tw a b c d e f
  | ok a b c d e f => exact .ok a b c d e f
/-- it is so, or the error comes -/
def Ends (c : C3) (H : Hp) (E : XK) (ok : Prop) : Option Er → Prop
  | none => ok
  | some f => ∀ d H', Told H d f.fld f.val H' → E (.ref (f.cls c)) (some d) H'
structure RCls (K : PySem.W.Frag) (C TW : Addr) : Prop where
  cl : Cls K C
  nw : NoAttr K C "_words"
  np : NoAttr K C "_pins"
  con : ∃ u, Con K C "WORDS" (.ref TW) u
  tup : ∀ H : Hp, SqT K H TW (WORDS.map V.str)
/-- all but what stands at x is as it was -/
def Stay (x : Addr) (H H' : Hp) : Prop := ∀ b o, H b = some o → b ≠ x → H' b = some o
/-- a rule -/
def IsRule (K : PySem.W.Frag) (C : Addr) (H : Hp) (x : Addr) (ws ps : List V) : Prop := ∃ dx q t, H x = some (.ins C dx [("_words", .ref q), ("_pins", .ref t)]) ∧ H q = some (.tup ws) ∧ SqT K H t ps
def spInit0 (K : PySem.W.Frag) (c : C3) (TW : Addr) : Sp := fun vs H Q E => ∃ (x C dx p q : Addr) (ws ps : List V) (r : Option Er), vs = [.ref x, .ref p, .ref q] ∧ RCls K C TW ∧ H x = some (.ins C dx []) ∧ NI.Sq K H p ps ∧ H q = some (.tup ws) ∧ ws.length ≤ 60 ∧ ps.length ≤ 60 ∧ Due K H ws ps r ∧
  Ends c H E (∀ H', Stay x H H' → IsRule K C H' x ws ps → Q .non H') r
theorem in_txts (z : Str) : ∀ l : List Str, inV (.str z) (l.map V.str) = decide (z ∈ l)
  | [] => rfl
  | a :: l => by
    have q := in_txts z l
    unfold inV at q ⊢
    rw [List.map_cons, List.any_cons, q, Bool.eq_iff_iff]
    simp only [Bool.or_eq_true, decide_eq_true_eq, List.mem_cons]
    exact ⟨fun h => h.imp (fun e => by have e : (a == z) = true := e; exact (beq_iff_eq.mp e).symm) id, fun h => h.imp (fun e => by show (a == z) = true; rw [e]; exact beq_self_eq_true a) id⟩
theorem flat_txts : ∀ l : List Str, (l.map V.str).all flatV = true
  | [] => rfl
  | a :: l => by rw [List.map_cons, List.all_cons, flat_txts l]; rfl
theorem cut_to (xs : List V) (k : Nat) : cutV xs none (some (k : Int)) = xs.take k := by
  unfold cutV
  rw [HT.sIx_none, HT.sIx_nat, List.drop_zero, Nat.sub_zero]
  by_cases h : k ≤ xs.length
  · rw [Nat.min_eq_left h]
  · rw [Nat.min_eq_right (by omega), List.take_length, List.take_of_length_le (by omega)]
theorem us_nil {us : List Str} {v : V} {l : List V} (h : ([] : List V) = us.map V.str ++ v :: l) : False := by
  have q := congrArg List.length h
  simp at q
theorem sqT_same {K : PySem.W.Frag} {H H' : Hp} {a : Addr} {xs : List V} (s : Same H H') (h : SqT K H a xs) : SqT K H' a xs := NI.sqT_same s h
section
variable {P : Program} {w : World} {K : PySem.W.Frag} {mg : Str → Option Value} {base : Heap}
/-- what Rule.__init__ uses -/
structure InT (P : Program) (w : World) (K : PySem.W.Frag) (mg : Str → Option Value) (base : Heap) (c : C3) (fR : Addr) : Prop where
  T : TxtB mg
  B : ErrC P w K mg base "BadRule" "value" c.r fR
  ns : CalL P w K mg base 3 "check_names" (spCns K c.n)
  un : CalL P w K mg base 3 "check_unlike" (spCun K c.t)
theorem body_init {c : C3} {TW fR : Addr} (X : InT P w K mg base c fR) {f : Addr} {cdv : Value} {A : Around} {outer : List Env} {s : Shared} {H : Hp} {vs : List V} {Q : VK} {E : XK} (hr : Room 3 (A.deeper (PyProof.Rows.envOfC "Rule.__init__" (defScope sInit) s.heap.objs.size f cdv))) (h : spInit0 K c TW vs H Q E) :
    ∃ t, PSs (cxOf (L2N.CX P w) P w K mg base ["self", "pins", "words", "index", "word"] "Rule.__init__" (defScope sInit) f cdv A outer s H E) (defBody sInit) t ∧ t { nx := fun _ H' => Q .non H', rt := Q } (start ["self", "pins", "words", "index", "word"] vs) H := by
  obtain ⟨T, B, cNs, cUn⟩ := X
  obtain ⟨fde, Fe, hbe⟩ := B.ok
  obtain ⟨x, C, dx, p, q, ws, ps, r, rfl, hC, hx, hp, hq, few, fewp, hD, h⟩ := h
  obtain ⟨uW, hW⟩ := hC.con
  have qx : q ≠ x := fun e => by rw [e, hx] at hq; cases hq
  have hu := hu_of hr
  refine ⟨_, (pss_cons (ps_if (pt_not (pt_truth (pv 2) (fun _ => rfl))) (pss_one (L2N.ps_raise rfl (L2N.takes_of rfl rfl rfl rfl) (NN.pmkN B.O B.i B.t Fe (hr.mono (by decide)) hbe pass0 rfl B.g (pa_cons pe_non pa_nil)))) pss_nil)
    (pss_cons (ps_for (passes_of rfl) rfl (NEn.pi_ent (by rfl) T.benumerate (pa_cons (pv 2) pa_nil)) (pg_tup rfl (pgs_cons (pg_name (i := 3) scInit.nd rfl (Or.inl rfl)) (pgs_cons (pg_name (i := 4) scInit.nd rfl (Or.inl rfl)) pgs_nil)))
      (pss_one (ps_if (PW.pt (pw_or (pt_not (pt_val (pe_callB call_isi (by rfl) T.bisinstance (by decide +kernel) (pa_cons (pv 4) (pa_cons (pe_bltn (v := .ty "str") (by rfl) T.bstr (by decide +kernel) rfl) pa_nil)))))
        (pw_or (pt_cmpR op_notIn_seq (pv 4) (pe_con (pv 0) rfl) rfl) (pw_or1 (pt_cmpR op_in_seq (pv 4) (pe_slice sl_tup (pv 2) po_none (po_some (pv 3))) rfl)))))
        (pss_one (L2N.ps_raise rfl (L2N.takes_of rfl rfl rfl rfl) (NN.pmkN B.O B.i B.t Fe (hr.mono (by decide)) hbe pass0 rfl B.g (pa_cons (pv 4) pa_nil)))) pss_nil)))
    (pss_cons (ps_expr (pe_cL cNs hr (by decide) rfl (NN.passN (L2N.takes_of rfl rfl rfl rfl)) (pa_cons (pv 1) pa_nil)))
    (pss_cons (ps_expr (pe_cL cUn hr (by decide) rfl (NN.passN (L2N.takes_of rfl rfl rfl rfl)) (pa_cons (pv 1) pa_nil)))
    (pss_cons (ps_fld (pv 0) (pv 2) rfl)
    (pss_one (ps_fld (pv 0) (pe_callTy call_tuple_of (by rfl) T.btuple (by decide +kernel) (pa_cons (pv 1) pa_nil)) rfl))))))), ?_⟩
  refine ⟨_, rfl, !ws.isEmpty, .inr (.inl ⟨_, SqT.of hq, rfl⟩), ?_⟩
  rcases ws with _ | ⟨w0, wl⟩
  · cases hD with
    | em _ => exact iteT (mkO_of B.O B.v h)
    | ru a _ _ => exact (us_nil a).elim
    | nm a b _ _ => exact absurd (List.map_eq_nil_iff.mp a.symm) b
    | tw a b _ _ _ _ => exact absurd (List.map_eq_nil_iff.mp a.symm) b
    | ok a b _ _ _ _ => exact absurd (List.map_eq_nil_iff.mp a.symm) b
  refine iteF ?_
  generalize hws : w0 :: wl = ws at *
  have e0 : ws ≠ [] := by rw [← hws]; exact List.cons_ne_nil _ _
  clear hws w0 wl
  refine ⟨_, rfl, q, ws, rfl, SqT.of hq, ?_⟩
  have isx : ∀ {H1 : Hp}, Same H H1 → H1 x = some (.ins C dx []) := fun s => s _ _ hx
  obtain ⟨us, rest, ews, hw, tail⟩ : ∃ us rest, ws = us.map V.str ++ rest ∧ Wds us ∧ ((∃ v l, rest = v :: l ∧ NoWd K H us v ∧ ∀ d H', Told H d "value" v H' → E (.ref c.r) (some d) H') ∨
      (rest = [] ∧ ((∃ zs v, Bad K H ps zs v ∧ ∀ d H', Told H d "value" v H' → E (.ref c.n) (some d) H') ∨ ∃ zs, ps = zs.map V.str ∧ Nms zs ∧
        ((∃ i z, Rep zs i z ∧ ∀ d H', Told H d "name" (.str z) H' → E (.ref c.t) (some d) H') ∨ (NoRep zs ∧ ∀ H', Stay x H H' → IsRule K C H' x ws ps → Q .non H'))))) := by
    cases hD with
    | em a => exact absurd a e0
    | ru e hw bad => exact ⟨_, _, e, hw, .inl ⟨_, _, rfl, bad, h⟩⟩
    | nm e ne hw bad => exact ⟨_, [], by rw [List.append_nil]; exact e, hw, .inr ⟨rfl, .inl ⟨_, _, bad, h⟩⟩⟩
    | tw e ne hw e2 hn rp => exact ⟨_, [], by rw [List.append_nil]; exact e, hw, .inr ⟨rfl, .inr ⟨_, e2, hn, .inl ⟨_, _, rp, h⟩⟩⟩⟩
    | ok e ne hw e2 hn nr => exact ⟨_, [], by rw [List.append_nil]; exact e, hw, .inr ⟨rfl, .inr ⟨_, e2, hn, .inr ⟨nr, h⟩⟩⟩⟩
  clear hD h
  have lenw : ws.length = us.length + rest.length := by rw [ews, List.length_append, List.length_map]
  refine NEn.for_ent (xs := ws) (fun i σ H1 => i ≤ us.length ∧ Same H H1 ∧ ∃ y3 y4, σ = [some (.ref x), some (.ref p), some (.ref q), y3, y4]) ⟨Nat.zero_le _, NI.same_refl, _, _, rfl⟩ (fun i σ H1 _ ⟨_, s, _⟩ => sqT_same s (SqT.of hq)) (fun i w1 σ H1 T hi ⟨li, s, y3, y4, e⟩ hT => ?_) (fun σ H1 ⟨li, s, y3, y4, e⟩ => ?_)
  · subst e
    have ltw : i < ws.length := (List.getElem?_eq_some_iff.mp hi).1
    refine ⟨T, _, rfl, SqT.of upd_same, rfl, _, _, rfl, _, _, rfl, rfl, ?_⟩
    have s1 := s.trans (Same.new (o := .tup [.int (i : Nat), w1]) hT)
    have cut : ¬ (HT.sIx ws.length 0 none = 0 ∧ HT.sIx ws.length ws.length (some (i : Int)) = ws.length) := fun z => by
      have z2 := z.2
      rw [HT.sIx_nat] at z2
      omega
    have firsts : ∀ k, k ≤ us.length → ws.take k = (us.take k).map V.str := fun k hk => by
      rw [ews, List.take_append_of_le_length (by rw [List.length_map]; exact hk), List.map_take]
    by_cases lt : i < us.length
    · obtain ⟨z, hz, ez⟩ : ∃ z, us[i]? = some z ∧ w1 = .str z := by
        rw [ews, List.getElem?_append_left (by rw [List.length_map]; exact lt), List.getElem?_map] at hi
        obtain ⟨z, hz, e⟩ := Option.map_eq_some_iff.mp hi
        exact ⟨z, hz, e.symm⟩
      subst ez
      refine ⟨_, rfl, _, _, _, _, true, rfl, .ty "str", .base (.str z), kit_ty (by decide +kernel), true, rfl, ?_⟩
      refine iteF ?_
      refine ⟨_, rfl, _, rfl, x, C, dx, _, _, uW, rfl, isx s1, hC.cl, hW, rfl, ?_⟩
      refine ⟨TW, _, rfl, .inr (hC.tup _), rfl, flat_txts _, ?_⟩
      rw [if_pos rfl, in_txts, decide_eq_true (hw.1 z (List.mem_of_getElem? hz))]
      refine ⟨_, rfl, iteF ?_⟩
      refine ⟨_, rfl, _, rfl, _, rfl, _, rfl, q, ws, rfl, sqT_same s1 (SqT.of hq), cut, fun u hu => ?_⟩
      rw [cut_to, firsts i (by omega)]
      refine ⟨u, _, rfl, .inr (SqT.of upd_same), rfl, flat_txts _, ?_⟩
      rw [if_neg Bool.false_ne_true, in_txts]
      have no : z ∉ us.take i := hw.2 i z hz
      rw [decide_eq_false no]
      exact ⟨_, rfl, iteF ⟨lt, s1.trans (Same.new hu), _, _, rfl⟩⟩
    · obtain rfl : i = us.length := by omega
      rcases tail with ⟨v, l, er, bad, q2⟩ | ⟨er, _⟩
      · obtain rfl : v = w1 := by
          rw [ews, er, List.getElem?_append_right (by rw [List.length_map]; exact Nat.le_refl _), List.length_map, Nat.sub_self] at hi
          exact Option.some.inj hi
        rcases bad with ⟨z, rfl, bad⟩ | bad
        · refine ⟨_, rfl, _, _, _, _, true, rfl, .ty "str", .base (.str z), kit_ty (by decide +kernel), true, rfl, ?_⟩
          refine iteF ?_
          refine ⟨_, rfl, _, rfl, x, C, dx, _, _, uW, rfl, isx s1, hC.cl, hW, rfl, ?_⟩
          refine ⟨TW, _, rfl, .inr (hC.tup _), rfl, flat_txts _, ?_⟩
          rw [if_pos rfl, in_txts]
          by_cases m : z ∈ WORDS
          · rw [decide_eq_true m]
            refine ⟨_, rfl, iteF ?_⟩
            refine ⟨_, rfl, _, rfl, _, rfl, _, rfl, q, ws, rfl, sqT_same s1 (SqT.of hq), cut, fun u hu => ?_⟩
            rw [cut_to, firsts _ (Nat.le_refl _), List.take_length]
            refine ⟨u, _, rfl, .inr (SqT.of upd_same), rfl, flat_txts _, ?_⟩
            rw [if_neg Bool.false_ne_true, in_txts, decide_eq_true (bad.resolve_left (fun n => n m))]
            have s2 := s1.trans (Same.new (o := .tup (us.map V.str)) hu)
            exact ⟨_, rfl, iteT ⟨_, rfl, mkO_of B.O B.v fun d2 H2 t => q2 d2 H2 (t.old s2)⟩⟩
          · rw [decide_eq_false m]
            exact ⟨_, rfl, iteT (iteT ⟨_, rfl, mkO_of B.O B.v fun d2 H2 t => q2 d2 H2 (t.old s1)⟩)⟩
        · obtain ⟨t, ty, k⟩ := bad.same s1
          exact ⟨_, rfl, _, _, _, _, false, rfl, .ty "str", ty, k, false, rfl, iteT (iteT ⟨_, rfl, mkO_of B.O B.v fun d2 H2 t => q2 d2 H2 (t.old s1)⟩)⟩
      · rw [er, List.length_nil] at lenw
        omega
  · subst e
    rcases tail with ⟨v, l, er, _⟩ | ⟨er, pins⟩
    · rw [er, List.length_cons] at lenw
      omega
    have hp1 := NI.Sq.same s hp
    refine ⟨_, rfl, p, ps, rfl, hp1, ?_⟩
    rcases pins with ⟨zs, v, bad, q2⟩ | ⟨zs, e2, hn, pins⟩
    · exact .inr ⟨zs, v, bad.same s, fun d2 H2 t => q2 d2 H2 (t.old s)⟩
    refine .inl ⟨zs, e2, hn, ?_⟩
    subst e2
    rw [List.length_map] at fewp
    refine ⟨_, rfl, p, zs, rfl, hp1, by omega, ?_⟩
    rcases pins with ⟨i, z, rp, q2⟩ | ⟨nr, q2⟩
    · exact .inr ⟨i, z, rp, fun d2 H2 t => q2 d2 H2 (t.old s)⟩
    refine .inl ⟨nr, fun H2 s2 => ?_⟩
    have s3 := s.trans s2
    refine ⟨_, rfl, _, rfl, x, C, dx, _, rfl, isx s3, hC.cl, hC.nw, by decide, ?_⟩
    have hp3 := NI.Sq.same s2 hp1
    have pt : ∀ {ys : List V}, SqT K H2 p ys → SqT K (upd H2 x (.ins C dx [("_words", .ref q)])) p ys := fun h => NI.sqT_put (isx s3) h
    have pl : ∀ {ys : List V}, SqL K H2 p ys → SqL K (upd H2 x (.ins C dx [("_words", .ref q)])) p ys := fun h => NI.sqL_put (isx s3) h
    have stay : Stay x H (upd H2 x (.ins C dx [("_words", .ref q)])) := fun b o hb n => (upd_ne n).trans (s3 b o hb)
    have hq3 : upd H2 x (.ins C dx [("_words", .ref q)]) q = some (.tup ws) := (upd_ne qx).trans (s3 _ _ hq)
    refine ⟨_, rfl, p, zs.map V.str, rfl, ?_⟩
    rcases hp3 with hp3 | hp3
    · refine .inl ⟨pl hp3, fun t ht => ?_⟩
      have tx : t ≠ x := fun e => by rw [e, upd_same] at ht; cases ht
      have hxt : upd (upd H2 x (.ins C dx [("_words", .ref q)])) t (.tup (zs.map V.str)) x = some (.ins C dx [("_words", .ref q)]) := (upd_ne tx.symm).trans upd_same
      refine ⟨_, rfl, x, C, dx, _, rfl, hxt, hC.cl, hC.np, by show 1 < 1000; decide, ?_⟩
      refine q2 _ (fun b o hb n => ?_) ⟨dx, q, t, upd_same, ?_, NI.sqT_put hxt (SqT.of upd_same)⟩
      · rw [upd_ne n]
        exact (upd_ne (ne_of_none (stay b o hb n) ht)).trans (stay b o hb n)
      · rw [upd_ne qx]
        exact (upd_ne (ne_of_none hq3 ht)).trans hq3
    · refine .inr ⟨pt hp3, _, rfl, x, C, dx, _, rfl, upd_same, hC.cl, hC.np, by show 1 < 1000; decide, ?_⟩
      exact q2 _ (fun b o hb n => (upd_ne n).trans (stay b o hb n)) ⟨dx, q, p, upd_same, (upd_ne qx).trans hq3, NI.sqT_put upd_same (pt hp3)⟩
end
end K71

set_option Elab.async false
set_option linter.all false
set_option maxRecDepth 100000
set_option maxHeartbeats 4000000
namespace K71
open PySem L2 NX NU LamX
abbrev sMix : Stmt := top 18
theorem scMix : FnScope ["_law_pen_here", "_law_some", "_law_left", "_law_k"] ["_law_pen_here", "_law_some"] (defScope sMix) := ⟨rfl, rfl, rfl, by decide +kernel, rfl, by decide +kernel, by decide +kernel⟩
theorem Drawn.trans {H H1 H2 : Hp} {p c : Addr} {m m2 : Int} (a : Drawn H p c m H1) (b : Drawn H1 p c m2 H2) : Drawn H p c m2 H2 := by
  obtain ⟨ns, r, s, n, P, l, B⟩ := b
  obtain ⟨_, _, _, _, _, _, B1⟩ := a
  exact ⟨ns, r, s, n, P, l, B1.trans B⟩
theorem Drawn.mono {H H1 : Hp} {p c : Addr} {m m2 : Int} (a : Drawn H p c m H1) (h : m ≤ m2) : Drawn H p c m2 H1 := by
  obtain ⟨ns, r, s, n, P, l, B⟩ := a
  exact ⟨ns, r, s, n, P, Int.le_trans l h, B⟩
theorem Drawn.same {H H1 H2 : Hp} {p c : Addr} {m : Int} (a : Drawn H p c m H1) (s : Same H1 H2) : Drawn H p c m H2 := by
  obtain ⟨ns, r, sd, n, P, l, B⟩ := a
  exact ⟨ns, r, sd, n, P.same s, l, B.trans (But.same s)⟩
theorem Drawn.ne {H H1 : Hp} {p c a : Addr} {m : Int} (d : Drawn H p c m H1) (h : H1 a = none) : a ≠ p ∧ a ≠ c := by
  obtain ⟨ns, r, s, n, P, l, B⟩ := d
  exact ⟨(ne_of_none P.hp h).symm, (ne_of_none P.hc h).symm⟩
def rSeqLen (K : PySem.W.Frag) : List V → Hp → VK → Prop := fun xs H Q => ∃ p ys, xs = [V.ref p] ∧ (SqL K H p ys ∨ SqT K H p ys) ∧ Q (.int (ys.length : Int)) H
/-- some values in a drawn order -/
def spMix (K : PySem.W.Frag) : Sp := fun vs H Q _ => ∃ (p c : Addr) (ns : List Int) (r s n : Int) (a : Addr) (xs : List V), vs = [.ref p, .ref a] ∧ Pen H p c ns r s n ∧ n ≤ 900000 ∧ SqL K H a xs ∧ a ≠ p ∧ a ≠ c ∧ xs.length ≤ 20 ∧
  ∀ (ys : List V) (l : Addr) H', ys.length = xs.length → (∀ y ∈ ys, y ∈ xs) → Drawn H p c (n + 20) H' → H l = none → H' l = some (.lst ys) → l ≠ p → l ≠ c → Q (.ref l) H'
theorem sameNoneK {H H' : Hp} {d : Addr} (s : Same H H') (h : H' d = none) : H d = none := sameNone s h
theorem yesI {σ : L2.St} {H : Hp} {F G : Hp → Prop} (h : F H) : tYes σ H (fun b H3 => if b = true then F H3 else G H3) := by
  show if true = true then F H else G H
  rw [if_pos rfl]
  exact h
theorem seqAt {k n : Nat} (h : k < n) : seqIndex? (k : Int) n = some k := by
  unfold seqIndex?
  simp
  omega
/-- between two pops -/
structure MixI (H : Hp) (p c L D : Addr) (n : Int) (xs : List V) (i : Nat) (H1 : Hp) : Prop where
  d : ∃ left acc, H1 L = some (.lst left) ∧ H1 D = some (.lst acc) ∧ left.length + i = xs.length ∧ acc.length = i ∧ (∀ y ∈ left, y ∈ xs) ∧ ∀ y ∈ acc, y ∈ xs
  dr : Drawn H p c (n + i) H1
section
variable {P : Program} {w : World} {K : PySem.W.Frag} {mg : Str → Option Value} {base : Heap}
theorem ok_mix {f : Addr} {fd : FuncData} (F : Fun K "_law_mixed" "_law_mixed" sMix f fd) (T : TxtB mg) (cDraw : C8.Cal P w K mg base 1 "_law_draw" spDraw []) : FnOk P w K mg base CX0 2 f fd ["_law_pen_here", "_law_some"] (spMix K) := by
  refine F.ok scMix (fun vs H Q E h => ?_) (fun cdv A outer s H vs Q E hr h => ?_)
  · obtain ⟨p, c, ns, r, s, n, a, xs, rfl, _⟩ := h
    rfl
  · obtain ⟨p, c, ns, r, sd, n, a, xs, rfl, Pn, hn, hS, h1, h2, few, k⟩ := h
    refine ⟨_, (pss_cons (ps_set (i := 2) scMix.nd rfl (Or.inr rfl) (pe_callTy call_list_of (by rfl) T.blist (by decide +kernel) (pa_cons (pv 1) pa_nil)))
      (pss_one (ps_ret (pe_lc (own := [("_law_k", 3)]) (g := gName 3) (tt := tYes) (te := tBM K "list" rPopAt (tVar 2) (tCons (tCall spDraw [] C8.E0 (tCons (tVar 0) (tCons (tCB (rSeqLen K) (tCons (tVar 2) tNil)) tNil))) tNil)) rfl scMix.nd (pi_range1 (by rfl) T.brange (pa_cons (pe_callB call_len_seq (by rfl) T.blen (by decide +kernel) (pa_cons (pv 2) pa_nil)) pa_nil))
        (blkOk_by (own := [("_law_k", 3)]) (N := ["_law_pen_here", "_law_some", "_law_left", "_law_k"]) (sc := defScope sMix) (by decide +kernel)) (fun _ _ _ _ _ => (pg_name (i := 3) scMix.nd rfl (Or.inl rfl))) (fun _ _ _ _ _ => pts_nil)
        (fun _ _ _ _ _ => by
          show PE _ _ (tBM K "list" rPopAt (tVar 2) _)
          exact pe_bm PySem.F.plainAttrs_list PySem.F.slot_list_pop PySem.F.type_list_pop mt_popAt (pv 2) (pa_cons (C8.pe_c cDraw hr (by decide) rfl (pa_cons (pv 0) (pa_cons (pe_callB (show CallR _ (.builtin "len") (rSeqLen K) from call_len_seq) (by rfl) T.blen (by decide +kernel) (pa_cons (pv 2) pa_nil)) pa_nil))) pa_nil)))))), ?_⟩
    refine ⟨_, rfl, a, xs, rfl, .inl hS, fun L hL => ?_⟩
    have pL : L ≠ p := (ne_of_none Pn.hp hL).symm
    have cL : L ≠ c := (ne_of_none Pn.hc hL).symm
    have gL : upd H L (.lst xs) L = some (.lst xs) := upd_same
    have s1 : Same H (upd H L (.lst xs)) := Same.new hL
    have P1 := Pn.same s1
    refine ⟨_, rfl, L, xs, rfl, .inl (SqL.of gL), ((xs.length : Nat) : Int), rfl, by omega, by omega, ?_⟩
    rw [Int.toNat_natCast]
    generalize (upd H L (.lst xs)) = H1 at *
    have start : Drawn H p c n H1 := ⟨ns, r, sd, n, P1, Int.le_refl _, But.same s1⟩
    intro D hD
    have nLD : L ≠ D := ne_of_none gL hD
    have s2 := s1.trans (Same.new (o := .lst []) hD)
    obtain ⟨nDp, nDc⟩ := start.ne hD
    refine lc_range (n := xs.length) (fun i H2 => MixI H p c L D n xs i H2) ⟨⟨xs, [], (upd_ne nLD).trans gL, upd_same, rfl, rfl, fun _ h => h, nofun⟩, (start.same (Same.new hD)).mono (by omega)⟩ (fun i H2 hi M => ?_) (fun H2 M => ?_)
    · obtain ⟨⟨left, acc, gl, gd, e1, e2, m1, m2⟩, dr⟩ := M
      obtain ⟨ns2, r2, sd2, n2, P2, l2, B2⟩ := id dr
      refine ⟨rfl, yesI ?_⟩
      refine ⟨_, rfl, .inl ⟨rfl, _, SqL.of gl⟩, _, rfl, _, rfl, L, left, rfl, .inl (SqL.of gl), ?_⟩
      refine ⟨p, c, ns2, r2, sd2, n2, ((left.length : Nat) : Int), rfl, P2, by omega, by omega, by omega, fun d H3 d0 d1 hd => ?_⟩
      obtain ⟨dn, rfl⟩ := Int.eq_ofNat_of_zero_le d0
      have hdn : dn < left.length := by omega
      obtain ⟨ns3, r3, sd3, n3, P3, l3, B3⟩ := id hd
      have gl3 := B3 _ _ gl pL cL
      have gd3 := B3 _ _ gd nDp nDc
      refine ⟨L, left, (dn : Int), dn, left[dn], rfl, rfl, gl3, by omega, by omega, ?_, List.getElem?_eq_getElem hdn, ?_⟩
      · exact seqAt hdn
      have ml : left[dn] ∈ xs := m1 _ (List.getElem_mem hdn)
      refine ⟨acc, (upd_ne nLD.symm).trans gd3, ?_, ⟨⟨left.eraseIdx dn, acc ++ [left[dn]], (upd_ne nLD).trans upd_same, upd_same, ?_, ?_, fun y hy => m1 y (List.mem_of_mem_eraseIdx hy), fun y hy => ?_⟩, ?_⟩⟩
      · have : 20 < sizeLine := by decide
        omega
      · rw [List.length_eraseIdx_of_lt hdn]
        omega
      · rw [List.length_append, e2]
        rfl
      · rcases List.mem_append.mp hy with h | h
        · exact m2 y h
        · rw [List.mem_singleton.mp h]
          exact ml
      · refine ⟨ns3, r3, sd3, n3, ⟨?_, ?_, P3.lr, P3.ls, P3.lt, P3.ln⟩, by omega, fun b o hb n1 n4 => ?_⟩
        · rw [upd_ne nDp.symm, upd_ne pL.symm]
          exact P3.hp
        · rw [upd_ne nDc.symm, upd_ne cL.symm]
          exact P3.hc
        · have nb : b ≠ L := ne_of_none hb hL
          have nd : b ≠ D := fun e => by
            have z := s1 b o hb
            rw [e, hD] at z
            cases z
          rw [upd_ne nd, upd_ne nb]
          exact B3 b o (B2 b o hb n1 n4) n1 n4
    · obtain ⟨⟨left, acc, gl, gd, e1, e2, m1, m2⟩, dr⟩ := M
      exact k acc D H2 e2 m2 (dr.mono (by omega)) (sameNoneK s1 hD) gd nDp nDc
end
end K71

set_option Elab.async false
set_option linter.all false
set_option maxRecDepth 100000
set_option maxHeartbeats 4000000
/-! A lambda without parameters as a value, held and called later in the def that made it. -/
namespace NLV
open PySem PySem.Spec PyProof.Rows L2 LamX
/-- the lambda at f, its code object at c -/
def LamO (f : Addr) (q : Str) (params : Arguments) (body : Expr) (scope : Scope) (cl : List (Str × Addr)) (c : Addr) : HO := .ext fun h => ∃ pm ctv, h.get? f = some (PySem.W.kla_obj "<lambda>" q params body scope cl pm c ctv)
theorem lamO_ne {f c b : Addr} {q : Str} {params : Arguments} {body : Expr} {scope : Scope} {cl : List (Str × Addr)} : LamO f q params body scope cl c ≠ .own b := fun z => by
  unfold LamO at z
  cases z
theorem lamO_nt {f c : Addr} {q : Str} {params : Arguments} {body : Expr} {scope : Scope} {cl : List (Str × Addr)} (ps : Array Value) : LamO f q params body scope cl c ≠ .tbl ps := fun z => by
  unfold LamO at z
  cases z
theorem lamO_ok {P : Program} {w : World} {H : Hp} {h : Heap} {f c : Addr} {q : Str} {params : Arguments} {body : Expr} {scope : Scope} {cl : List (Str × Addr)} {pm ctv : Value} (e : h.get? f = some (PySem.W.kla_obj "<lambda>" q params body scope cl pm c ctv)) : ObjOk P w H h f (LamO f q params body scope cl c) :=
  ⟨⟨pm, ctv, e⟩, ⟨_, e⟩, fun h1 h2 ⟨p1, t1, e1⟩ st => ⟨p1, t1, st _ e1⟩⟩
def LamAt (H : Hp) (f : Addr) (q : Str) (params : Arguments) (body : Expr) (scope : Scope) (cl : List (Str × Addr)) : Prop := ∃ c, H f = some (LamO f q params body scope cl c) ∧ H c = some (CodeO c q)
theorem LamAt.ext {H H' : Hp} {f : Addr} {q : Str} {params : Arguments} {body : Expr} {scope : Scope} {cl : List (Str × Addr)} (s : ExtN H H') (h : LamAt H f q params body scope cl) : LamAt H' f q params body scope cl := by
  obtain ⟨c, a, b⟩ := h
  exact ⟨c, s _ _ a lamO_nt, s _ _ b codeO_ne⟩
section
variable {X : Cx} {pins : List (Addr × Obj)} {σ : L2.St} {H : Hp} {s : Shared}
/-- what making one asks -/
def tLamV (T : List (Addr × Str)) (q : Str) (params : Arguments) (body : Expr) (scope : Scope) (cl : List (Str × Addr)) : TE := fun _ H Q => Tabs T H ∧ ∀ f H1, ExtN H H1 → Tabs T H1 → H f = none → LamAt H1 f q params body scope cl → Q (.ref f) H1
theorem pe_lamV {T : List (Addr × Str)} {c P : Addr} {params : Arguments} {body : Expr} {scope : Scope} {pos : Pos} (TB : TabB X.base X.mg c P) (hcode : X.env.code = .ref c) (mT : (P, X.env.qual ++ "<lambda>") ∈ T) (uT : ∀ p ∈ T, p.1 = P → p.2 = X.env.qual ++ "<lambda>")
    (L : LamS X.env.scope scope) (hdef : defaultsOf params X.env = ([], [])) : PE X (.Lambda params body scope pos) (tLamV T (X.env.qual ++ "<lambda>") params body scope (cloFrom X.env.cells scope.names [])) := by
  refine ⟨fun pins s σ H Q I ⟨hT, ask⟩ => ?_⟩
  obtain ⟨ps, gP, tri, among⟩ := hT _ mT
  have gP : H P = some (.tbl ps) := gP
  have free := L.has I.ok
  have bP : s.heap.BuiltinsAt X.mg P := TB.bm.keeps I.bk
  have hP : s.heap.get? P = some { cls := .none, data := .fields ps } := I.hok P _ gP
  refine PySem.W.kla_eval hdef ?_
  -- the function object is laid last
  have last : ∀ {H1 : Hp} {h1 : Heap} {c1 tk : Nat} {ctv : Value}, Inv X pins σ H1 { s with heap := h1, toks := tk } → s.heap.objs.size ≤ h1.objs.size → ExtN H H1 → Tabs T H1 → H1 c1 = some (CodeO c1 (X.env.qual ++ "<lambda>")) →
      EP X pins σ Q (.ref h1.objs.size) { s with heap := h1.push (PySem.W.kla_obj "<lambda>" (X.env.qual ++ "<lambda>") params body scope (cloFrom X.env.cells scope.names []) ((X.mg "__name__").getD .none) c1 ctv), toks := tk } := fun {H1 h1 c1 tk ctv} J le e1 t1 hc => by
    have at_ : (h1.push (PySem.W.kla_obj "<lambda>" (X.env.qual ++ "<lambda>") params body scope (cloFrom X.env.cells scope.names []) ((X.mg "__name__").getD .none) c1 ctv)).get? h1.objs.size = _ := Heap.get?_push_size _ rfl
    have J2 := J.laid (t' := tk) (a := h1.objs.size) (o := LamO h1.objs.size (X.env.qual ++ "<lambda>") params body scope (cloFrom X.env.cells scope.names []) c1) (fun b o z => Heap.get?_push_of_some _ z) (Nat.le_refl _) (lamO_ok at_)
    have new : H1 h1.objs.size = none := J.hok.fresh (Nat.le_refl _)
    have same : Same H1 (upd H1 h1.objs.size (LamO h1.objs.size (X.env.qual ++ "<lambda>") params body scope (cloFrom X.env.cells scope.names []) c1)) := fun b o z => by
      rw [upd_ne (ne_of_none z new)]
      exact z
    exact ⟨.ref h1.objs.size, _, J2, rfl, ask _ _ (e1.trans (ExtN.of same)) (t1.ext same) (I.hok.fresh le) ⟨c1, upd_same, same _ _ hc⟩⟩
  cases hc : codeAmong pos ps.toList with
  | some cv =>
    obtain ⟨c1, rfl, g1⟩ := among pos cv hc
    refine PySem.W.kla_makeFunctionHit (mg := X.mg) (c := c) (P := P) (ps := ps) (closure_ok free) I.ok.glob (I.mod.glob.keeps I.bk) hcode (TB.code.keeps I.bk) hP tri hc bP fun ctv h1 tk kp le => ?_
    exact last (I.kept (t' := tk) kp) le (ExtN.refl H) hT g1
  | none =>
    refine PySem.W.kla_makeFunction (mg := X.mg) (c := c) (P := P) (ps := ps) (closure_ok free) I.ok.glob (I.mod.glob.keeps I.bk) hcode (TB.code.keeps I.bk) hP tri hc TB.gP bP fun c1 ctv h1 tk kp ge lt rec tab => ?_
    obtain ⟨c2, oc, vs, t, e2, hoc, hd, hv⟩ := rec
    cases e2
    have gc : H c1 = none := I.hok.fresh ge
    have J := inv_table (t' := tk) (more := #[rawInt pos.line, rawInt pos.col, .ref c1]) I gP (fun b o nb z => kp b o nb z) tab ge ⟨oc, vs, t, hoc, hd, hv⟩
    have hE : ExtN H (upd (upd H P (.tbl (ps ++ #[rawInt pos.line, rawInt pos.col, .ref c1]))) c1 (CodeO c1 (X.env.qual ++ "<lambda>"))) := fun b o z n => by
      have nb : b ≠ P := fun e => by
        rw [e, gP] at z
        exact n ps (Option.some.inj z).symm
      rw [upd_ne (ne_of_none z gc), upd_ne nb]
      exact z
    have el : (ps ++ #[rawInt pos.line, rawInt pos.col, .ref c1]).toList = ps.toList ++ [rawInt pos.line, rawInt pos.col, .ref c1] := by simp
    refine last J (Nat.le_trans ge (Nat.le_of_lt lt)) hE (fun p hp => ?_) upd_same
    by_cases hb : p.1 = P
    · rw [uT p hp hb, hb]
      refine ⟨_, (upd_ne (ne_of_none gP gc)).trans upd_same, by rw [el]; exact PySem.TriplesOk_snoc _ _ _ _ tri, fun p1 cv z => ?_⟩
      rw [el] at z
      rcases among_app _ tri z with y | y
      · obtain ⟨c0, a, b⟩ := among p1 cv y
        exact ⟨c0, a, hE _ _ b codeO_ne⟩
      · exact ⟨c1, y, upd_same⟩
    · obtain ⟨ps1, a, b, d⟩ := hT p hp
      refine ⟨ps1, (upd_ne (ne_of_none a gc)).trans ((upd_ne hb).trans a), b, fun p1 cv z => ?_⟩
      obtain ⟨c0, e1, e2⟩ := d p1 cv z
      exact ⟨c0, e1, hE _ _ e2 codeO_ne⟩
/-- a lambda's body, read -/
structure LamB (X : Cx) (k : Nat) (E : XK) (params : Arguments) (body : Expr) (scope : Scope) (t : TE) : Prop where
  L : LamS X.env.scope scope
  bind : ∀ (q : Str) (cl : List (Str × Addr)) (pm cv ctv : Value), bindArgs (PySem.W.kla_fn "<lambda>" q params body scope cl pm cv ctv) ⟨[], []⟩ = pure []
  body : ∀ (A : Around) (outer : List Env) (s : Shared) (H : Hp) (f c : Addr), Room k (A.deeper (lamEnv X scope s.heap.objs.size f c)) → PE (lamCx X A outer s H E scope f c) body t
/-- x(), x a local that holds one of the lambdas S -/
theorem pe_lamNow {S : List (Arguments × Expr × Scope × TE)} {E : XK} {k i : Nat} {x : Str} {p1 p2 : Pos} (hN : X.N[i]? = some x) (hv : Vis X.env.scope x) (hx : Passes (L2.CX X.prog X.w) X E) (hr : Room (k + 1) X.A)
    (hS : ∀ l ∈ S, LamB X k E l.1 l.2.1 l.2.2.1 l.2.2.2) (hd : (x == ("__debug__" : Str)) = false := by decide) (hcd : (x == ("__classdict__" : Str)) = false := by decide) :
    PE X (.Call (.Name x p1) [] [] p2) (fun σ H Q => ∃ f l, l ∈ S ∧ σ[i]? = some (some (.ref f)) ∧ LamAt H f (X.env.qual ++ "<lambda>") l.1 l.2.1 l.2.2.1 (cloFrom X.env.cells l.2.2.1.names []) ∧ l.2.2.2 σ H Q) := by
  refine ⟨fun pins s σ H Q I h => ?_⟩
  obtain ⟨f, ⟨params, body, scope, tb⟩, hl, hs, ⟨c, gf, gc⟩, ht⟩ := h
  have B : LamB X k E params body scope tb := hS _ hl
  refine wpAny_Call_Name_kw (thn ((pe_var (pos := p1) (i := i) hN hv hd hcd).run pins s σ H (fun v H1 => v = .ref f ∧ H1 = H) I ⟨.ref f, hs, rfl, rfl⟩) fun u s1 ⟨v, H1, I1, r1, q1⟩ => ?_)
  obtain ⟨ev, eH⟩ := q1
  subst ev
  rw [eH] at I1
  obtain rfl : u = Value.ref f := r1
  obtain ⟨⟨pm, ctv, of1⟩, _, _⟩ := (show ObjOk X.prog X.w H s1.heap f (.ext fun h => ∃ pm ctv, h.get? f = some (PySem.W.kla_obj "<lambda>" (X.env.qual ++ "<lambda>") params body scope (cloFrom X.env.cells scope.names []) pm c ctv)) from I1.hok f _ gf)
  obtain ⟨⟨oc, vs, t, hoc, hdc, hvc⟩, _, _⟩ := I1.hok c _ gc
  refine PySem.W.callWith_F0 ⟨_, _, _, _, of1⟩ ?_
  have rc : codeAny (model X.prog X.w) X.A (.call (.ref f) ⟨[], []⟩) (CR (L2.CX X.prog X.w) X.stack X.prog X.w H s1 Q E) s1 := by
    refine PySem.W.kla_callFunE hr.depth of1 rfl B.L.co B.L.gen rfl ⟨c, oc, vs, t, rfl, hoc, hdc, hvc⟩ ?_
    rw [B.bind]
    refine wpAny_pure (wpAny_newFunctionEnv (fun y hy => (B.L.own y hy).2) (fun y hy => absurd hy (by simp)) (fun h1 hns hsb => ⟨I1.nolimit.fresh _ hsb, ?_⟩) B.L.kind)
    show codeAny _ _ (.expr body (lamEnv X scope s1.heap.objs.size f c)) _ _
    have kp : ∀ b o, s1.heap.get? b = some o → h1.get? b = some o := fun b o z => hsb.extBut b o (Nat.ne_of_lt (Heap.lt_size z)) (Heap.get?_push_of_some _ z)
    have J : Inv (lamCx X X.A X.stack s1 H E scope f c) [] σ H { s1 with heap := h1, toks := s1.toks + ([] : List (Str × Value)).length } := lam_start2 I1 B.L I1.env0 hr.hd (Un.kept fun b o z => z) hns kp
    refine PySem.W.kla_codeExpr (wpAny_mono ((B.body X.A X.stack s1 H f c (hr.deeper _)).run [] _ _ H Q J ht) (fun v s2 ⟨w2, H2, J2, rv, q⟩ => ⟨w2, H2, J2.os, J2.bare, J2.base, J2.hok, rv, q⟩) fun e s2 z => z)
  refine wpAny_call (codeAny_mono rc fun r s2 back => ?_)
  cases r with
  | error e => exact hx pins σ H s1 e s2 I1 back
  | ok fl =>
    cases fl with
    | next => exact False.elim back
    | brk => exact False.elim back
    | cont => exact False.elim back
    | ret u => exact I1.after back
end
end NLV

set_option Elab.async false
set_option linter.all false
set_option maxRecDepth 100000
set_option maxHeartbeats 4000000
namespace K71
open PySem L2 NX NU LamX
abbrev sMade : Stmt := top 19
abbrev NMade : List Str := ["_law_words", "_law_tight", "_law_whole", "_law_ways", "_law_way", "_law_a", "_law_b", "_law_c", "_law_d", "_law_e", "_law_f"]
theorem scMade : FnScope NMade ["_law_words", "_law_tight"] (defScope sMade) := ⟨rfl, rfl, rfl, by decide +kernel, rfl, by decide +kernel, by decide +kernel⟩
theorem L2passOf {X : Cx} {E : XK} (tk : Takes X (fun cls d _ H => E cls d H)) : Passes (CX X.prog X.w) X E := fun pins σ H s e s' I h => passAt tk σ pins H s e s' I h
/-- the lambdas' parts -/
def lamsE : List Expr := match (defBody sMade).getD 2 (.Pass ⟨0, 0, 0, 0⟩) with
  | .Assign _ (.List es _) _ => es
  | _ => []
def lamP (e : Expr) : Arguments × Expr × Scope := match e with
  | .Lambda p b s _ => (p, b, s)
  | _ => (⟨[], [], none, [], [], none, []⟩, .Constant .none 0 ⟨0, 0, 0, 0⟩, ⟨.function, [], false, false, []⟩)
def lam (j : Nat) : Arguments × Expr × Scope := lamP (lamsE.getD j (.Constant .none 0 ⟨0, 0, 0, 0⟩))
def argT : List Nat → TA
  | [] => tNil
  | i :: r => tCons (tVar i) (argT r)
def spR (K : PySem.W.Frag) (c : C3) (TW : Addr) : List V → Sp := NB.spStar ["self"] (spInit0 K c TW)
def teM (K : PySem.W.Frag) (c : C3) (C TW : Addr) (E : XK) (j : Nat) : TE := NB.tMakeKS C (["pins"] : List Str).length (spR K c TW) E (argT ((List.range j).map (· + 5))) (tCons (tVar 1) tNil)
def mkL (K : PySem.W.Frag) (c : C3) (C TW : Addr) (E : XK) (j : Nat) : Arguments × Expr × Scope × TE := ((lam j).1, (lam j).2.1, (lam j).2.2, teM K c C TW E j)
def lamsL (K : PySem.W.Frag) (c : C3) (C TW : Addr) (E : XK) : List (Arguments × Expr × Scope × TE) := (List.range 7).map (mkL K c C TW E)
theorem fnK_less {P : Program} {w : World} {K : PySem.W.Frag} {mg : Str → Option Value} {base : Heap} {k : Nat} {f : Addr} {ks : List Str} {sp : List V → Sp} (F : NB.FnK P w K mg base (L2N.CX P w) k f ks sp) : NB.FnK P w K mg base (L2.CX P w) k f ks sp :=
  fun A outer s H us ws vs zs Q E hr e0 rv rz l h => codeAny_mono (F A outer s H us ws vs zs Q E hr e0 rv rz l h) fun _ _ q => NN.cr_less q
theorem lb0 : ∃ p1 p2 p3 p4 , (lam 0).2.1 = .Call (.Name "Rule" p1) [] [⟨"pins", .Name "_law_tight" p2, p3⟩] p4 := ⟨_, _, _, _, rfl⟩
theorem ls0 : lamSB (defScope sMade) (lam 0).2.2 = true := by decide +kernel
theorem lb1 : ∃ p1 p2 p3 p4 q0, (lam 1).2.1 = .Call (.Name "Rule" p1) [.Name "_law_a" q0] [⟨"pins", .Name "_law_tight" p2, p3⟩] p4 := ⟨_, _, _, _, _, rfl⟩
theorem ls1 : lamSB (defScope sMade) (lam 1).2.2 = true := by decide +kernel
theorem lb2 : ∃ p1 p2 p3 p4 q0 q1, (lam 2).2.1 = .Call (.Name "Rule" p1) [.Name "_law_a" q0, .Name "_law_b" q1] [⟨"pins", .Name "_law_tight" p2, p3⟩] p4 := ⟨_, _, _, _, _, _, rfl⟩
theorem ls2 : lamSB (defScope sMade) (lam 2).2.2 = true := by decide +kernel
theorem lb3 : ∃ p1 p2 p3 p4 q0 q1 q2, (lam 3).2.1 = .Call (.Name "Rule" p1) [.Name "_law_a" q0, .Name "_law_b" q1, .Name "_law_c" q2] [⟨"pins", .Name "_law_tight" p2, p3⟩] p4 := ⟨_, _, _, _, _, _, _, rfl⟩
theorem ls3 : lamSB (defScope sMade) (lam 3).2.2 = true := by decide +kernel
theorem lb4 : ∃ p1 p2 p3 p4 q0 q1 q2 q3, (lam 4).2.1 = .Call (.Name "Rule" p1) [.Name "_law_a" q0, .Name "_law_b" q1, .Name "_law_c" q2, .Name "_law_d" q3] [⟨"pins", .Name "_law_tight" p2, p3⟩] p4 := ⟨_, _, _, _, _, _, _, _, rfl⟩
theorem ls4 : lamSB (defScope sMade) (lam 4).2.2 = true := by decide +kernel
theorem lb5 : ∃ p1 p2 p3 p4 q0 q1 q2 q3 q4, (lam 5).2.1 = .Call (.Name "Rule" p1) [.Name "_law_a" q0, .Name "_law_b" q1, .Name "_law_c" q2, .Name "_law_d" q3, .Name "_law_e" q4] [⟨"pins", .Name "_law_tight" p2, p3⟩] p4 := ⟨_, _, _, _, _, _, _, _, _, rfl⟩
theorem ls5 : lamSB (defScope sMade) (lam 5).2.2 = true := by decide +kernel
theorem lb6 : ∃ p1 p2 p3 p4 q0 q1 q2 q3 q4 q5, (lam 6).2.1 = .Call (.Name "Rule" p1) [.Name "_law_a" q0, .Name "_law_b" q1, .Name "_law_c" q2, .Name "_law_d" q3, .Name "_law_e" q4, .Name "_law_f" q5] [⟨"pins", .Name "_law_tight" p2, p3⟩] p4 := ⟨_, _, _, _, _, _, _, _, _, _, rfl⟩
theorem ls6 : lamSB (defScope sMade) (lam 6).2.2 = true := by decide +kernel
section
variable {P : Program} {w : World} {K : PySem.W.Frag} {mg : Str → Option Value} {base : Heap}
theorem ok_init {c : C3} {TW fR f : Addr} {fd : FuncData} (X : InT P w K mg base c fR) (F : Fun K "__init__" "Rule.__init__" sInit f fd) : NB.FnK P w K mg base (L2N.CX P w) 4 f ["pins"] (spR K c TW) := by
  obtain ⟨oc, od, kV, doc, pm, an, cdv, ct, osl, rfl, lk, hcd⟩ := F.ex
  exact NB.fn_starK (N := ["self", "pins", "words", "index", "word"]) (ps := ["self"]) (qs := ["pins"]) (pv := "words") lk hcd scInit NN.upN (fun u1 u2 ws h1 h2 => match u1, u2, ws, h1, h2 with
    | [a], [], [v], _, _ => rfl
    | [a], r :: rs, [v], _, _ => rfl) fun A outer s H vs Q E hr h => body_init X hr h
/-- Rule(..) without pins: t0 is the empty tuple of its default -/
theorem ok_initD {c : C3} {TW fR f t0 : Addr} {fd : FuncData} (X : InT P w K mg base c fR) (F : L2.FunD K "__init__" "Rule.__init__" (defArgs sInit) (defBody sInit) (defScope sInit) [] [("pins", .ref t0)] f fd) : FnR P w K mg base (L2N.CX P w) 4 f (spR K c TW [.ref t0]) := by
  obtain ⟨oc, od, dV, kV, doc, pm, an, cdv, ct, osl, rfl, lk, hcd, hd, hk⟩ := F.ex
  rcases hd with ⟨_, rfl⟩ | ⟨n, _⟩
  · rcases hk with n | ⟨D, rfl, hq⟩
    · cases n
    · obtain ⟨u, hu, rd⟩ := hq ("pins", .ref t0) List.mem_cons_self
      refine NB.fn_starD (N := ["self", "pins", "words", "index", "word"]) (ps := ["self"]) (kn := "pins") (pv := "words") lk hcd scInit NN.upN hu rd (fun u1 u2 h1 => ?_) fun A outer s H vs Q E hr h => body_init X hr h
      match u1, u2, h1 with
      | [a], [], _ => exact ⟨_, _, _, _, _, _, rfl, rfl, rfl⟩
      | [a], r :: rs, _ => exact ⟨_, _, _, _, _, _, rfl, rfl, rfl⟩
  · exact absurd rfl n
/-- what _law_made needs -/
structure MdT (P : Program) (w : World) (K : PySem.W.Frag) (mg : Str → Option Value) (base : Heap) (c : C3) (C TW fI : Addr) : Prop where
  T : TxtB mg
  M : Mk K C fI
  g : mg "Rule" = some (.ref C)
  F : NB.FnK P w K mg base (L2.CX P w) 4 fI ["pins"] (spR K c TW)
  cl : RCls K C TW
theorem lam_ok {c : C3} {C TW fI f cc : Addr} {A : Around} {outer : List Env} {s : Shared} {H : Hp} {E : XK} (X : MdT P w K mg base c C TW fI) : ∀ l ∈ lamsL K c C TW E, NLV.LamB (cxOf (L2.CX P w) P w K mg base NMade "_law_made" (defScope sMade) f (.ref cc) A outer s H E) 5 E l.1 l.2.1 l.2.2.1 l.2.2.2 := by
  intro l hl
  unfold lamsL at hl
  obtain ⟨j, hj, rfl⟩ := List.mem_map.mp hl
  have hj := List.mem_range.mp hj
  match j, hj with
  | 0, _ =>
    refine ⟨lamS_by ls0, fun _ _ _ _ _ => rfl, fun A outer s H f c2 hr2 => ?_⟩
    obtain ⟨p1, p2, p3, p4, e⟩ := lb0
    show PE _ (lam 0).2.1 (NB.tMakeKS C (["pins"] : List Str).length (spR K c TW) E tNil (tCons (tVar 1) tNil))
    rw [e]
    exact NB.pe_makeKS0 (ks := ["pins"]) X.M X.F hr2 rfl X.g (L2passOf (takes_of rfl rfl rfl rfl)) (pk_cons (pv 1) pk_nil)
  | 1, _ =>
    refine ⟨lamS_by ls1, fun _ _ _ _ _ => rfl, fun A outer s H f c2 hr2 => ?_⟩
    obtain ⟨p1, p2, p3, p4, q0, e⟩ := lb1
    show PE _ (lam 1).2.1 (NB.tMakeKS C (["pins"] : List Str).length (spR K c TW) E (tCons (tVar 5) tNil) (tCons (tVar 1) tNil))
    rw [e]
    exact NB.pe_makeKS (ks := ["pins"]) X.M X.F hr2 rfl X.g (L2passOf (takes_of rfl rfl rfl rfl)) (pa_cons (pv 5) pa_nil) (pk_cons (pv 1) pk_nil)
  | 2, _ =>
    refine ⟨lamS_by ls2, fun _ _ _ _ _ => rfl, fun A outer s H f c2 hr2 => ?_⟩
    obtain ⟨p1, p2, p3, p4, q0, q1, e⟩ := lb2
    show PE _ (lam 2).2.1 (NB.tMakeKS C (["pins"] : List Str).length (spR K c TW) E (tCons (tVar 5) (tCons (tVar 6) tNil)) (tCons (tVar 1) tNil))
    rw [e]
    exact NB.pe_makeKS (ks := ["pins"]) X.M X.F hr2 rfl X.g (L2passOf (takes_of rfl rfl rfl rfl)) (pa_cons (pv 5) (pa_cons (pv 6) pa_nil)) (pk_cons (pv 1) pk_nil)
  | 3, _ =>
    refine ⟨lamS_by ls3, fun _ _ _ _ _ => rfl, fun A outer s H f c2 hr2 => ?_⟩
    obtain ⟨p1, p2, p3, p4, q0, q1, q2, e⟩ := lb3
    show PE _ (lam 3).2.1 (NB.tMakeKS C (["pins"] : List Str).length (spR K c TW) E (tCons (tVar 5) (tCons (tVar 6) (tCons (tVar 7) tNil))) (tCons (tVar 1) tNil))
    rw [e]
    exact NB.pe_makeKS (ks := ["pins"]) X.M X.F hr2 rfl X.g (L2passOf (takes_of rfl rfl rfl rfl)) (pa_cons (pv 5) (pa_cons (pv 6) (pa_cons (pv 7) pa_nil))) (pk_cons (pv 1) pk_nil)
  | 4, _ =>
    refine ⟨lamS_by ls4, fun _ _ _ _ _ => rfl, fun A outer s H f c2 hr2 => ?_⟩
    obtain ⟨p1, p2, p3, p4, q0, q1, q2, q3, e⟩ := lb4
    show PE _ (lam 4).2.1 (NB.tMakeKS C (["pins"] : List Str).length (spR K c TW) E (tCons (tVar 5) (tCons (tVar 6) (tCons (tVar 7) (tCons (tVar 8) tNil)))) (tCons (tVar 1) tNil))
    rw [e]
    exact NB.pe_makeKS (ks := ["pins"]) X.M X.F hr2 rfl X.g (L2passOf (takes_of rfl rfl rfl rfl)) (pa_cons (pv 5) (pa_cons (pv 6) (pa_cons (pv 7) (pa_cons (pv 8) pa_nil)))) (pk_cons (pv 1) pk_nil)
  | 5, _ =>
    refine ⟨lamS_by ls5, fun _ _ _ _ _ => rfl, fun A outer s H f c2 hr2 => ?_⟩
    obtain ⟨p1, p2, p3, p4, q0, q1, q2, q3, q4, e⟩ := lb5
    show PE _ (lam 5).2.1 (NB.tMakeKS C (["pins"] : List Str).length (spR K c TW) E (tCons (tVar 5) (tCons (tVar 6) (tCons (tVar 7) (tCons (tVar 8) (tCons (tVar 9) tNil))))) (tCons (tVar 1) tNil))
    rw [e]
    exact NB.pe_makeKS (ks := ["pins"]) X.M X.F hr2 rfl X.g (L2passOf (takes_of rfl rfl rfl rfl)) (pa_cons (pv 5) (pa_cons (pv 6) (pa_cons (pv 7) (pa_cons (pv 8) (pa_cons (pv 9) pa_nil))))) (pk_cons (pv 1) pk_nil)
  | 6, _ =>
    refine ⟨lamS_by ls6, fun _ _ _ _ _ => rfl, fun A outer s H f c2 hr2 => ?_⟩
    obtain ⟨p1, p2, p3, p4, q0, q1, q2, q3, q4, q5, e⟩ := lb6
    show PE _ (lam 6).2.1 (NB.tMakeKS C (["pins"] : List Str).length (spR K c TW) E (tCons (tVar 5) (tCons (tVar 6) (tCons (tVar 7) (tCons (tVar 8) (tCons (tVar 9) (tCons (tVar 10) tNil)))))) (tCons (tVar 1) tNil))
    rw [e]
    exact NB.pe_makeKS (ks := ["pins"]) X.M X.F hr2 rfl X.g (L2passOf (takes_of rfl rfl rfl rfl)) (pa_cons (pv 5) (pa_cons (pv 6) (pa_cons (pv 7) (pa_cons (pv 8) (pa_cons (pv 9) (pa_cons (pv 10) pa_nil)))))) (pk_cons (pv 1) pk_nil)
end
end K71

set_option Elab.async false
set_option linter.all false
set_option maxRecDepth 100000
set_option maxHeartbeats 8000000
namespace K71
open PySem L2 NX NU LamX
theorem NoWd.ext {K : PySem.W.Frag} {H H' : Hp} {us : List Str} {v : V} (s : ExtN H H') (h : NoWd K H us v) : NoWd K H' us v := h.imp id fun h => NoStr.ext s h
theorem NoNm.ext {K : PySem.W.Frag} {H H' : Hp} {v : V} (s : ExtN H H') (h : NoNm K H v) : NoNm K H' v := h.imp id fun h => NoStr.ext s h
theorem Due.ext {K : PySem.W.Frag} {H H' : Hp} {ws ps : List V} {r : Option Er} (s : ExtN H H') (h : Due K H ws ps r) : Due K H' ws ps r := by
  cases h with
  | em a => exact .em a
  | ru a b c => exact .ru a b (c.ext s)
  | nm a b c d => exact .nm a b c (let ⟨l, e1, e2, e3⟩ := d; ⟨l, e1, e2, e3.ext s⟩)
  | tw a b c d e f => exact .tw a b c d e f
  | ok a b c d e f => exact .ok a b c d e f
/-- what comes of making a rule -/
def Comes (K : PySem.W.Frag) (C : Addr) (c : C3) (TT : List (Addr × Str)) (H : Hp) (ws ps : List V) (Q : VK) (E : XK) : Option Er → Prop
  | none => ∀ x H', ExtN H H' → Tabs TT H' → IsRule K C H' x ws ps → Q (.ref x) H'
  | some f => ∀ d H', ExtN H H' → Tabs TT H' → H' d = some (.xd [(f.fld, f.val)]) → E (.ref (f.cls c)) (some d) H'
def spMade (K : PySem.W.Frag) (c : C3) (C TW : Addr) (TT : List (Addr × Str)) : Sp := fun vs H Q E => ∃ (a b : Addr) (ws ps : List V) (r : Option Er), vs = [.ref a, .ref b] ∧ SqL K H a ws ∧ NI.Sq K H b ps ∧ ws.length ≤ 6 ∧ ps.length ≤ 60 ∧ Due K H ws ps r ∧ Tabs TT H ∧ Comes K C c TT H ws ps Q E r
theorem six {α : Type} {xs : List α} (h : xs.length = 6) : ∃ a b c d e f, xs = [a, b, c, d, e, f] := by
  match xs, h with
  | [a, b, c, d, e, f], _ => exact ⟨a, b, c, d, e, f, rfl⟩
theorem upto6 {n : Nat} (h : n ≤ 6) : n = 0 ∨ n = 1 ∨ n = 2 ∨ n = 3 ∨ n = 4 ∨ n = 5 ∨ n = 6 := by omega
/-- the rule is asked for -/
theorem made_core {K : PySem.W.Frag} {c : C3} {C TW b : Addr} {TT : List (Addr × Str)} {H H1 : Hp} {ws ps : List V} {r : Option Er} {Q : VK} {E : XK} (hC : RCls K C TW) (hb : NI.Sq K H1 b ps) (few : ws.length ≤ 6) (fewp : ps.length ≤ 60) (hD : Due K H1 ws ps r) (e1 : ExtN H H1) (t1 : Tabs TT H1) (h : Comes K C c TT H ws ps Q E r) :
    (["pins"] : List Str).length = 1 ∧ ∀ y dy, H1 y = none → H1 dy = none → dy ≠ y → spR K c TW [.ref b] (V.ref y :: ws) (upd (upd H1 dy (.own y)) y (.ins C dy [])) (fun v H3 => v = .non ∧ Q (.ref y) H3) E := by
  refine ⟨rfl, fun y dy h1 h2 h3 => ?_⟩
  have s1 : Same H1 (upd (upd H1 dy (.own y)) y (.ins C dy [])) := (Same.new h2).trans (Same.new (by rw [upd_ne (Ne.symm h3)]; exact h1))
  have lz : 60 ≤ sizeLine := by decide
  refine ⟨[.ref y], ws, rfl, rfl, by omega, fun p hp => ?_⟩
  have s2 := s1.trans (Same.new (o := .tup ws) hp)
  have py : y ≠ p := fun e => by rw [← e, upd_same] at hp; cases hp
  refine ⟨y, C, dy, b, p, ws, ps, r, rfl, hC, (upd_ne py).trans upd_same, hb.same s2, upd_same, by omega, fewp, hD.same s2, ?_⟩
  cases r with
  | none =>
    intro H2 st isr
    have s3 : Same H1 H2 := fun a o e => st a o (s2 a o e) (fun z => by rw [z, h1] at e; cases e)
    exact ⟨rfl, h y H2 (e1.trans (ExtN.of s3)) (t1.ext s3) isr⟩
  | some f =>
    intro d H2 t
    have s3 := s2.trans t.1
    exact h d H2 (e1.trans (ExtN.of s3)) (t1.ext s3) t.2.2
theorem mem_lams {K : PySem.W.Frag} {c : C3} {C TW : Addr} {E : XK} {j : Nat} (h : j < 7) : mkL K c C TW E j ∈ lamsL K c C TW E := List.mem_map.mpr ⟨j, List.mem_range.mpr h, rfl⟩
section
variable {P : Program} {w : World} {K : PySem.W.Frag} {mg : Str → Option Value} {base : Heap}
theorem ok_made {c : C3} {C TW fI f cc Pc : Addr} {fd : FuncData} {TT : List (Addr × Str)} (F : NX.FunC K "_law_made" sMade f fd cc) (X : MdT P w K mg base c C TW fI) (TB : TabB base mg cc Pc)
    (hmT : (Pc, Str.ofString "_law_made.<locals>.<lambda>") ∈ TT) (hu2 : ∀ p ∈ TT, p.1 = Pc → p.2 = Str.ofString "_law_made.<locals>.<lambda>") : FnOk P w K mg base (L2.CX P w) 7 f fd ["_law_words", "_law_tight"] (spMade K c C TW TT) := by
  obtain ⟨oc, od, kV, doc, pm, an, ct, osl, rfl, lk, hcd⟩ := F.ex
  have T := X.T
  refine fn_of lk hcd scMade (fun vs H Q E h => ?_) fun A outer s H vs Q E hr h => ?_
  · obtain ⟨a, b, ws, ps, r, rfl, _⟩ := h
    rfl
  · obtain ⟨a, b, ws, ps, r, rfl, hS, hb, few, fewp, hD, hT, h⟩ := h
    refine ⟨_, (pss_cons (ps_set (i := 2) scMade.nd rfl (Or.inl rfl) (pe_op op_cat (pe_callTy call_list_of (by rfl) T.blist (by decide +kernel) (pa_cons (pv 0) pa_nil)) (pe_op op_rep (pe_lst (pa_cons pe_str pa_nil)) (pe_op op_sub pe_int (pe_callB call_len_seq (by rfl) T.blen (by decide +kernel) (pa_cons (pv 0) pa_nil))))))
      (pss_cons (ps_asg (pv 2) (pg_unl rfl (pgs_cons (pg_name (i := 5) scMade.nd rfl (Or.inr rfl)) (pgs_cons (pg_name (i := 6) scMade.nd rfl (Or.inr rfl)) (pgs_cons (pg_name (i := 7) scMade.nd rfl (Or.inr rfl)) (pgs_cons (pg_name (i := 8) scMade.nd rfl (Or.inr rfl)) (pgs_cons (pg_name (i := 9) scMade.nd rfl (Or.inr rfl)) (pgs_cons (pg_name (i := 10) scMade.nd rfl (Or.inr rfl)) pgs_nil))))))))
      (pss_cons (ps_set (i := 3) scMade.nd rfl (Or.inl rfl) (pe_lst (pa_cons (NLV.pe_lamV TB rfl hmT hu2 (lamS_by ls0) rfl) (pa_cons (NLV.pe_lamV TB rfl hmT hu2 (lamS_by ls1) rfl) (pa_cons (NLV.pe_lamV TB rfl hmT hu2 (lamS_by ls2) rfl) (pa_cons (NLV.pe_lamV TB rfl hmT hu2 (lamS_by ls3) rfl)
        (pa_cons (NLV.pe_lamV TB rfl hmT hu2 (lamS_by ls4) rfl) (pa_cons (NLV.pe_lamV TB rfl hmT hu2 (lamS_by ls5) rfl) (pa_cons (NLV.pe_lamV TB rfl hmT hu2 (lamS_by ls6) rfl) pa_nil)))))))))
      (pss_cons (ps_set (i := 4) scMade.nd rfl (Or.inl rfl) (pe_ix ix_list (pv 3) (pe_callB call_len_seq (by rfl) T.blen (by decide +kernel) (pa_cons (pv 0) pa_nil)) (fun _ _ => rfl)))
      (pss_one (ps_ret (NLV.pe_lamNow (i := 4) (k := 5) (E := E) (S := lamsL K c C TW E) rfl (Or.inl rfl) (L2passOf (takes_of rfl rfl rfl rfl)) hr (lam_ok X)))))))), ?_⟩
    have lz : 60 ≤ sizeLine := by decide
    refine ⟨_, rfl, a, ws, rfl, .inl hS, fun l1 n1 => ?_⟩
    have s1 : Same H (upd H l1 (.lst ws)) := Same.new n1
    have g1 : upd H l1 (.lst ws) l1 = some (.lst ws) := upd_same
    generalize (upd H l1 (.lst ws)) = H1 at *
    refine ⟨by show 1 ≤ sizeLine; decide, fun l2 n2 => ?_⟩
    have s2 := s1.trans (Same.new (o := .lst [.str (Str.ofString "")]) n2)
    have g12 := (upd_ne (o := .lst [.str (Str.ofString "")]) (ne_of_none g1 n2)).trans g1
    have g2 : upd H1 l2 (.lst [.str (Str.ofString "")]) l2 = some (.lst [.str (Str.ofString "")]) := upd_same
    generalize (upd H1 l2 (.lst [.str (Str.ofString "")])) = H2 at *
    refine ⟨_, rfl, a, ws, rfl, .inl (NI.sqL_same s2 hS), _, _, rfl, rfl, ?_⟩
    refine ⟨l2, _, _, rfl, rfl, g2, by omega, by omega, ?_, fun l3 n3 => ?_⟩
    · have : (6 - (ws.length : Int)).toNat ≤ 6 := by omega
      show 1 * _ ≤ _
      omega
    have ef : ∃ tl : List V, (List.replicate (6 - (ws.length : Int)).toNat [V.str (Str.ofString "")]).flatten = tl ∧ ws.length + tl.length = 6 := by
      refine ⟨_, rfl, ?_⟩
      rw [List.length_flatten, List.map_replicate, List.sum_replicate_nat]
      show ws.length + _ * 1 = 6
      omega
    obtain ⟨tl, etl, ltl⟩ := ef
    rw [etl]
    have s3 := s2.trans (Same.new (o := .lst tl) n3)
    have g13 := (upd_ne (o := .lst tl) (ne_of_none g12 n3)).trans g12
    have g3 : upd H2 l3 (.lst tl) l3 = some (.lst tl) := upd_same
    generalize (upd H2 l3 (.lst tl)) = H3 at *
    refine ⟨l1, l3, ws, tl, rfl, rfl, g13, g3, by omega, fun l4 n4 => ?_⟩
    have s4 := s3.trans (Same.new (o := .lst (ws ++ tl)) n4)
    have g4 : upd H3 l4 (.lst (ws ++ tl)) l4 = some (.lst (ws ++ tl)) := upd_same
    generalize (upd H3 l4 (.lst (ws ++ tl))) = H4 at *
    obtain ⟨v0, v1, v2, v3, v4, v5, e6⟩ := six (xs := ws ++ tl) (by rw [List.length_append]; exact ltl)
    have take : ws = [v0, v1, v2, v3, v4, v5].take ws.length := by rw [← e6, List.take_left]
    rw [e6] at g4
    clear etl ltl g1 g12 g2 g13 g3 n1 n2 n3 n4 s1 s2 s3 e6
    refine ⟨_, rfl, l4, [v0, v1, v2, v3, v4, v5], rfl, SqL.of g4, rfl, _, _, rfl, _, _, rfl, _, _, rfl, _, _, rfl, _, _, rfl, _, _, rfl, rfl, ?_⟩
    have hD4 := hD.same s4
    have hT4 := hT.ext s4
    have E4 := ExtN.of s4
    refine ⟨hT4, fun f0 H5 e5 t5 _ L0 => ⟨t5, fun f1 H6 e6 t6 _ L1 => ⟨t6, fun f2 H7 e7 t7 _ L2 => ⟨t7, fun f3 H8 e8 t8 _ L3 => ⟨t8, fun f4 H9 e9 t9 _ L4 => ⟨t9, fun f5 H10 e10 t10 _ L5 => ⟨t10, fun f6 H11 e11 t11 _ L6 => ?_⟩⟩⟩⟩⟩⟩⟩
    have L5 := L5.ext e11
    have L4 := (L4.ext e10).ext e11
    have L3 := ((L3.ext e9).ext e10).ext e11
    have L2 := (((L2.ext e8).ext e9).ext e10).ext e11
    have L1 := ((((L1.ext e7).ext e8).ext e9).ext e10).ext e11
    have L0 := (((((L0.ext e6).ext e7).ext e8).ext e9).ext e10).ext e11
    have E11 : ExtN H H11 := E4.trans (e5.trans (e6.trans (e7.trans (e8.trans (e9.trans (e10.trans e11))))))
    refine ⟨by show 7 ≤ sizeLine; decide, fun D hDn => ?_⟩
    have sD : Same H11 (upd H11 D (.lst [.ref f0, .ref f1, .ref f2, .ref f3, .ref f4, .ref f5, .ref f6])) := Same.new hDn
    have E12 := E11.trans (ExtN.of sD)
    have t12 := t11.ext sD
    have gD : upd H11 D (.lst [.ref f0, .ref f1, .ref f2, .ref f3, .ref f4, .ref f5, .ref f6]) D = some (.lst [.ref f0, .ref f1, .ref f2, .ref f3, .ref f4, .ref f5, .ref f6]) := upd_same
    have L0 := L0.ext (ExtN.of sD)
    have L1 := L1.ext (ExtN.of sD)
    have L2 := L2.ext (ExtN.of sD)
    have L3 := L3.ext (ExtN.of sD)
    have L4 := L4.ext (ExtN.of sD)
    have L5 := L5.ext (ExtN.of sD)
    have L6 := L6.ext (ExtN.of sD)
    generalize (upd H11 D (.lst [.ref f0, .ref f1, .ref f2, .ref f3, .ref f4, .ref f5, .ref f6])) = H12 at *
    have core := made_core (c := c) (TT := TT) (Q := Q) (E := E) X.cl (NI.Sq.ext E12 hb) few fewp (hD.ext E12) E12 t12 h
    have hS12 : SqL K H12 a ws := NI.sqL_ext E12 hS
    refine ⟨_, rfl, _, rfl, a, ws, rfl, .inl hS12, ?_⟩
    clear hS hS12 hD hD4 h hT hT4
    rcases upto6 few with e | e | e | e | e | e | e <;> rw [e] at take
    · obtain rfl : ws = [] := take
      exact ⟨D, [.ref f0, .ref f1, .ref f2, .ref f3, .ref f4, .ref f5, .ref f6], _, .ref f0, rfl, rfl, SqL.of gD, rfl, f0, mkL K c C TW E 0, mem_lams (by decide), rfl, L0, _, rfl, core⟩
    · obtain rfl : ws = [v0] := take
      exact ⟨D, [.ref f0, .ref f1, .ref f2, .ref f3, .ref f4, .ref f5, .ref f6], _, .ref f1, rfl, rfl, SqL.of gD, rfl, f1, mkL K c C TW E 1, mem_lams (by decide), rfl, L1, _, rfl, _, rfl, core⟩
    · obtain rfl : ws = [v0, v1] := take
      exact ⟨D, [.ref f0, .ref f1, .ref f2, .ref f3, .ref f4, .ref f5, .ref f6], _, .ref f2, rfl, rfl, SqL.of gD, rfl, f2, mkL K c C TW E 2, mem_lams (by decide), rfl, L2, _, rfl, _, rfl, _, rfl, core⟩
    · obtain rfl : ws = [v0, v1, v2] := take
      exact ⟨D, [.ref f0, .ref f1, .ref f2, .ref f3, .ref f4, .ref f5, .ref f6], _, .ref f3, rfl, rfl, SqL.of gD, rfl, f3, mkL K c C TW E 3, mem_lams (by decide), rfl, L3, _, rfl, _, rfl, _, rfl, _, rfl, core⟩
    · obtain rfl : ws = [v0, v1, v2, v3] := take
      exact ⟨D, [.ref f0, .ref f1, .ref f2, .ref f3, .ref f4, .ref f5, .ref f6], _, .ref f4, rfl, rfl, SqL.of gD, rfl, f4, mkL K c C TW E 4, mem_lams (by decide), rfl, L4, _, rfl, _, rfl, _, rfl, _, rfl, _, rfl, core⟩
    · obtain rfl : ws = [v0, v1, v2, v3, v4] := take
      exact ⟨D, [.ref f0, .ref f1, .ref f2, .ref f3, .ref f4, .ref f5, .ref f6], _, .ref f5, rfl, rfl, SqL.of gD, rfl, f5, mkL K c C TW E 5, mem_lams (by decide), rfl, L5, _, rfl, _, rfl, _, rfl, _, rfl, _, rfl, _, rfl, core⟩
    · obtain rfl : ws = [v0, v1, v2, v3, v4, v5] := take
      exact ⟨D, [.ref f0, .ref f1, .ref f2, .ref f3, .ref f4, .ref f5, .ref f6], _, .ref f6, rfl, rfl, SqL.of gD, rfl, f6, mkL K c C TW E 6, mem_lams (by decide), rfl, L6, _, rfl, _, rfl, _, rfl, _, rfl, _, rfl, _, rfl, _, rfl, core⟩
end
end K71

set_option Elab.async false
set_option linter.all false
set_option maxRecDepth 100000
set_option maxHeartbeats 4000000
/-! xs.count(x) of a list of flat values. -/
namespace NC
open PySem PySem.Spec PyProof.Rows L2
/-- is the value equal to x -/
def like (x : V) (u : Value) : Bool := match absV u with
  | some y => eqV y x
  | none => false
theorem abs_flat {y : V} {u : Value} (r : RelV y u) (f : flatV y = true) : absV u = some y := by
  cases y with
  | non => cases r; rfl
  | bl b => cases r; rfl
  | int i => obtain ⟨t, rfl⟩ := r; rfl
  | str s => obtain ⟨t, rfl⟩ := r; rfl
  | _ => cases f
theorem like_at {x y : V} {u : Value} (r : RelV y u) (f : flatV y = true) : like x u = eqV y x := by
  unfold like
  rw [abs_flat r f]
theorem vals_has : ∀ {ys : List V} {us : List Value}, Vals ys us → ∀ {u : Value}, u ∈ us → ∃ y ∈ ys, RelV y u
  | _, _, .nil, _, h => by cases h
  | _, _, .cons r t, u, h => by
    rcases List.mem_cons.mp h with e | e
    · exact ⟨_, List.mem_cons_self, e ▸ r⟩
    · obtain ⟨y, hy, q⟩ := vals_has t e
      exact ⟨y, List.mem_cons_of_mem _ hy, q⟩
theorem like_count {x : V} : ∀ {ys : List V} {us : List Value}, Vals ys us → ys.all flatV = true → us.countP (like x) = ys.countP fun y => eqV y x
  | _, _, .nil, _ => rfl
  | _, _, .cons r t, f => by
    rw [List.all_cons, Bool.and_eq_true] at f
    rw [List.countP_cons, List.countP_cons, like_count t f.2, like_at r f.1]
def rCnt (K : PySem.W.Frag) : V → List V → Hp → VK → Prop := fun o xs H Q => ∃ (p : Addr) (ys : List V) (x : V), o = .ref p ∧ xs = [x] ∧ SqL K H p ys ∧ ys.all flatV = true ∧ flatV x = true ∧ Q (.int ((ys.countP fun y => eqV y x : Nat) : Int)) H
section
variable {X : Cx}
theorem mt_cnt : MtR X "list.count" (rCnt X.K) := by
  intro pins s σ H o xs v us Q I ro rxs h
  obtain ⟨p, ys, x, rfl, rfl, at_, fl, fx, q⟩ := h
  cases ro
  obtain ⟨u, rfl, ru⟩ := rxs.one
  obtain ⟨its, rv, ⟨⟨cls, dd, data, sl⟩, n, ho, hc, hdn, hd⟩, low⟩ := I.list at_
  simp only at hc hd
  subst hc hd
  have each : ∀ (A : Around) (t : Shared), ∀ y ∈ its, SeqAt.EqAt A t y u (like x y) := fun A t y hy => by
    obtain ⟨z, hz, rz⟩ := vals_has rv hy
    have fz := List.all_eq_true.mp fl z hz
    rw [like_at rz fz]
    exact eqAt_V rz ru fz fx
  refine call_meets PySem.F.slot_list_count ⟨_, ho, rfl⟩ PySem.F.entry_list_count (PySem.F.args_list_count_2 _ _)
    (SeqAt.list_countAt p its.toArray n dd sl u (like x)) ⟨ho, fun y hy => each _ _ y (by simpa using hy), ?_⟩
  refine ⟨.int ((ys.countP fun y => eqV y x : Nat) : Int), H, I.tok _, ⟨s.toks, ?_⟩, q⟩
  show Value.int ((its.toArray.toList.countP (like x) : Nat) : Int) s.toks = _
  rw [show its.toArray.toList = its from rfl, like_count rv fl]
end
end NC

set_option Elab.async false
set_option linter.all false
set_option maxRecDepth 100000
set_option maxHeartbeats 4000000
namespace K71
open PySem L2 NX NU LamX
abbrev sHeard : Stmt := top 20
abbrev NHeard : List Str := ["_law_ask", "_law_caught", "_law_found", "error", "_law_kinds"]
theorem scHeard : FnScope NHeard ["_law_ask"] (defScope sHeard) := ⟨rfl, rfl, rfl, by decide +kernel, rfl, by decide +kernel, by decide +kernel⟩
/-- what the written part says of an error class -/
structure KErr (K : PySem.W.Frag) (c : C3) (CS C : Addr) (y : Str) (b0 b1 b2 : Bool) : Prop where
  e : PySem.W.exmOne K (.ref C) (.ref CS) = some true
  ec : ExcC K C
  x : XfC K C
  v : PySem.W.findIn K (.ref C) y = some none
  k0 : PySem.W.kitOne K (.ref C) (.ref c.r) = some b0
  k1 : PySem.W.kitOne K (.ref C) (.ref c.n) = some b1
  k2 : PySem.W.kitOne K (.ref C) (.ref c.t) = some b2
  ve : PySem.W.kitOne K (.ref C) (.type "ValueError") = some true
structure ErrK (K : PySem.W.Frag) (mg : Str → Option Value) (c : C3) (CS : Addr) : Prop where
  gS : mg "StowError" = some (.ref CS)
  gR : mg "BadRule" = some (.ref c.r)
  gN : mg "BadName" = some (.ref c.n)
  gT : mg "Twice" = some (.ref c.t)
  r : KErr K c CS c.r "value" true false false
  n : KErr K c CS c.n "value" false true false
  t : KErr K c CS c.t "name" false false true
/-- the properties of a rule -/
structure RGet (P : Program) (w : World) (K : PySem.W.Frag) (mg : Str → Option Value) (base : Heap) (C : Addr) : Prop where
  c : Cls K C
  w_ : ∃ p g fd, PropOf K C "words" p g ∧ FnOk P w K mg base CX0 1 g fd ["self"] (getSp C "_words") ∧ Binds K fd ["self"] []
  p_ : ∃ p g fd, PropOf K C "pins" p g ∧ FnOk P w K mg base CX0 1 g fd ["self"] (getSp C "_pins") ∧ Binds K fd ["self"] []
def Er.word : Er → Str
  | .ru _ => "rule"
  | .nm _ => "name"
  | .tw _ => "twice"
def HErr (c : C3) (Q : VK) : XK := fun cls d H' => ∃ (f : Er) (dd : Addr), cls = .ref (f.cls c) ∧ d = some dd ∧ H' dd = some (.xd [(f.fld, f.val)]) ∧ ∀ p H'', Same H' H'' → H' p = none → H'' p = some (.tup [.str f.word, f.val]) → Q (.ref p) H''
/-- what _law_heard makes of what it asks -/
def THeard (c : C3) (C : Addr) : (XK → Hp → VK → Prop) → Hp → VK → Prop := fun tl H Q => ∀ p0, H p0 = none → ∀ R : VK,
  (∀ x dx q t H1, H1 x = some (.ins C dx [("_words", .ref q), ("_pins", .ref t)]) → (∀ p H2, H1 p = none → Same H1 H2 → H2 p = some (.tup [.str "told", .ref q, .ref t]) → Q (.ref p) H2) → R (.ref x) H1) →
  tl (HErr c Q) (upd H p0 (.tup [.non, .non])) R
section
variable {X : Cx}
theorem takesLen {X : Cx} {W : WX} (h : Takes X W) : Takes X (fun cls d σ H => σ.length = X.N.length → W cls d σ H) := fun u s' ⟨a, B, sI, pins, σ, H, cls, d, e1, I, e2, e3, e4, e5, e6, e7, w⟩ => h u s' ⟨a, B, sI, pins, σ, H, cls, d, e1, I, e2, e3, e4, e5, e6, e7, w I.len⟩
theorem heard_gives {q : Str} {g CS C : Addr} {c : C3} {cdg : Value} (hr : Room 3 X.A) (T : TxtB X.mg) (E : ErrK X.K X.mg c CS) (G : RGet X.prog X.w X.K X.mg X.base C) :
    GivesTo X NHeard "_law_heard" (defScope sHeard) g cdg (defBody sHeard) "_law_ask" q (THeard c C) := by
  intro f c' s H Q tl act hc h
  obtain ⟨pw, gw, fdw, Pw, Fw, bw⟩ := G.w_
  obtain ⟨pp, gp, fdp, Pp, Fp, bp⟩ := G.p_
  have hr2 : Room 2 (X.A.deeper (PyProof.Rows.envOfC "_law_heard" (defScope sHeard) s.heap.objs.size g cdg)) := hr.deeper _
  refine ⟨_, (pss_cons (ps_asg (pe_tup (pa_cons pe_non (pa_cons pe_non pa_nil))) (pg_tup rfl (pgs_cons (pg_name (i := 1) scHeard.nd rfl (Or.inl rfl)) (pgs_cons (pg_name (i := 2) scHeard.nd rfl (Or.inl rfl)) pgs_nil))))
      (pss_cons (ps_try_keep (X := (cxOf C8.CX0 X.prog X.w X.K X.mg X.base NHeard "_law_heard" (defScope sHeard) g cdg X.A X.stack s H C8.E0).nox) (c := .ref CS) (i := 3)
      (tb := fun W D σ H => ∃ Ech : XK, (∀ cls d σ' H', Ech cls d H' → σ'.length = 5 → W cls d σ' H') ∧ σ[0]? = some (some (.ref f)) ∧ H c' = some (CodeO c' q) ∧ tl Ech H fun v H1 => gName 2 v σ H1 D.nx)
      rfl rfl scHeard.nd rfl rfl rfl ⟨rfl, by decide, .inl E.gS⟩ L2.takes0 (fun W pn xe tk _ => ?_) (fun a oe cls d pn _ _ => pss_one (ps_set (i := 1) scHeard.nd rfl (Or.inl rfl) (pv 3))))
      (pss_cons (ps_if (pt_cmpR op_isN (pv 1) pe_non (nomark _)) (pss_one (ps_ret (pe_tup (pa_cons pe_str (pa_cons (pe_prop (E := C8.E0) (pv 2) G.c Pw Fw hr2 bw .nil pass0 rfl) (pa_cons (pe_prop (E := C8.E0) (pv 2) G.c Pp Fp hr2 bp .nil pass0 rfl) pa_nil)))))) pss_nil)
      (pss_cons (ps_set (i := 4) scHeard.nd rfl (Or.inl rfl) (pe_lst (pa_cons (pe_callB (CallR.or call_isKept call_isi) (by rfl) T.bisinstance (by decide +kernel) (pa_cons (pv 1) (pa_cons (C8.pe_gc (v := .ref c.r) rfl ⟨_, E.gR, rfl⟩) pa_nil))) (pa_cons (pe_callB (CallR.or call_isKept call_isi) (by rfl) T.bisinstance (by decide +kernel) (pa_cons (pv 1) (pa_cons (C8.pe_gc (v := .ref c.n) rfl ⟨_, E.gN, rfl⟩) pa_nil))) (pa_cons (pe_callB (CallR.or call_isKept call_isi) (by rfl) T.bisinstance (by decide +kernel) (pa_cons (pv 1) (pa_cons (C8.pe_gc (v := .ref c.t) rfl ⟨_, E.gT, rfl⟩) pa_nil))) pa_nil)))))
      (pss_cons (ps_if (PW.pt (pw_or (pt_cmpR op_ne (pe_bm PySem.F.plainAttrs_list PySem.F.slot_list_count PySem.F.type_list_count NC.mt_cnt (pv 4) (pa_cons pe_bl pa_nil)) pe_int (nomark _)) (pw_or1 (pt_not (pt_val (pe_callB (CallR.or call_isKept call_isi) (by rfl) T.bisinstance (by decide +kernel) (pa_cons (pv 1) (pa_cons (pe_bltn (v := .ty "ValueError") (by rfl) T.bVE (by decide +kernel) rfl) pa_nil)))))))) (pss_one (ps_ret (pe_tup (pa_cons pe_str pa_nil)))) pss_nil)
      (pss_cons (ps_if (pt_val (pe_ix ix_list (pv 4) pe_int (fun _ _ => rfl))) (pss_one (ps_ret (pe_tup (pa_cons pe_str (pa_cons (pe_kept (pv 1)) pa_nil))))) pss_nil)
      (pss_one (ps_ret (pe_ifExp (pt_val (pe_ix ix_list (pv 4) pe_int (fun _ _ => rfl))) (pe_tup (pa_cons pe_str (pa_cons (pe_kept (pv 1)) pa_nil))) (pe_tup (pa_cons pe_str (pa_cons (pe_kept (pv 1)) pa_nil)))))))))))), ?_⟩
  · refine ⟨fun pins s' σ H' D I h' => ?_⟩
    obtain ⟨Ech, hW, h1, h2, h3⟩ := h'
    exact (pss_one (ps_set (i := 2) scHeard.nd rfl (Or.inl rfl) (act (fun cls d σ H => σ.length = 5 → W cls d σ H) pn xe Ech _ _ (takesLen tk) hW))).run pins s' σ H' D I ⟨h1, h2, h3⟩
  · refine ⟨by show 2 ≤ sizeLine; decide, fun p0 hp0 => ?_⟩
    have s0 : Same H (upd H p0 (.tup [.non, .non])) := Same.new hp0
    have hc0 := s0 _ _ hc
    refine ⟨p0, _, rfl, SqT.of upd_same, rfl, _, _, rfl, _, _, rfl, rfl, ?_⟩
    refine ⟨HErr c Q, fun cls d σ' H' hx hlen => ?_, rfl, hc0, h p0 hp0 _ fun x dx q t H1 g1 k => ?_⟩
    · obtain ⟨fa, dd, rfl, rfl, hdd, k⟩ := hx
      match σ', hlen with
      | [x0, x1, x2, x3, x4], _ =>
      have low : (3 : Nat) ≤ sizeLine := by decide
      cases fa with
      | ru u0 =>
        refine ⟨true, E.r.e, (fun h => by cases h), fun _ a ha => ?_⟩
        have hd' : upd H' a (Kept a (.ref c.r) (some dd)) dd = some (.xd [("value", u0)]) := (upd_ne (ne_of_none hdd ha)).trans hdd
        have s1 : Same H' (upd H' a (Kept a (.ref c.r) (some dd))) := Same.new ha
        have hk : upd H' a (Kept a (.ref c.r) (some dd)) a = some (Kept a (.ref c.r) (some dd)) := upd_same
        refine ⟨_, rfl, _, rfl, rfl, _, rfl, iteF ?_⟩
        refine ⟨_, rfl, .inl ⟨a, _, dd, _, _, _, true, rfl, .own c.r, hk, hd', E.r.ec, E.r.k0, ?_⟩⟩
        refine ⟨_, rfl, .inl ⟨a, _, dd, _, _, _, false, rfl, .own c.n, hk, hd', E.r.ec, E.r.k1, ?_⟩⟩
        refine ⟨_, rfl, .inl ⟨a, _, dd, _, _, _, false, rfl, .own c.t, hk, hd', E.r.ec, E.r.k2, ?_⟩⟩
        refine ⟨low, fun l hl => ?_⟩
        have hd2 := (upd_ne (o := .lst [.bl true, .bl false, .bl false]) (ne_of_none hd' hl)).trans hd'
        have hk2 := (upd_ne (o := .lst [.bl true, .bl false, .bl false]) (ne_of_none hk hl)).trans hk
        have gl : upd (upd H' a (Kept a (.ref c.r) (some dd))) l (.lst [.bl true, .bl false, .bl false]) l = some (.lst [.bl true, .bl false, .bl false]) := upd_same
        have s2 : Same H' (upd (upd H' a (Kept a (.ref c.r) (some dd))) l (.lst [.bl true, .bl false, .bl false])) := s1.trans (Same.new hl)
        refine ⟨_, rfl, .inl ⟨rfl, _, SqL.of gl⟩, l, _, .bl true, rfl, rfl, SqL.of gl, rfl, rfl, ?_⟩
        refine ⟨rfl, false, rfl, ?_⟩
        refine iteF ⟨_, rfl, .inl ⟨a, _, dd, _, _, _, true, rfl, .ty "ValueError", hk2, hd2, E.r.ec, E.r.ve, true, rfl, iteF ?_⟩⟩
        exact ⟨_, rfl, l, _, ((0 : Nat) : Int), .bl true, rfl, rfl, SqL.of gl, atI_nat rfl, true, rfl, iteT ⟨_, rfl, a, _, dd, _, _, rfl, hk2, hd2, E.r.x, E.r.v, rfl, by show 2 ≤ sizeLine; decide, fun p hp => k p _ (s2.trans (Same.new hp)) (sameNone s2 hp) upd_same⟩⟩
      | nm u0 =>
        refine ⟨true, E.n.e, (fun h => by cases h), fun _ a ha => ?_⟩
        have hd' : upd H' a (Kept a (.ref c.n) (some dd)) dd = some (.xd [("value", u0)]) := (upd_ne (ne_of_none hdd ha)).trans hdd
        have s1 : Same H' (upd H' a (Kept a (.ref c.n) (some dd))) := Same.new ha
        have hk : upd H' a (Kept a (.ref c.n) (some dd)) a = some (Kept a (.ref c.n) (some dd)) := upd_same
        refine ⟨_, rfl, _, rfl, rfl, _, rfl, iteF ?_⟩
        refine ⟨_, rfl, .inl ⟨a, _, dd, _, _, _, false, rfl, .own c.r, hk, hd', E.n.ec, E.n.k0, ?_⟩⟩
        refine ⟨_, rfl, .inl ⟨a, _, dd, _, _, _, true, rfl, .own c.n, hk, hd', E.n.ec, E.n.k1, ?_⟩⟩
        refine ⟨_, rfl, .inl ⟨a, _, dd, _, _, _, false, rfl, .own c.t, hk, hd', E.n.ec, E.n.k2, ?_⟩⟩
        refine ⟨low, fun l hl => ?_⟩
        have hd2 := (upd_ne (o := .lst [.bl false, .bl true, .bl false]) (ne_of_none hd' hl)).trans hd'
        have hk2 := (upd_ne (o := .lst [.bl false, .bl true, .bl false]) (ne_of_none hk hl)).trans hk
        have gl : upd (upd H' a (Kept a (.ref c.n) (some dd))) l (.lst [.bl false, .bl true, .bl false]) l = some (.lst [.bl false, .bl true, .bl false]) := upd_same
        have s2 : Same H' (upd (upd H' a (Kept a (.ref c.n) (some dd))) l (.lst [.bl false, .bl true, .bl false])) := s1.trans (Same.new hl)
        refine ⟨_, rfl, .inl ⟨rfl, _, SqL.of gl⟩, l, _, .bl true, rfl, rfl, SqL.of gl, rfl, rfl, ?_⟩
        refine ⟨rfl, false, rfl, ?_⟩
        refine iteF ⟨_, rfl, .inl ⟨a, _, dd, _, _, _, true, rfl, .ty "ValueError", hk2, hd2, E.n.ec, E.n.ve, true, rfl, iteF ?_⟩⟩
        exact ⟨_, rfl, l, _, ((0 : Nat) : Int), .bl false, rfl, rfl, SqL.of gl, atI_nat rfl, false, rfl, iteF ⟨_, rfl, l, _, ((1 : Nat) : Int), .bl true, rfl, rfl, SqL.of gl, atI_nat rfl, true, rfl, iteT ⟨_, rfl, a, _, dd, _, _, rfl, hk2, hd2, E.n.x, E.n.v, rfl, by show 2 ≤ sizeLine; decide, fun p hp => k p _ (s2.trans (Same.new hp)) (sameNone s2 hp) upd_same⟩⟩⟩
      | tw z =>
        refine ⟨true, E.t.e, (fun h => by cases h), fun _ a ha => ?_⟩
        have hd' : upd H' a (Kept a (.ref c.t) (some dd)) dd = some (.xd [("name", .str z)]) := (upd_ne (ne_of_none hdd ha)).trans hdd
        have s1 : Same H' (upd H' a (Kept a (.ref c.t) (some dd))) := Same.new ha
        have hk : upd H' a (Kept a (.ref c.t) (some dd)) a = some (Kept a (.ref c.t) (some dd)) := upd_same
        refine ⟨_, rfl, _, rfl, rfl, _, rfl, iteF ?_⟩
        refine ⟨_, rfl, .inl ⟨a, _, dd, _, _, _, false, rfl, .own c.r, hk, hd', E.t.ec, E.t.k0, ?_⟩⟩
        refine ⟨_, rfl, .inl ⟨a, _, dd, _, _, _, false, rfl, .own c.n, hk, hd', E.t.ec, E.t.k1, ?_⟩⟩
        refine ⟨_, rfl, .inl ⟨a, _, dd, _, _, _, true, rfl, .own c.t, hk, hd', E.t.ec, E.t.k2, ?_⟩⟩
        refine ⟨low, fun l hl => ?_⟩
        have hd2 := (upd_ne (o := .lst [.bl false, .bl false, .bl true]) (ne_of_none hd' hl)).trans hd'
        have hk2 := (upd_ne (o := .lst [.bl false, .bl false, .bl true]) (ne_of_none hk hl)).trans hk
        have gl : upd (upd H' a (Kept a (.ref c.t) (some dd))) l (.lst [.bl false, .bl false, .bl true]) l = some (.lst [.bl false, .bl false, .bl true]) := upd_same
        have s2 : Same H' (upd (upd H' a (Kept a (.ref c.t) (some dd))) l (.lst [.bl false, .bl false, .bl true])) := s1.trans (Same.new hl)
        refine ⟨_, rfl, .inl ⟨rfl, _, SqL.of gl⟩, l, _, .bl true, rfl, rfl, SqL.of gl, rfl, rfl, ?_⟩
        refine ⟨rfl, false, rfl, ?_⟩
        refine iteF ⟨_, rfl, .inl ⟨a, _, dd, _, _, _, true, rfl, .ty "ValueError", hk2, hd2, E.t.ec, E.t.ve, true, rfl, iteF ?_⟩⟩
        exact ⟨_, rfl, l, _, ((0 : Nat) : Int), .bl false, rfl, rfl, SqL.of gl, atI_nat rfl, false, rfl, iteF ⟨_, rfl, l, _, ((1 : Nat) : Int), .bl false, rfl, rfl, SqL.of gl, atI_nat rfl, false, rfl, iteF ⟨_, rfl, a, _, dd, _, _, rfl, hk2, hd2, E.t.x, E.t.v, rfl, by show 2 ≤ sizeLine; decide, fun p hp => k p _ (s2.trans (Same.new hp)) (sameNone s2 hp) upd_same⟩⟩⟩
    · refine ⟨_, rfl, rfl, _, rfl, iteT ?_⟩
      refine ⟨_, rfl, x, dx, _, rfl, g1, _, dx, _, _, rfl, g1, rfl, ?_⟩
      refine ⟨_, rfl, x, dx, _, rfl, g1, _, dx, _, _, rfl, g1, rfl, ?_⟩
      exact ⟨by show 3 ≤ sizeLine; decide, fun p hp => k p _ hp (Same.new hp) upd_same⟩
end
end K71

set_option Elab.async false
set_option linter.all false
set_option maxRecDepth 100000
/-! x in t, x not in t: t a tuple of flat data, x any plain data. A comprehension over the signs of a text. -/
namespace NDT
open PySem PySem.Spec PyProof.Rows L2
def rNotInT (K : PySem.W.Frag) : R2 := fun x y H Q => ∃ d ds, Dp K H x d ∧ Dp K H y (.tuple ds) ∧ d.plain = true ∧ PyData.plainAll ds = true ∧ PyData.depthAll ds = 0 ∧ Q (.bl (!ds.any fun z => PyData.eqv z d)) H
section
variable {X : Cx}
theorem op_notInT (hu : X.A.units + 1 < cLine) : OpR X (compareOp .NotIn) (rNotInT X.K) := by
  intro pins s σ H x y v u Q I rx ry h
  obtain ⟨d, ds, hd, he, sd, se, z, q⟩ := h
  obtain ⟨as, r1⟩ := Dp.reads I d x v hd rx
  obtain ⟨bs, r2⟩ := Dp.reads I (.tuple ds) y u he ry
  refine SeqAt.notIn_tuple_data r2 r1 se sd ?_ ⟨.bl _, H, I, rfl, q⟩
  rw [z, Nat.zero_min]
  exact hu
end
end NDT

set_option Elab.async false
set_option linter.all false
set_option maxRecDepth 100000
set_option maxHeartbeats 8000000
namespace NX
open PySem L2
/-- a comprehension over the signs of a text -/
theorem lcTxt {z : Str} {tg : TG} {tst : TT} {el : TE} {own : List Nat} {σ₀ : L2.St} {Ha : Hp} {L : Addr} {Fin : Hp → Prop} (Iv : Nat → Hp → Prop) (start : Iv 0 (upd Ha L (.lst [])))
    (turn : ∀ j ch Hb, z.cps[j]? = some ch → Iv j Hb → tg (.str ⟨#[ch]⟩) (wipe σ₀ own) Hb fun τ Hc => wipe τ own = wipe σ₀ own ∧ tst τ Hc fun yes Hd =>
      if yes = true then el τ Hd fun v He => ∃ got, He L = some (.lst got) ∧ got.length < sizeLine ∧ Iv (j + 1) (upd He L (.lst (got ++ [v]))) else Iv (j + 1) Hd) (fin : ∀ Hb, Iv z.cps.size Hb → Fin Hb) :
    ∃ W : Nat → Nat → Hp → Prop, (∃ k, W 0 k (upd Ha L (.lst []))) ∧ ∀ j k Hb, W j k Hb →
      ((Its z).stop j Hb ∧ Fin Hb) ∨ ((Its z).go j Hb ∧ ∃ Nx : Hp → Prop, (∀ Hc, Nx Hc → ∃ k', k' < k ∧ W (j + 1) k' Hc) ∧ ∀ x Hc, (Its z).yld j Hb x Hc → tg x (wipe σ₀ own) Hc fun τ Hd => wipe τ own = wipe σ₀ own ∧ tst τ Hd fun yes He =>
        if yes = true then el τ He fun v Hf => ∃ got, Hf L = some (.lst got) ∧ got.length < sizeLine ∧ Nx (upd Hf L (.lst (got ++ [v]))) else Nx He) := by
  refine ⟨fun j k Hb => k + j = z.cps.size ∧ Iv j Hb, ⟨z.cps.size, rfl, start⟩, fun j k Hb ⟨e, iv⟩ => ?_⟩
  cases k with
  | zero =>
    have e' : j = z.cps.size := by omega
    subst e'
    exact .inl ⟨Nat.le_refl _, fin Hb iv⟩
  | succ k =>
    refine .inr ⟨by show j < z.cps.size; omega, Iv (j + 1), fun Hc q => ⟨k, Nat.lt_succ_self k, by omega, q⟩, fun x Hc y => ?_⟩
    obtain ⟨rfl, ch, hc, rfl⟩ := y
    exact turn j ch _ hc iv
end NX
namespace K71
open PySem L2 NX NU LamX
abbrev sDueR : Stmt := top 21
abbrev NDue : List Str := ["_law_words", "_law_tight", "_law_at", "_law_word", "_law_letters", "_law_title", "_law_one"]
theorem scDue : FnScope NDue ["_law_words", "_law_tight"] (defScope sDueR) := ⟨rfl, rfl, rfl, by decide +kernel, rfl, by decide +kernel, by decide +kernel⟩
/-- one letter -/
def one (ch : Nat) : Str := ⟨#[ch]⟩
theorem strEqv (l : List Nat) : PyData.eqv (.list ((l.map one).map PyData.str)) (.list []) = l.isEmpty := by
  cases l with
  | nil => rfl
  | cons a r => rfl
theorem samePut {H H' : Hp} {D : Addr} {o : HO} (s : Same H H') (h : H D = none) : Same H (upd H' D o) := fun b u hb => by
  rw [upd_ne (ne_of_none hb h)]
  exact s b u hb
theorem layOnes : ∀ l : List Nat, (∀ ch ∈ l, ch < 256) → PyData.canLayAll0 ((l.map one).map PyData.str) = true
  | [], _ => rfl
  | a :: r, h => by
    rw [List.map_cons, List.map_cons, PyData.canLayAll0.eq_2, PyData.canLay0.eq_4, layOnes r (fun c hc => h c (List.mem_cons_of_mem _ hc)), Bool.and_true]
    have z := h a List.mem_cons_self
    show (#[a] : Array Nat).all (fun x => decide (x < 1114112)) = true
    rw [Array.all_eq_true]
    intro i hi
    have e : i = 0 := by simp at hi; exact hi
    subst e
    exact decide_eq_true (Nat.lt_trans z (by decide))
theorem depOnes : ∀ l : List Nat, PyData.depthAll ((l.map one).map PyData.str) = 0
  | [] => rfl
  | a :: r => by
    rw [List.map_cons, List.map_cons, PyData.depthAll.eq_2, depOnes r]
    rfl
theorem shapedOnes (l : List Nat) (h : ∀ ch ∈ l, ch < 256) : SeqAt.shaped (.list ((l.map one).map PyData.str)) = true := by
  unfold SeqAt.shaped
  rw [PyData.canLay0.eq_5, layOnes l h, PyData.depth.eq_def]
  show (true && decide (PyData.depthAll _ + 1 ≤ 64)) = true
  rw [depOnes]
  rfl
/-- signs of small codes -/
def okS (z : Str) : Prop := ∀ ch ∈ z.cps.toList, ch < 256
/-- plain data of small depth -/
def El (K : PySem.W.Frag) (H : Hp) (v : V) : Prop := ∃ d, Dp K H v d ∧ d.canLay0 = true ∧ d.plain = true ∧ d.depth ≤ 3
theorem els {K : PySem.W.Frag} {H : Hp} : ∀ vs : List V, (∀ v ∈ vs, El K H v) → ∃ ds, DpAll K H vs ds ∧ PyData.canLayAll0 ds = true ∧ PyData.depthAll ds ≤ 3
  | [], _ => ⟨[], .nil, rfl, Nat.zero_le _⟩
  | v :: r, h => by
    obtain ⟨d, a, b, c, e⟩ := h v List.mem_cons_self
    obtain ⟨ds, x, y, z⟩ := els r fun u hu => h u (List.mem_cons_of_mem _ hu)
    refine ⟨d :: ds, .cons a x, ?_, ?_⟩
    · rw [PyData.canLayAll0.eq_2, b, y]
      rfl
    · rw [PyData.depthAll.eq_2]
      exact Nat.max_le.mpr ⟨e, z⟩
theorem shapedL {ds : List PyData} (h : PyData.canLayAll0 ds = true) (h2 : PyData.depthAll ds ≤ 3) : SeqAt.shaped (.list ds) = true := by
  unfold SeqAt.shaped
  rw [PyData.canLay0.eq_5, h, PyData.depth.eq_def]
  show (true && decide (PyData.depthAll _ + 1 ≤ 64)) = true
  rw [decide_eq_true (by omega)]
  rfl
theorem eqvNil (ds : List PyData) : PyData.eqv (.list ds) (.list []) = ds.isEmpty := by
  cases ds with
  | nil => rfl
  | cons a r => rfl
section
variable {P : Program} {w : World} {K : PySem.W.Frag} {mg : Str → Option Value} {base : Heap}
theorem dpOnes {H : Hp} : ∀ l : List Nat, DpAll K H (l.map fun ch => V.str (one ch)) ((l.map one).map PyData.str)
  | [] => .nil
  | a :: r => .cons (.str _) (dpOnes r)
mutual
theorem dp_same {H H' : Hp} (s : Same H H') : ∀ {v : V} {d : PyData}, Dp K H v d → Dp K H' v d
  | _, _, .non => .non
  | _, _, .bl b => .bl b
  | _, _, .int i => .int i
  | _, _, .str x => .str x
  | _, _, .lst a b => .lst (NI.sqL_same s a) (dpAll_same s b)
  | _, _, .tup a b => .tup (NI.sqT_same s a) (dpAll_same s b)
theorem dpAll_same {H H' : Hp} (s : Same H H') : ∀ {vs : List V} {ds : List PyData}, DpAll K H vs ds → DpAll K H' vs ds
  | _, _, .nil => .nil
  | _, _, .cons a b => .cons (dp_same s a) (dpAll_same s b)
end
theorem dpAll_emp {H : Hp} {vs : List V} {ds : List PyData} (h : DpAll K H vs ds) : ds.isEmpty = vs.isEmpty := by
  cases h <;> rfl
theorem dpTxts {H : Hp} : ∀ l : List Str, DpAll K H (l.map V.str) (l.map PyData.str)
  | [] => .nil
  | a :: r => .cons (.str _) (dpTxts r)
theorem word_str (z : Str) : ∀ l : List Str, ((l.map PyData.str).any fun y => PyData.eqv y (.str z)) = decide (z ∈ l)
  | [] => rfl
  | a :: l => by
    rw [List.map_cons, List.any_cons, word_str z l, Bool.eq_iff_iff]
    simp only [Bool.or_eq_true, decide_eq_true_eq, List.mem_cons]
    exact ⟨fun h => h.imp (fun e => by have e : (a == z) = true := e; exact (beq_iff_eq.mp e).symm) id, fun h => h.imp (fun e => by show (a == z) = true; rw [e]; exact beq_self_eq_true a) id⟩
theorem word_no {H : Hp} {v : V} {d : PyData} (hd : Dp K H v d) (hn : NoStr K H v) : ∀ l : List Str, ((l.map PyData.str).any fun y => PyData.eqv y d) = false
  | [] => rfl
  | a :: l => by
    rw [List.map_cons, List.any_cons, word_no hd hn l, Bool.or_false]
    cases hd with
    | str x =>
      obtain ⟨t, ty, k⟩ := hn
      cases ty with
      | base ty =>
        cases ty
        have q : PySem.W.kitOne K (.type "str") (.type "str") = some true := kit_ty (by decide +kernel)
        rw [q] at k
        cases k
    | non => rfl
    | bl b => rfl
    | int i => rfl
    | lst _ _ => rfl
    | tup _ _ => rfl
/-- what _law_due says -/
def Says (H : Hp) (ws ps : List V) (Q : VK) : Option Er → Prop
  | none => ∀ q t p H', Same H H' → H' q = some (.tup ws) → H' t = some (.tup ps) → H' p = some (.tup [.str "told", .ref q, .ref t]) → Q (.ref p) H'
  | some f => ∀ p H', Same H H' → H' p = some (.tup [.str f.word, f.val]) → Q (.ref p) H'
def spDueR (K : PySem.W.Frag) : Sp := fun vs H Q _ => ∃ (a b : Addr) (ws ps : List V) (r : Option Er), vs = [.ref a, .ref b] ∧ SqL K H a ws ∧ SqL K H b ps ∧ ws.length ≤ 6 ∧ ps.length ≤ 60 ∧ (∀ v ∈ ws, El K H v) ∧ (∀ z, V.str z ∈ ps → okS z) ∧ Due K H ws ps r ∧ Says H ws ps Q r
theorem ok_due {f : Addr} {fd : FuncData} (F : Fun K "_law_due" "_law_due" sDueR f fd) (T : TxtB mg) : FnOk P w K mg base CX0 1 f fd ["_law_words", "_law_tight"] (spDueR K) := by
  refine F.ok scDue (fun vs H Q E h => ?_) (fun cdv A outer s H vs Q E hr h => ?_)
  · obtain ⟨a, b, ws, ps, r, rfl, _⟩ := h
    rfl
  · obtain ⟨a, b, ws, ps, r, rfl, ha, hb, few, fewp, hE, hO, hD, h⟩ := h
    refine ⟨_, (pss_cons (ps_if (pt_cmpR (op_eqD hr.units) (pv 0) (pe_lst pa_nil) (nomark _)) (pss_one (ps_ret (pe_tup (pa_cons pe_str (pa_cons pe_non pa_nil))))) pss_nil)
      (pss_cons (ps_for PassesOwn.never rfl (pi_enum (by rfl) T.benumerate (pa_cons (pv 0) pa_nil)) (pg_tup rfl (pgs_cons (pg_name (i := 2) scDue.nd rfl (Or.inl rfl)) (pgs_cons (pg_name (i := 3) scDue.nd rfl (Or.inl rfl)) pgs_nil)))
        (pss_one (ps_if (PW.pt (pw_or (pt_cmpR (NDT.op_notInT (hu_of hr)) (pv 3) (pe_tup (pa_cons pe_str (pa_cons pe_str (pa_cons pe_str (pa_cons pe_str (pa_cons pe_str pa_nil)))))) rfl) (pw_or1 (pt_cmpR op_in_seq (pv 3) (pe_slice sl_list (pv 0) po_none (po_some (pv 2))) rfl))))
          (pss_one (ps_ret (pe_tup (pa_cons pe_str (pa_cons (pv 3) pa_nil))))) pss_nil)))
      (pss_cons (ps_set (i := 4) scDue.nd rfl (Or.inr rfl) pe_str)
      (pss_cons (ps_for PassesOwn.never rfl (pi_list (pv 1)) (pg_name (i := 5) scDue.nd rfl (Or.inl rfl))
        (pss_one (ps_if (PW.pt (pw_or (pt_not (pt_val (pe_callB call_isi (by rfl) T.bisinstance (by decide +kernel) (pa_cons (pv 5) (pa_cons (pe_bltn (v := .ty "str") (by rfl) T.bstr (by decide +kernel) rfl) pa_nil)))))
          (pw_or (pt_not (pt_chain op_le op_le pe_int (pe_callB call_len_str (by rfl) T.blen (by decide +kernel) (pa_cons (pv 5) pa_nil)) pe_int))
          (pw_or1 (pt_cmpR (op_neD hr.units) (pe_lc (own := [("_law_one", 6)]) (g := gName 6) rfl scDue.nd (pi_str (pv 5)) (blkOk_by (own := [("_law_one", 6)]) (N := NDue) (sc := defScope sDueR) (by decide +kernel)) (fun _ _ _ _ _ => (pg_name (i := 6) scDue.nd rfl (Or.inl rfl))) (fun _ _ _ _ _ => (pts_one (pt_cmpR op_notIn_sign (pv 6) (pv 4) rfl))) (fun _ _ _ _ _ => (pv 6))) (pe_lst pa_nil) (nomark _))))))
          (pss_one (ps_ret (pe_tup (pa_cons pe_str (pa_cons (pv 5) pa_nil))))) pss_nil)))
      (pss_cons (ps_for PassesOwn.never rfl (pi_enum (by rfl) T.benumerate (pa_cons (pv 1) pa_nil)) (pg_tup rfl (pgs_cons (pg_name (i := 2) scDue.nd rfl (Or.inl rfl)) (pgs_cons (pg_name (i := 5) scDue.nd rfl (Or.inl rfl)) pgs_nil)))
        (pss_one (ps_if (pt_cmpR op_in_seq (pv 5) (pe_slice sl_list (pv 1) po_none (po_some (pv 2))) rfl)
          (pss_one (ps_ret (pe_tup (pa_cons pe_str (pa_cons (pv 5) pa_nil))))) pss_nil)))
      (pss_one (ps_ret (pe_tup (pa_cons pe_str (pa_cons (pe_callTy call_tuple_of (by rfl) T.btuple (by decide +kernel) (pa_cons (pv 0) pa_nil)) (pa_cons (pe_callTy call_tuple_of (by rfl) T.btuple (by decide +kernel) (pa_cons (pv 1) pa_nil)) pa_nil))))))))))), ?_⟩
    have at_ : ∀ {H1 : Hp}, Same H H1 → SqL K H1 a ws := fun s => NI.sqL_same s ha
    have bt_ : ∀ {H1 : Hp}, Same H H1 → SqL K H1 b ps := fun s => NI.sqL_same s hb
    obtain ⟨ds, hds, lay, dep⟩ := els ws hE
    refine ⟨_, rfl, by decide, fun e0 he0 => ?_⟩
    have s0 : Same H (upd H e0 (.lst [])) := Same.new he0
    have hds0 : DpAll K (upd H e0 (.lst [])) ws ds := dpAll_same s0 hds
    refine ⟨_, _, .lst (at_ s0) hds0, .lst (SqL.of upd_same) .nil, shapedL lay dep, by decide +kernel, _, rfl, ?_⟩
    rw [eqvNil]
    have emp : ds.isEmpty = ws.isEmpty := dpAll_emp hds
    rw [emp]
    rcases ws with _ | ⟨w0, wl⟩
    · cases hD with
      | em _ => exact iteT ⟨by show 2 ≤ sizeLine; decide, fun p hp => h p _ (s0.trans (Same.new hp)) upd_same⟩
      | ru x _ _ => exact (us_nil x).elim
      | nm x y _ _ => exact absurd (List.map_eq_nil_iff.mp x.symm) y
      | tw x y _ _ _ _ => exact absurd (List.map_eq_nil_iff.mp x.symm) y
      | ok x y _ _ _ _ => exact absurd (List.map_eq_nil_iff.mp x.symm) y
    refine iteF ?_
    generalize hws : w0 :: wl = ws at *
    have e0 : ws ≠ [] := by rw [← hws]; exact List.cons_ne_nil _ _
    clear hws w0 wl hds0 emp hds lay dep ds
    refine ⟨_, rfl, a, ws, rfl, at_ s0, ?_⟩
    obtain ⟨us, rest, ews, hw, tail⟩ : ∃ us rest, ws = us.map V.str ++ rest ∧ Wds us ∧ ((∃ v l, rest = v :: l ∧ NoWd K H us v ∧ ∀ p H', Same H H' → H' p = some (.tup [.str "rule", v]) → Q (.ref p) H') ∨
        (rest = [] ∧ ((∃ zs v, Bad K H ps zs v ∧ ∀ p H', Same H H' → H' p = some (.tup [.str "name", v]) → Q (.ref p) H') ∨ ∃ zs, ps = zs.map V.str ∧ Nms zs ∧
          ((∃ i z, Rep zs i z ∧ ∀ p H', Same H H' → H' p = some (.tup [.str "twice", .str z]) → Q (.ref p) H') ∨ (NoRep zs ∧ ∀ q t p H', Same H H' → H' q = some (.tup ws) → H' t = some (.tup ps) → H' p = some (.tup [.str "told", .ref q, .ref t]) → Q (.ref p) H'))))) := by
      cases hD with
      | em a => exact absurd a e0
      | ru e hw bad => exact ⟨_, _, e, hw, .inl ⟨_, _, rfl, bad, h⟩⟩
      | nm e ne hw bad => exact ⟨_, [], by rw [List.append_nil]; exact e, hw, .inr ⟨rfl, .inl ⟨_, _, bad, h⟩⟩⟩
      | tw e ne hw e2 hn rp => exact ⟨_, [], by rw [List.append_nil]; exact e, hw, .inr ⟨rfl, .inr ⟨_, e2, hn, .inl ⟨_, _, rp, h⟩⟩⟩⟩
      | ok e ne hw e2 hn nr => exact ⟨_, [], by rw [List.append_nil]; exact e, hw, .inr ⟨rfl, .inr ⟨_, e2, hn, .inr ⟨nr, h⟩⟩⟩⟩
    clear hD h
    have lenw : ws.length = us.length + rest.length := by rw [ews, List.length_append, List.length_map]
    have lz : 60 ≤ sizeLine := by decide
    refine NEn.for_enl (xs := ws) (fun i σ H1 => i ≤ us.length ∧ Same H H1 ∧ ∃ y2 y3, σ = [some (.ref a), some (.ref b), y2, y3, none, none, none]) ⟨Nat.zero_le _, s0, _, _, rfl⟩ (fun i σ H1 _ ⟨_, s, _⟩ => at_ s) (fun i w1 σ H1 T hi ⟨li, s, y2, y3, e⟩ hT => ?_) (fun σ H1 ⟨li, s, y2, y3, e⟩ => ?_)
    · subst e
      have ltw : i < ws.length := (List.getElem?_eq_some_iff.mp hi).1
      refine ⟨T, _, rfl, SqT.of upd_same, rfl, _, _, rfl, _, _, rfl, rfl, ?_⟩
      have s1 := s.trans (Same.new (o := .tup [.int (i : Nat), w1]) hT)
      generalize (upd H1 T (.tup [.int (i : Nat), w1])) = H2 at *
      obtain ⟨d1, hd1, _, pl1, _⟩ := hE w1 (List.mem_of_getElem? hi)
      refine ⟨_, rfl, by show 5 ≤ sizeLine; decide, fun t ht => ?_⟩
      have s2 := s1.trans (Same.new (o := .tup (WORDS.map V.str)) ht)
      have gt : upd H2 t (.tup (WORDS.map V.str)) t = some (.tup (WORDS.map V.str)) := upd_same
      refine ⟨d1, WORDS.map PyData.str, dp_same s2 hd1, .tup (SqT.of gt) (dpTxts _), pl1, rfl, rfl, ?_⟩
      have cut : ¬ (HT.sIx ws.length 0 none = 0 ∧ HT.sIx ws.length ws.length (some (i : Int)) = ws.length) := fun z => by
        have z2 := z.2
        rw [HT.sIx_nat] at z2
        omega
      have firsts : ∀ k, k ≤ us.length → ws.take k = (us.take k).map V.str := fun k hk => by
        rw [ews, List.take_append_of_le_length (by rw [List.length_map]; exact hk), List.map_take]
      by_cases lt : i < us.length
      · obtain ⟨z, hz, ez⟩ : ∃ z, us[i]? = some z ∧ w1 = .str z := by
          rw [ews, List.getElem?_append_left (by rw [List.length_map]; exact lt), List.getElem?_map] at hi
          obtain ⟨z, hz, e⟩ := Option.map_eq_some_iff.mp hi
          exact ⟨z, hz, e.symm⟩
        subst ez
        cases hd1
        rw [word_str, decide_eq_true (hw.1 z (List.mem_of_getElem? hz))]
        refine ⟨_, rfl, iteF ?_⟩
        refine ⟨_, rfl, _, rfl, _, rfl, _, rfl, a, ws, rfl, at_ s2, fun u hu => ?_⟩
        rw [cut_to, firsts i (by omega)]
        refine ⟨u, _, rfl, .inl (SqL.of upd_same), rfl, flat_txts _, ?_⟩
        rw [if_neg Bool.false_ne_true, in_txts]
        have no : z ∉ us.take i := hw.2 i z hz
        rw [decide_eq_false no]
        exact ⟨_, rfl, iteF ⟨lt, s2.trans (Same.new hu), _, _, rfl⟩⟩
      · obtain rfl : i = us.length := by omega
        rcases tail with ⟨v, l, er, bad, q2⟩ | ⟨er, _⟩
        · obtain rfl : v = w1 := by
            rw [ews, er, List.getElem?_append_right (by rw [List.length_map]; exact Nat.le_refl _), List.length_map, Nat.sub_self] at hi
            exact Option.some.inj hi
          rcases bad with ⟨z, rfl, bad⟩ | bad
          · cases hd1
            rw [word_str]
            by_cases m : z ∈ WORDS
            · rw [decide_eq_true m]
              refine ⟨_, rfl, iteF ?_⟩
              refine ⟨_, rfl, _, rfl, _, rfl, _, rfl, a, ws, rfl, at_ s2, fun u hu => ?_⟩
              rw [cut_to, firsts _ (Nat.le_refl _), List.take_length]
              refine ⟨u, _, rfl, .inl (SqL.of upd_same), rfl, flat_txts _, ?_⟩
              rw [if_neg Bool.false_ne_true, in_txts, decide_eq_true (bad.resolve_left (fun n => n m))]
              have s3 := s2.trans (Same.new (o := .lst (us.map V.str)) hu)
              exact ⟨_, rfl, iteT ⟨_, rfl, by show 2 ≤ sizeLine; decide, fun p hp => q2 p _ (s3.trans (Same.new hp)) upd_same⟩⟩
            · rw [decide_eq_false m]
              exact ⟨_, rfl, iteT (iteT ⟨_, rfl, by show 2 ≤ sizeLine; decide, fun p hp => q2 p _ (s2.trans (Same.new hp)) upd_same⟩)⟩
          · rw [word_no hd1 bad]
            exact ⟨_, rfl, iteT (iteT ⟨_, rfl, by show 2 ≤ sizeLine; decide, fun p hp => q2 p _ (s2.trans (Same.new hp)) upd_same⟩)⟩
        · rw [er, List.length_nil] at lenw
          omega
    · subst e
      rcases tail with ⟨v, l, er, _⟩ | ⟨er, pins⟩
      · rw [er, List.length_cons] at lenw
        omega
      obtain ⟨zs, rest2, eps, hn, tail2⟩ : ∃ zs rest2, ps = zs.map V.str ++ rest2 ∧ Nms zs ∧ ((∃ v l, rest2 = v :: l ∧ NoNm K H v ∧ ∀ p H', Same H H' → H' p = some (.tup [.str "name", v]) → Q (.ref p) H') ∨ (rest2 = [] ∧
          ((∃ i z, Rep zs i z ∧ ∀ p H', Same H H' → H' p = some (.tup [.str "twice", .str z]) → Q (.ref p) H') ∨ (NoRep zs ∧ ∀ q t p H', Same H H' → H' q = some (.tup ws) → H' t = some (.tup ps) → H' p = some (.tup [.str "told", .ref q, .ref t]) → Q (.ref p) H')))) := by
        rcases pins with ⟨zs, v, ⟨l, e, hn, bad⟩, q2⟩ | ⟨zs, e, hn, r⟩
        · exact ⟨zs, _, e, hn, .inl ⟨v, l, rfl, bad, q2⟩⟩
        · exact ⟨zs, [], by rw [List.append_nil]; exact e, hn, .inr ⟨rfl, r⟩⟩
      clear pins
      have lenp : ps.length = zs.length + rest2.length := by rw [eps, List.length_append, List.length_map]
      refine ⟨_, rfl, b, rfl, ⟨ps, bt_ s⟩, for_list (xs := ps) (fun i σ H1 => i ≤ zs.length ∧ Same H H1 ∧ ∃ y2 y3 y5, σ = [some (.ref a), some (.ref b), y2, y3, some (.str "abcdefghijklmnopqrstuvwxyz"), y5, none]) ⟨Nat.zero_le _, s, _, _, _, rfl⟩ (fun i σ H1 _ ⟨_, s, _⟩ => bt_ s) (fun i x σ H1 hi ⟨li, s, y2, y3, y5, e⟩ => ?_) (fun σ H1 ⟨li, s, y2, y3, y5, e⟩ => ?_)⟩
      · subst e
        have hx : (∃ z, x = .str z ∧ z.length ≤ 1000 ∧ okS z ∧ (nm z = true → i < zs.length) ∧ (nm z = false → ∀ p H', Same H H' → H' p = some (.tup [.str "name", .str z]) → Q (.ref p) H')) ∨ (NoStr K H x ∧ ∀ p H', Same H H' → H' p = some (.tup [.str "name", x]) → Q (.ref p) H') := by
          by_cases lt : i < zs.length
          · rw [eps, List.getElem?_append_left (by rw [List.length_map]; exact lt), List.getElem?_map] at hi
            obtain ⟨z, hz, rfl⟩ := Option.map_eq_some_iff.mp hi
            have mz := List.mem_of_getElem? hz
            exact .inl ⟨z, rfl, (hn z mz).1, hO z (by rw [eps]; exact List.mem_append_left _ (List.mem_map_of_mem mz)), fun _ => lt, fun e => by rw [(hn z mz).2] at e; cases e⟩
          · obtain rfl : i = zs.length := by omega
            rcases tail2 with ⟨v, l, er, bad, q2⟩ | ⟨er, _⟩
            · obtain rfl : v = x := by
                rw [eps, er, List.getElem?_append_right (by rw [List.length_map]; exact Nat.le_refl _), List.length_map, Nat.sub_self] at hi
                exact Option.some.inj hi
              rcases bad with ⟨z, rfl, lz2, bad⟩ | bad
              · exact .inl ⟨z, rfl, lz2, hO z (by rw [eps, er]; exact List.mem_append_right _ List.mem_cons_self), (fun e => by rw [bad] at e; cases e), fun _ => q2⟩
              · exact .inr ⟨bad, q2⟩
            · rw [er, List.length_nil] at lenp
              have := (List.getElem?_eq_some_iff.mp hi).1
              omega
        rcases hx with ⟨z, rfl, hz, ho, yes, no⟩ | ⟨bad, q2⟩
        · refine ⟨_, rfl, _, _, _, _, true, rfl, .ty "str", .base (.str z), kit_ty (by decide +kernel), true, rfl, iteF ?_⟩
          refine ⟨_, rfl, z, rfl, Nat.le_of_lt (small1000 hz), 1, _, rfl, rfl, _, rfl, ite2 (fun h1 => ?_) (fun h1 => ?_)⟩
          · have e1 := of_decide_eq_true h1
            refine ⟨_, 6, rfl, rfl, _, rfl, ite2 (fun h2 => ?_) (fun h2 => ?_)⟩
            · have e2 : ¬ (z.length ≤ 6) := fun h => by
                have h2 : (!decide ((z.length : Int) ≤ 6)) = true := h2
                rw [decide_eq_true (by omega)] at h2
                cases h2
              have e : nm z = false := by unfold nm; rw [decide_eq_false e2]; simp
              exact iteT ⟨_, rfl, by show 2 ≤ sizeLine; decide, fun p hp => no e p _ (s.trans (Same.new hp)) upd_same⟩
            · have e2 : z.length ≤ 6 := by
                by_cases h : (z.length : Int) ≤ 6
                · omega
                · exact absurd (by show (!decide ((z.length : Int) ≤ 6)) = true; rw [decide_eq_false h]; rfl) h2
              refine ⟨_, rfl, z, rfl, fun D hD => ?_⟩
              refine lcTxt (fun i H' => Same H1 H' ∧ ∃ l : List Nat, l = ((z.cps.toList.take i).filter fun ch => !lett ch) ∧ H' D = some (.lst (l.map fun ch => V.str (one ch)))) ?_ ?_ ?_
              · exact ⟨Same.new hD, [], rfl, upd_same⟩
              · intro j ch H' hc hP
                obtain ⟨s', l, hl, hD'⟩ := hP
                have hin : decide (ch ∈ (Str.ofString "abcdefghijklmnopqrstuvwxyz").cps.toList) = lett ch := by
                  rw [Bool.eq_iff_iff, decide_eq_true_eq]
                  exact letters_mem ch
                have ht : z.cps.toList.take (j + 1) = z.cps.toList.take j ++ [ch] := by
                  rw [List.take_succ, Array.getElem?_toList, hc]
                  rfl
                have hf : (z.cps.toList.take (j + 1)).filter (fun ch => !lett ch) = l ++ (if lett ch = true then [] else [ch]) := by
                  rw [ht, List.filter_append, hl, List.filter_cons, List.filter_nil]
                  cases lett ch <;> rfl
                refine ⟨rfl, _, rfl, _, rfl, ch, _, rfl, rfl, _, rfl, ?_⟩
                rw [hin]
                cases hlt : lett ch with
                | true =>
                  refine iteF ⟨s', l, ?_, hD'⟩
                  rw [hf, hlt]
                  simp
                | false =>
                  refine iteT ⟨_, rfl, _, hD', ?_, samePut s' hD, l ++ [ch], ?_, ?_⟩
                  · rw [List.length_map, hl]
                    refine Nat.lt_of_le_of_lt (List.length_filter_le _ _) (Nat.lt_of_le_of_lt (List.length_take_le' _ _) ?_)
                    rw [Array.length_toList]
                    exact Nat.lt_of_le_of_lt (show z.length ≤ 1000 from hz) (by decide)
                  · rw [hf, hlt]
                    simp
                  · rw [upd_same, List.map_append]
                    rfl
              · intro H' hP
                obtain ⟨s', l, hl, hD'⟩ := hP
                have hl : l = z.cps.toList.filter fun ch => !lett ch := by
                  rw [hl, ← Array.length_toList, List.take_length]
                refine ⟨by show 0 ≤ sizeLine; decide, fun r hr2 => ?_⟩
                refine ⟨_, _, .lst (SqL.of (by rw [upd_ne (ne_of_none hD' hr2)]; exact hD')) (dpOnes l), .lst (SqL.of upd_same) .nil, shapedOnes l (fun c hc => ho c (List.mem_filter.mp (hl ▸ hc)).1), by decide +kernel, _, rfl, ?_⟩
                rw [strEqv]
                have e : l.isEmpty = nm z := by
                  unfold nm
                  rw [decide_eq_true (by omega : 1 ≤ z.length), decide_eq_true e2, hl, Bool.eq_iff_iff, List.isEmpty_iff, List.filter_eq_nil_iff, Bool.true_and, Bool.true_and, List.all_eq_true]
                  simp
                rw [e]
                have s3 := s.trans (s'.trans (Same.new (o := .lst []) hr2))
                cases hnm : nm z with
                | true => exact iteF ⟨yes hnm, s3, _, _, _, rfl⟩
                | false => exact iteT ⟨_, rfl, by show 2 ≤ sizeLine; decide, fun p hp => no hnm p _ (s3.trans (Same.new hp)) upd_same⟩
          · have e1 : ¬ (1 ≤ z.length) := fun h => h1 (decide_eq_true (by omega))
            have e : nm z = false := by unfold nm; rw [decide_eq_false e1]; simp
            exact ⟨false, rfl, iteT (iteT ⟨_, rfl, by show 2 ≤ sizeLine; decide, fun p hp => no e p _ (s.trans (Same.new hp)) upd_same⟩)⟩
        · obtain ⟨t, ty, k⟩ := bad.same s
          exact ⟨_, rfl, _, _, _, _, false, rfl, .ty "str", ty, k, false, rfl, iteT (iteT ⟨_, rfl, by show 2 ≤ sizeLine; decide, fun p hp => q2 p _ (s.trans (Same.new hp)) upd_same⟩)⟩
      · subst e
        rcases tail2 with ⟨v, l, er, _⟩ | ⟨er, pins⟩
        · rw [er, List.length_cons] at lenp
          omega
        rw [er, List.append_nil] at eps
        refine ⟨_, rfl, b, ps, rfl, bt_ s, ?_⟩
        have lenz : ps.length = zs.length := by rw [eps, List.length_map]
        refine NEn.for_enl (xs := ps) (fun i σ H1 => (∀ j, j < i → ∀ y, zs[j]? = some y → y ∉ zs.take j) ∧ Same H H1 ∧ ∃ y2 y3 y5, σ = [some (.ref a), some (.ref b), y2, y3, some (.str "abcdefghijklmnopqrstuvwxyz"), y5, none]) ⟨nofun, s, _, _, _, rfl⟩ (fun i σ H1 _ ⟨_, s, _⟩ => bt_ s) (fun i x σ H1 T hi ⟨li, s, y2, y3, y5, e⟩ hT => ?_) (fun σ H1 ⟨li, s, y2, y3, y5, e⟩ => ?_)
        · subst e
          have ltp : i < ps.length := (List.getElem?_eq_some_iff.mp hi).1
          rw [eps, List.getElem?_map] at hi
          obtain ⟨z, hz, rfl⟩ := Option.map_eq_some_iff.mp hi
          refine ⟨T, _, rfl, SqT.of upd_same, rfl, _, _, rfl, _, _, rfl, rfl, ?_⟩
          have s1 := s.trans (Same.new (o := .tup [.int (i : Nat), .str z]) hT)
          generalize (upd H1 T (.tup [.int (i : Nat), .str z])) = H2 at *
          have cut : ¬ (HT.sIx ps.length 0 none = 0 ∧ HT.sIx ps.length ps.length (some (i : Int)) = ps.length) := fun z => by
            have z2 := z.2
            rw [HT.sIx_nat] at z2
            omega
          refine ⟨_, rfl, _, rfl, _, rfl, _, rfl, b, ps, rfl, bt_ s1, fun u hu => ?_⟩
          have e1 : cutV ps none (some (i : Int)) = (zs.take i).map V.str := by rw [cut_to, eps, List.map_take]
          rw [e1]
          refine ⟨u, _, rfl, .inl (SqL.of upd_same), rfl, flat_txts _, ?_⟩
          rw [if_neg Bool.false_ne_true, in_txts]
          have s3 := s1.trans (Same.new (o := .lst ((zs.take i).map V.str)) hu)
          by_cases m : z ∈ zs.take i
          · rw [decide_eq_true m]
            rcases pins with ⟨n, y, ⟨r1, r2, r3⟩, q2⟩ | ⟨nr, _⟩
            · have en : n = i := by
                rcases Nat.lt_trichotomy n i with h | h | h
                · exact absurd r2 (li n h y r1)
                · exact h
                · exact absurd m (r3 i h z hz)
              subst en
              rw [r1] at hz
              obtain rfl := Option.some.inj hz
              exact ⟨_, rfl, iteT ⟨_, rfl, by show 2 ≤ sizeLine; decide, fun p hp => q2 p _ (s3.trans (Same.new hp)) upd_same⟩⟩
            · exact absurd m (nr i z hz)
          · rw [decide_eq_false m]
            refine ⟨_, rfl, iteF ⟨fun j hj y hy => ?_, s3, _, _, _, rfl⟩⟩
            rcases Nat.lt_or_ge j i with h | h
            · exact li j h y hy
            · obtain rfl : j = i := by omega
              rw [hz] at hy
              obtain rfl := Option.some.inj hy
              exact m
        · subst e
          rcases pins with ⟨n, y, ⟨r1, r2, r3⟩, q2⟩ | ⟨nr, q2⟩
          · exact absurd r2 (li n (by have := (List.getElem?_eq_some_iff.mp r1).1; omega) y r1)
          refine ⟨_, rfl, a, ws, rfl, .inl ⟨at_ s, fun q hq => ?_⟩⟩
          have s1 := s.trans (Same.new (o := .tup ws) hq)
          refine ⟨_, rfl, b, ps, rfl, .inl ⟨bt_ s1, fun t ht => ?_⟩⟩
          have gq := (upd_ne (o := .tup ps) (ne_of_none (upd_same (o := .tup ws)) ht)).trans (upd_same (H := H1) (o := HO.tup ws) (a := q))
          have s2 := s1.trans (Same.new (o := .tup ps) ht)
          refine ⟨by show 3 ≤ sizeLine; decide, fun p hp => q2 q t p _ (s2.trans (Same.new hp)) ((upd_ne (ne_of_none gq hp)).trans gq) ((upd_ne (ne_of_none upd_same hp)).trans upd_same) upd_same⟩
end
end K71

set_option Elab.async false
set_option linter.all false
set_option maxRecDepth 100000
set_option maxHeartbeats 8000000
namespace K71
open PySem L2 NX NU LamX
abbrev sREq : Stmt := inClass (top 13) 4
abbrev sAlike : Stmt := top 22
abbrev NAlike : List Str := ["_law_words", "_law_tight", "_law_one", "_law_other"]
theorem scREq : FnScope ["self", "other"] ["self", "other"] (defScope sREq) := ⟨rfl, rfl, rfl, by decide +kernel, rfl, by decide +kernel, by decide +kernel⟩
theorem scAlike : FnScope NAlike ["_law_words", "_law_tight"] (defScope sAlike) := ⟨rfl, rfl, rfl, by decide +kernel, rfl, by decide +kernel, by decide +kernel⟩
theorem eqvTup : ∀ (us vs : List Str), PyData.eqv (.tuple (us.map PyData.str)) (.tuple (vs.map PyData.str)) = decide (us = vs)
  | [], [] => rfl
  | [], b :: vs => rfl
  | a :: us, [] => rfl
  | a :: us, b :: vs => by
    have h := eqvTup us vs
    have e : PyData.eqv (.tuple ((a :: us).map PyData.str)) (.tuple ((b :: vs).map PyData.str)) = ((a == b) && PyData.eqv (.tuple (us.map PyData.str)) (.tuple (vs.map PyData.str))) := rfl
    rw [e, h, Bool.eq_iff_iff, Bool.and_eq_true, beq_iff_eq, decide_eq_true_eq, decide_eq_true_eq, List.cons.injEq]
theorem nm_okS {z : Str} (h : nm z = true) : okS z := fun ch hc => by
  unfold nm at h
  rw [Bool.and_eq_true, Bool.and_eq_true, List.all_eq_true] at h
  have z := h.2.2 ch hc
  unfold lett at z
  rw [Bool.and_eq_true, decide_eq_true_eq, decide_eq_true_eq] at z
  omega
theorem strOk_of {a : Str} (h : okS a) : PyData.strOk a = true := by
  show a.cps.all (fun x => decide (x < 1114112)) = true
  rw [← Array.all_toList, List.all_eq_true]
  exact fun c hc => decide_eq_true (Nat.lt_trans (h c hc) (by decide))
theorem canTup : ∀ {us : List Str}, (∀ z ∈ us, nm z = true) → PyData.canLayAll0 (us.map PyData.str) = true
  | [], _ => rfl
  | a :: r, h => by
    have h1 := strOk_of (nm_okS (h a List.mem_cons_self))
    have h2 := canTup (us := r) fun z hz => h z (List.mem_cons_of_mem _ hz)
    show (PyData.strOk a && PyData.canLayAll0 (r.map PyData.str)) = true
    rw [h1, h2]
    rfl
theorem depTup : ∀ us : List Str, PyData.depthAll (us.map PyData.str) ≤ 1
  | [] => by decide
  | a :: r => by
    have h := depTup r
    show max _ _ ≤ 1
    exact Nat.max_le.mpr ⟨by show 0 ≤ 1; exact Nat.zero_le _, h⟩
theorem shapedTup {us : List Str} (h : ∀ z ∈ us, nm z = true) : SeqAt.shaped (.tuple (us.map PyData.str)) = true := by
  have h1 := canTup h
  have h2 := depTup us
  unfold SeqAt.shaped
  rw [Bool.and_eq_true, decide_eq_true_eq]
  refine ⟨h1, ?_⟩
  show _ + 1 ≤ 64
  omega
theorem words_nm : ∀ z ∈ WORDS, nm z = true := by
  intro z hz
  have h : WORDS.all nm = true := by decide +kernel
  exact List.all_eq_true.mp h z hz
theorem Wds.nm {us : List Str} (h : Wds us) : ∀ z ∈ us, nm z = true := fun z hz => words_nm z (h.1 z hz)
theorem cut_from (xs : List V) (k : Nat) : cutV xs (some (k : Int)) none = xs.drop k := by
  unfold cutV
  rw [HT.sIx_none, HT.sIx_nat, ← List.length_drop]
  by_cases h : k ≤ xs.length
  · rw [Nat.min_eq_left h, List.take_length]
  · rw [Nat.min_eq_right (by omega), List.drop_length, List.take_nil, List.drop_of_length_le (by omega)]
theorem noRep_iff {ws : List Str} : NoRep ws ↔ ws.Nodup := by
  constructor
  · intro h
    unfold List.Nodup
    rw [List.pairwise_iff_getElem]
    intro i j hi hj ij e
    exact h j ws[j] (List.getElem?_eq_getElem hj) (by rw [← e]; exact List.mem_take_iff_getElem.mpr ⟨i, by omega, rfl⟩)
  · intro h i z hz m
    unfold List.Nodup at h
    rw [List.pairwise_iff_getElem] at h
    obtain ⟨j, hj, e⟩ := List.mem_take_iff_getElem.mp m
    obtain ⟨hi, e2⟩ := List.getElem?_eq_some_iff.mp hz
    exact h j i (by omega) hi (by omega) (by rw [e, e2])
theorem Wds.rev {us : List Str} (h : Wds us) : Wds us.reverse := ⟨fun z hz => h.1 z (List.mem_reverse.mp hz), noRep_iff.mpr (List.pairwise_reverse.mpr ((noRep_iff.mp h.2).imp Ne.symm))⟩
theorem Wds.drop {us : List Str} (h : Wds us) (k : Nat) : Wds (us.drop k) := ⟨fun z hz => h.1 z (List.mem_of_mem_drop hz), noRep_iff.mpr ((noRep_iff.mp h.2).sublist (List.drop_sublist k us))⟩
theorem rev_ne {us : List Str} (h : NoRep us) (l : 1 < us.length) : us.reverse ≠ us := by
  intro e
  have n := noRep_iff.mp h
  unfold List.Nodup at n
  rw [List.pairwise_iff_getElem] at n
  have e0 : us.reverse[0]'(by rw [List.length_reverse]; omega) = us[0] := by simp only [e]
  rw [List.getElem_reverse] at e0
  exact n 0 (us.length - 1) (by omega) (by omega) (by omega) (by rw [← e0]; rfl)
theorem noRep_app {zs : List Str} {q : Str} (h : NoRep zs) (n : q ∉ zs) : NoRep (zs ++ [q]) := by
  rw [noRep_iff] at h ⊢
  rw [List.nodup_append]
  refine ⟨h, by simp, fun a ha b hb e => ?_⟩
  rw [List.mem_singleton.mp hb] at e
  exact n (e ▸ ha)
theorem IsRule.ext {K : PySem.W.Frag} {C : Addr} {H H' : Hp} {x : Addr} {ws ps : List V} (s : ExtN H H') (h : IsRule K C H x ws ps) : IsRule K C H' x ws ps := by
  obtain ⟨dx, q, t, a, b, c⟩ := h
  exact ⟨dx, q, t, s _ _ a (by intro p e; cases e), s _ _ b (by intro p e; cases e), NI.sqT_ext s c⟩
theorem IsRule.same {K : PySem.W.Frag} {C : Addr} {H H' : Hp} {x : Addr} {ws ps : List V} (s : Same H H') (h : IsRule K C H x ws ps) : IsRule K C H' x ws ps := h.ext (ExtN.of s)
/-- what the class of rules says of its equality -/
structure RTy (K : PySem.W.Frag) (C fEq : Addr) : Prop where
  e : NX.EqC K C fEq
  sp : PySem.W.specialIn K (.builtin "object.__class__") "__get__" = some (some (.builtin "getset_descriptor.__get__"))
  tk : PySem.W.takesIn K (.builtin "object.__class__") = some true
  cl : PySem.W.findIn K (.ref C) "__class__" = some (some (.builtin "object.__class__"))
  kc : PySem.W.kitOne K (.ref C) (.ref C) = some true
  kl : PySem.W.kitOne K (.type "list") (.ref C) = some false
  kt : PySem.W.kitOne K (.type "tuple") (.ref C) = some false
  nc : PySem.W.notFirst K C (.ref C) = true
  nl : PySem.W.notFirst K C (.type "list") = true
  nt : PySem.W.notFirst K C (.type "tuple") = true
theorem RTy.ty {K : PySem.W.Frag} {C fEq : Addr} (t : RTy K C fEq) {H : Hp} {x : Addr} {ws ps : List V} (h : IsRule K C H x ws ps) : TyX K H (.ref x) (.ref C) := by
  obtain ⟨dx, p, q, h1, h2, h3⟩ := h
  exact .base (.ins h1 t.e.cl t.cl t.sp t.tk t.e.ob)
/-- two rules, or a rule and something else -/
def spREq (K : PySem.W.Frag) (C : Addr) : Sp := fun vs H Q _ => ∃ (x : Addr) (us zs : List Str) (y : V), vs = [.ref x, y] ∧ IsRule K C H x (us.map V.str) (zs.map V.str) ∧ (∀ z ∈ us, nm z = true) ∧ (∀ z ∈ zs, nm z = true) ∧
  ((∃ x2 us2 zs2, y = .ref x2 ∧ IsRule K C H x2 (us2.map V.str) (zs2.map V.str) ∧ (∀ z ∈ us2, nm z = true) ∧ (∀ z ∈ zs2, nm z = true) ∧ Q (.bl (decide (us = us2) && decide (zs = zs2))) H) ∨ (∃ t, TyX K H y t ∧ PySem.W.kitOne K t (.ref C) = some false ∧ Q (.bl false) H))
theorem eq_rr {K : PySem.W.Frag} {C fEq : Addr} {neg : Bool} {H : Hp} {x y : Addr} {us zs us2 zs2 : List Str} {Q : VK} {E : XK} (t : RTy K C fEq) (h1 : IsRule K C H x (us.map V.str) (zs.map V.str)) (h2 : IsRule K C H y (us2.map V.str) (zs2.map V.str)) (n1 : ∀ z ∈ us, nm z = true) (n2 : ∀ z ∈ zs, nm z = true) (n3 : ∀ z ∈ us2, nm z = true) (n4 : ∀ z ∈ zs2, nm z = true)
    {v : Bool} (e : (if neg then !(decide (us = us2) && decide (zs = zs2)) else (decide (us = us2) && decide (zs = zs2))) = v) (k : Q (.bl v) H) : NX.rOwn K fEq (spREq K C) E neg (.ref x) (.ref y) H Q := by
  subst e
  obtain ⟨dx, q, p, a, _⟩ := id h1
  exact ⟨x, C, dx, _, .ref C, rfl, a, t.e, t.nc, t.ty h2, x, us, zs, .ref y, rfl, h1, n1, n2, .inl ⟨y, us2, zs2, rfl, h2, n3, n4, _, rfl, k⟩⟩
theorem eq_ro {K : PySem.W.Frag} {C fEq : Addr} {H : Hp} {x : Addr} {y : V} {us zs : List Str} {Q : VK} {E : XK} (t : RTy K C fEq) (h1 : IsRule K C H x (us.map V.str) (zs.map V.str)) (n1 : ∀ z ∈ us, nm z = true) (n2 : ∀ z ∈ zs, nm z = true)
    (h2 : TyX K H y (.type "list") ∨ TyX K H y (.type "tuple")) (k : Q (.bl false) H) : NX.rOwn K fEq (spREq K C) E false (.ref x) y H Q := by
  obtain ⟨dx, q, p, a, _⟩ := id h1
  rcases h2 with h2 | h2
  · exact ⟨x, C, dx, _, .type "list", rfl, a, t.e, t.nl, h2, x, us, zs, y, rfl, h1, n1, n2, .inr ⟨_, h2, t.kl, _, rfl, k⟩⟩
  · exact ⟨x, C, dx, _, .type "tuple", rfl, a, t.e, t.nt, h2, x, us, zs, y, rfl, h1, n1, n2, .inr ⟨_, h2, t.kt, _, rfl, k⟩⟩
section
variable {P : Program} {w : World} {K : PySem.W.Frag} {mg : Str → Option Value} {base : Heap}
theorem ok_req {C fEq TW : Addr} {f : Addr} {fd : FuncData} (F : Fun K "__eq__" "Rule.__eq__" sREq f fd) (T : TxtB mg) (k : RCls K C TW) (t : RTy K C fEq) (gD : mg "Rule" = some (.ref C)) : FnOk P w K mg base CX0 1 f fd ["self", "other"] (spREq K C) := by
  refine F.ok scREq (fun vs H Q E h => ?_) (fun cdv A outer s H vs Q E hr h => ?_)
  · obtain ⟨x, us, zs, y, rfl, _⟩ := h
    rfl
  · obtain ⟨x, us, zs, y, rfl, hD, n1, n2, h⟩ := h
    obtain ⟨dx, p, r, g1, g2, g3⟩ := id hD
    refine ⟨_, (pss_one (ps_ret (pe_and (pe_callB call_isi (by rfl) T.bisinstance (by decide +kernel) (pa_cons (pv 1) (pa_cons (C8.pe_gc (v := .ref C) rfl ⟨_, gD, rfl⟩) pa_nil))) (pe_and (pe_cmpR (op_eqD hr.units) (pe_fld (pv 0) rfl) (pe_fld (pv 1) rfl) (nomark _)) (pe_one (pe_cmpR (op_eqD hr.units) (pe_fld (pv 0) rfl) (pe_fld (pv 1) rfl) (nomark _))))))), ?_⟩
    rcases h with ⟨x2, us2, zs2, rfl, hD2, n3, n4, q⟩ | ⟨ty, hty, kt, q⟩
    · obtain ⟨dx2, p2, r2, f1, f2, f3⟩ := id hD2
      refine ⟨_, rfl, _, _, _, _, true, rfl, .own C, t.ty hD2, t.kc, true, rfl, iteT ?_⟩
      refine ⟨_, rfl, x, _, dx, _, _, rfl, g1, k.cl, k.nw, rfl, _, rfl, x2, _, dx2, _, _, rfl, f1, k.cl, k.nw, rfl, _, _, .tup (SqT.of g2) (dpTxts us), .tup (SqT.of f2) (dpTxts us2), shapedTup n1, shapedTup n3, ?_⟩
      rw [eqvTup]
      refine ⟨_, rfl, ite2 (fun h1 => ?_) (fun h1 => ?_)⟩
      · refine ⟨_, rfl, x, _, dx, _, _, rfl, g1, k.cl, k.np, rfl, _, rfl, x2, _, dx2, _, _, rfl, f1, k.cl, k.np, rfl, _, _, .tup g3 (dpTxts zs), .tup f3 (dpTxts zs2), shapedTup n2, shapedTup n4, ?_⟩
        rw [eqvTup]
        rw [h1, Bool.true_and] at q
        exact q
      · rw [Bool.eq_false_iff.mpr h1] at q
        exact q
    · exact ⟨_, rfl, _, _, _, _, false, rfl, .own C, hty, kt, false, rfl, iteF q⟩
/-- made is called where all is well -/
theorem made_of {c : C3} {C TW : Addr} {TT : List (Addr × Str)} {H : Hp} {a b : Addr} {us zs : List Str} {Q : VK} {E : XK} (ha : SqL K H a (us.map V.str)) (hb : NI.Sq K H b (zs.map V.str)) (few : us.length ≤ 6) (fewp : zs.length ≤ 60) (ne : us ≠ []) (hw : Wds us) (hn : Nms zs) (nr : NoRep zs) (hT : Tabs TT H)
    (k : ∀ x H', ExtN H H' → Tabs TT H' → IsRule K C H' x (us.map V.str) (zs.map V.str) → Q (.ref x) H') : spMade K c C TW TT [.ref a, .ref b] H Q E :=
  ⟨a, b, _, _, none, rfl, ha, hb, by rw [List.length_map]; exact few, by rw [List.length_map]; exact fewp, .ok rfl ne hw rfl hn nr, hT, k⟩
def spAlike (K : PySem.W.Frag) (TT : List (Addr × Str)) : Sp := fun vs H Q _ => ∃ (a b : Addr) (us zs : List Str), vs = [.ref a, .ref b] ∧ H a = some (.lst (us.map V.str)) ∧ SqL K H b (zs.map V.str) ∧ us ≠ [] ∧ us.length ≤ 6 ∧ Wds us ∧ zs.length ≤ 20 ∧ Nms zs ∧ NoRep zs ∧ ("q" : Str) ∉ zs ∧ Tabs TT H ∧
  ∀ H', ExtN H H' → Tabs TT H' → Q (.bl true) H'
theorem ok_alike {c : C3} {C TW fM fEq f : Addr} {TT : List (Addr × Str)} {fd fdM fdE : FuncData} (F : Fun K "_law_alike_right" "_law_alike_right" sAlike f fd) (T : TxtB mg) (t : RTy K C fEq)
    (FEq : FnOk P w K mg base CX0 1 fEq fdE ["self", "other"] (spREq K C)) (hbE : Binds K fdE ["self", "other"] [])
    (FM : FnOk P w K mg base (L2.CX P w) 7 fM fdM ["_law_words", "_law_tight"] (spMade K c C TW TT)) (gM : mg "_law_made" = some (.ref fM)) (kM : PySem.W.keepIn K (.ref fM) = true) (hbM : Binds K fdM ["_law_words", "_law_tight"] []) :
    FnOk P w K mg base CX0 8 f fd ["_law_words", "_law_tight"] (spAlike K TT) := by
  refine F.ok scAlike (fun vs H Q E h => ?_) (fun cdv A outer s H vs Q E hr h => ?_)
  · obtain ⟨a, b, us, zs, rfl, _⟩ := h
    rfl
  · obtain ⟨a, b, us, zs, rfl, ha, hb, ne, few, hw, fewp, hn, nr, nq, hT, k⟩ := h
    have r7 : Room 7 _ := hr.mono (by decide)
    have r2 : Room 2 _ := hr.mono (by decide)
    have r1 : Room 1 _ := hr.mono (by decide)
    refine ⟨_, (pss_cons (ps_par (i := 2) (j := 3) rfl scAlike.nd rfl rfl (by decide) rfl rfl (pa_cons (pe_callS (CX := L2.CX P w) (E := fun _ => L2.E0) FM r7 rfl gM kM hbM (fun σ pins H s e s' I h => passL pins σ H s e s' I h) (pa_cons (pv 0) (pa_cons (pv 1) pa_nil)))
          (pa_cons (pe_callS (CX := L2.CX P w) (E := fun _ => L2.E0) FM r7 rfl gM kM hbM (fun σ pins H s e s' I h => passL pins σ H s e s' I h) (pa_cons (pv 0) (pa_cons (pe_callTy call_tuple_of (by rfl) T.btuple (by decide +kernel) (pa_cons (pv 1) pa_nil)) pa_nil))) pa_nil)) (by rfl))
      (pss_cons (ps_if (PW.pt (pw_or (pt_cmpR (op_neOwn FEq hbE pass0 r2) (pv 2) (pv 3) (nomark _)) (pw_or (pt_cmpR (op_eqOwn FEq hbE pass0 r1) (pv 2) (pv 0) (nomark _))
          (pw_or (pt_cmpR (op_eqOwn FEq hbE pass0 r1) (pv 2) (pe_callTy call_tuple_of (by rfl) T.btuple (by decide +kernel) (pa_cons (pv 0) pa_nil)) (nomark _)) (pw_or1 (pt_not (pt_cmpR (op_eqOwn FEq hbE pass0 r1) (pv 2) (pv 3) (nomark _)))))))) (pss_one (ps_ret pe_bl)) pss_nil)
      (pss_cons (ps_if (PW.pt (pw_and (pt_cmpR op_gt (pe_callB call_len_seq (by rfl) T.blen (by decide +kernel) (pa_cons (pv 0) pa_nil)) pe_int (nomark _)) (pw_and1 (pt_cmpR (op_eqOwn FEq hbE pass0 r1) (pe_callS (CX := L2.CX P w) (E := fun _ => L2.E0) FM r7 rfl gM kM hbM (fun σ pins H s e s' I h => passL pins σ H s e s' I h) (pa_cons (pe_revL (pv 0)) (pa_cons (pv 1) pa_nil))) (pv 2) (nomark _))))) (pss_one (ps_ret pe_bl)) pss_nil)
      (pss_one (ps_ret (pe_and (pe_cmpR (op_neOwn FEq hbE pass0 r2) (pe_callS (CX := L2.CX P w) (E := fun _ => L2.E0) FM r7 rfl gM kM hbM (fun σ pins H s e s' I h => passL pins σ H s e s' I h) (pa_cons (pv 0) (pa_cons (pe_op op_cat (pe_callTy call_list_of (by rfl) T.blist (by decide +kernel) (pa_cons (pv 1) pa_nil)) (pe_lst (pa_cons pe_str pa_nil))) pa_nil))) (pv 2) (nomark _))
        (pe_one (pe_or (pe_cmpR op_eq (pe_callB call_len_seq (by rfl) T.blen (by decide +kernel) (pa_cons (pv 0) pa_nil)) pe_int (nomark _)) (pe_one (pe_cmpR (op_neOwn FEq hbE pass0 r2) (pe_callS (CX := L2.CX P w) (E := fun _ => L2.E0) FM r7 rfl gM kM hbM (fun σ pins H s e s' I h => passL pins σ H s e s' I h) (pa_cons (pe_slice sl_list (pv 0) (po_some pe_int) po_none) (pa_cons (pv 1) pa_nil))) (pv 2) (nomark _))))))))))), ?_⟩
    have nw := hw.nm
    have nz : ∀ z ∈ zs, nm z = true := fun z hz => (hn z hz).2
    have lz : 60 ≤ sizeLine := by decide
    have tuptop : ∀ {H : Hp} {p : Addr} {xs : List V}, H p = some (.tup xs) → TyX K H (.ref p) (.type "tuple") := fun h => .base (.tup h)
    have sameT : ∀ {l m : List Str} {g : Bool}, (if g then !(decide (l = l) && decide (m = m)) else (decide (l = l) && decide (m = m))) = !g := by
      intro l m g
      cases g <;> simp
    have up : ∀ {H1 : Hp}, ExtN H H1 → H1 a = some (.lst (us.map V.str)) := fun e => e _ _ ha (by intro p e; cases e)
    have lty : ∀ {H1 : Hp}, ExtN H H1 → TyX K H1 (.ref a) (.type "list") := fun e => .base (.lst (up e))
    refine ⟨_, rfl, _, rfl, made_of (c := c) (TW := TW) (SqL.of ha) (.inl hb) few (by omega) ne hw hn nr hT fun x1 H1 e1 t1 R1 => ?_⟩
    have hb1 := NI.sqL_ext e1 hb
    refine ⟨_, rfl, _, rfl, b, _, rfl, .inl ⟨hb1, fun q hq => ?_⟩⟩
    have s2 : Same H1 (upd H1 q (.tup (zs.map V.str))) := Same.new hq
    have gq : upd H1 q (.tup (zs.map V.str)) q = some (.tup (zs.map V.str)) := upd_same
    generalize (upd H1 q (.tup (zs.map V.str))) = H2 at *
    have x2 := e1.trans (ExtN.of s2)
    refine made_of (c := c) (TW := TW) (SqL.of (up x2)) (.inr (SqT.of gq)) few (by omega) ne hw hn nr (t1.ext s2) fun y1 H3 e3 t3 R2 => ?_
    have x3 := x2.trans e3
    have R1 := (R1.same s2).ext e3
    have hb3 := NI.sqL_ext x3 hb
    refine ⟨_, _, rfl, ?_⟩
    refine ⟨_, rfl, _, rfl, eq_rr (neg := true) t R1 R2 nw nz nw nz sameT ⟨_, rfl, iteF ?_⟩⟩
    refine ⟨_, rfl, _, rfl, eq_ro t R1 nw nz (.inl (lty x3)) ⟨_, rfl, iteF ?_⟩⟩
    refine ⟨_, rfl, _, rfl, a, _, rfl, .inl ⟨SqL.of (up x3), fun r hr => ?_⟩⟩
    have s4 : Same H3 (upd H3 r (.tup (us.map V.str))) := Same.new hr
    have gr : upd H3 r (.tup (us.map V.str)) r = some (.tup (us.map V.str)) := upd_same
    generalize (upd H3 r (.tup (us.map V.str))) = H4 at *
    have x4 := x3.trans (ExtN.of s4)
    have R1 := R1.same s4
    have R2 := R2.same s4
    have t4 := t3.ext s4
    have hb4 := NI.sqL_ext x4 hb
    refine eq_ro t R1 nw nz (.inr (tuptop gr)) ⟨_, rfl, iteF ?_⟩
    refine ⟨_, rfl, _, rfl, eq_rr (neg := false) t R1 R2 nw nz nw nz sameT ⟨_, rfl, iteF ?_⟩⟩
    refine ⟨_, rfl, a, _, rfl, .inl (SqL.of (up x4)), _, _, rfl, rfl, _, rfl, ?_⟩
    rw [List.length_map]
    have mapq : zs.map V.str ++ [V.str (Str.ofString "q")] = (zs ++ [("q" : Str)]).map V.str := by rw [List.map_append]; rfl
    have nmq : Nms (zs ++ [("q" : Str)]) := fun z hz => by
      rcases List.mem_append.mp hz with h | h
      · exact hn z h
      · rw [List.mem_singleton.mp h]
        exact ⟨by decide +kernel, by decide +kernel⟩
    have appne : ¬ (zs ++ [("q" : Str)] = zs) := fun e => by
      have q := congrArg List.length e
      rw [List.length_append] at q
      simp at q
    have cutd : cutV (us.map V.str) (some 1) none = (us.drop 1).map V.str := by
      rw [List.map_drop]
      exact cut_from _ 1
    have long : ¬ (V.int ((us.map V.str).length : Nat) = V.int 1) → 1 < us.length := fun h => by
      have l0 : us.length ≠ 0 := fun e => ne (List.length_eq_zero_iff.mp e)
      have l1 : us.length ≠ 1 := fun e => h (by rw [List.length_map, e]; rfl)
      omega
    refine ite2 (fun h1 => ?_) (fun h1 => ?_)
    · have many : 1 < us.length := by have := of_decide_eq_true h1; omega
      refine ⟨_, rfl, a, _, rfl, SqL.of (up x4), fun p hp => ?_⟩
      rw [← List.map_reverse]
      have s5 : Same H4 (upd H4 p (.lst (us.reverse.map V.str))) := Same.new hp
      have gp : upd H4 p (.lst (us.reverse.map V.str)) p = some (.lst (us.reverse.map V.str)) := upd_same
      generalize (upd H4 p (.lst (us.reverse.map V.str))) = H5 at *
      have x5 := x4.trans (ExtN.of s5)
      refine ⟨_, rfl, made_of (c := c) (TW := TW) (SqL.of gp) (.inl (NI.sqL_ext x5 hb)) (by rw [List.length_reverse]; exact few) (by omega) (fun e => ne (List.reverse_eq_nil_iff.mp e)) hw.rev hn nr (t4.ext s5) fun w1 HH eH TTX Rw => ?_⟩
      have XX := x5.trans eH
      have RX := (R1.same s5).ext eH
      refine ⟨_, rfl, eq_rr (neg := false) t Rw RX hw.rev.nm nz nw nz (v := false) (by rw [decide_eq_false (rev_ne hw.2 many), Bool.false_and]; rfl) ⟨_, rfl, iteF ?_⟩⟩
      refine ⟨_, rfl, _, rfl, b, _, rfl, .inl (NI.sqL_ext XX hb), fun l1 n1 => ?_⟩
      have s6 : Same HH (upd HH l1 (.lst (zs.map V.str))) := Same.new n1
      have g1 : upd HH l1 (.lst (zs.map V.str)) l1 = some (.lst (zs.map V.str)) := upd_same
      generalize (upd HH l1 (.lst (zs.map V.str))) = H6 at *
      refine ⟨by show 1 ≤ sizeLine; decide, fun l2 n2 => ?_⟩
      have s7 : Same H6 (upd H6 l2 (.lst [.str (Str.ofString "q")])) := Same.new n2
      have g12 := s7 _ _ g1
      have g2 : upd H6 l2 (.lst [.str (Str.ofString "q")]) l2 = some (.lst [.str (Str.ofString "q")]) := upd_same
      generalize (upd H6 l2 (.lst [.str (Str.ofString "q")])) = H7 at *
      refine ⟨l1, l2, zs.map V.str, [.str (Str.ofString "q")], rfl, rfl, g12, g2, by rw [List.length_map]; show zs.length + 1 ≤ sizeLine; omega, fun l3 n3 => ?_⟩
      rw [mapq]
      have s8 : Same H7 (upd H7 l3 (.lst ((zs ++ [("q" : Str)]).map V.str))) := Same.new n3
      have g3 : upd H7 l3 (.lst ((zs ++ [("q" : Str)]).map V.str)) l3 = some (.lst ((zs ++ [("q" : Str)]).map V.str)) := upd_same
      generalize (upd H7 l3 (.lst ((zs ++ [("q" : Str)]).map V.str))) = H8 at *
      have s68 := (s6.trans s7).trans s8
      have x8 := XX.trans (ExtN.of s68)
      refine made_of (c := c) (TW := TW) (SqL.of (up x8)) (.inl (SqL.of g3)) few (by rw [List.length_append]; show zs.length + 1 ≤ 60; omega) ne hw nmq (noRep_app nr nq) (TTX.ext s68) fun v1 H9 e9 t9 R9 => ?_
      have R1b := (RX.same s68).ext e9
      have x9 := x8.trans e9
      refine ⟨_, rfl, eq_rr (neg := true) t R9 R1b nw (fun z hz => (nmq z hz).2) nw nz (v := true) (by rw [decide_eq_false appne, Bool.and_false]; rfl) ⟨_, rfl, iteT ?_⟩⟩
      refine ⟨_, rfl, a, _, rfl, .inl (SqL.of (up x9)), rfl, _, rfl, ite2 (fun h2 => ?_) (fun h2 => ?_)⟩
      · exact k _ x9 t9
      · refine ⟨_, rfl, _, rfl, a, _, rfl, SqL.of (up x9), fun l5 n5 => ?_⟩
        rw [cutd]
        have s10 : Same H9 (upd H9 l5 (.lst ((us.drop 1).map V.str))) := Same.new n5
        have g5 : upd H9 l5 (.lst ((us.drop 1).map V.str)) l5 = some (.lst ((us.drop 1).map V.str)) := upd_same
        generalize (upd H9 l5 (.lst ((us.drop 1).map V.str))) = H10 at *
        have x10 := x9.trans (ExtN.of s10)
        have l2 := long (fun e => h2 (decide_eq_true e))
        have dl : (us.drop 1).length = us.length - 1 := List.length_drop
        refine ⟨_, rfl, made_of (c := c) (TW := TW) (SqL.of g5) (.inl (NI.sqL_ext x10 hb)) (by omega) (by omega) (fun e => by rw [e] at dl; simp at dl; omega) (hw.drop 1) hn nr (t9.ext s10) fun u1 H11 e11 t11 R11 => ?_⟩
        have R1c := (R1b.same s10).ext e11
        exact ⟨_, rfl, eq_rr (neg := true) t R11 R1c (hw.drop 1).nm nz nw nz (v := true) (by rw [decide_eq_false (fun e : us.drop 1 = us => by rw [e] at dl; omega), Bool.false_and]; rfl) (k _ (x10.trans e11) t11)⟩
    · obtain ⟨HH, eHH⟩ : ∃ HH, HH = H4 := ⟨_, rfl⟩
      rw [← eHH] at x4 t4 R1 ⊢
      have XX := x4
      have TTX := t4
      have RX := R1
      refine ⟨_, rfl, _, rfl, b, _, rfl, .inl (NI.sqL_ext XX hb), fun l1 n1 => ?_⟩
      have s6 : Same HH (upd HH l1 (.lst (zs.map V.str))) := Same.new n1
      have g1 : upd HH l1 (.lst (zs.map V.str)) l1 = some (.lst (zs.map V.str)) := upd_same
      generalize (upd HH l1 (.lst (zs.map V.str))) = H6 at *
      refine ⟨by show 1 ≤ sizeLine; decide, fun l2 n2 => ?_⟩
      have s7 : Same H6 (upd H6 l2 (.lst [.str (Str.ofString "q")])) := Same.new n2
      have g12 := s7 _ _ g1
      have g2 : upd H6 l2 (.lst [.str (Str.ofString "q")]) l2 = some (.lst [.str (Str.ofString "q")]) := upd_same
      generalize (upd H6 l2 (.lst [.str (Str.ofString "q")])) = H7 at *
      refine ⟨l1, l2, zs.map V.str, [.str (Str.ofString "q")], rfl, rfl, g12, g2, by rw [List.length_map]; show zs.length + 1 ≤ sizeLine; omega, fun l3 n3 => ?_⟩
      rw [mapq]
      have s8 : Same H7 (upd H7 l3 (.lst ((zs ++ [("q" : Str)]).map V.str))) := Same.new n3
      have g3 : upd H7 l3 (.lst ((zs ++ [("q" : Str)]).map V.str)) l3 = some (.lst ((zs ++ [("q" : Str)]).map V.str)) := upd_same
      generalize (upd H7 l3 (.lst ((zs ++ [("q" : Str)]).map V.str))) = H8 at *
      have s68 := (s6.trans s7).trans s8
      have x8 := XX.trans (ExtN.of s68)
      refine made_of (c := c) (TW := TW) (SqL.of (up x8)) (.inl (SqL.of g3)) few (by rw [List.length_append]; show zs.length + 1 ≤ 60; omega) ne hw nmq (noRep_app nr nq) (TTX.ext s68) fun v1 H9 e9 t9 R9 => ?_
      have R1b := (RX.same s68).ext e9
      have x9 := x8.trans e9
      refine ⟨_, rfl, eq_rr (neg := true) t R9 R1b nw (fun z hz => (nmq z hz).2) nw nz (v := true) (by rw [decide_eq_false appne, Bool.and_false]; rfl) ⟨_, rfl, iteT ?_⟩⟩
      refine ⟨_, rfl, a, _, rfl, .inl (SqL.of (up x9)), rfl, _, rfl, ite2 (fun h2 => ?_) (fun h2 => ?_)⟩
      · exact k _ x9 t9
      · refine ⟨_, rfl, _, rfl, a, _, rfl, SqL.of (up x9), fun l5 n5 => ?_⟩
        rw [cutd]
        have s10 : Same H9 (upd H9 l5 (.lst ((us.drop 1).map V.str))) := Same.new n5
        have g5 : upd H9 l5 (.lst ((us.drop 1).map V.str)) l5 = some (.lst ((us.drop 1).map V.str)) := upd_same
        generalize (upd H9 l5 (.lst ((us.drop 1).map V.str))) = H10 at *
        have x10 := x9.trans (ExtN.of s10)
        have l2 := long (fun e => h2 (decide_eq_true e))
        have dl : (us.drop 1).length = us.length - 1 := List.length_drop
        refine ⟨_, rfl, made_of (c := c) (TW := TW) (SqL.of g5) (.inl (NI.sqL_ext x10 hb)) (by omega) (by omega) (fun e => by rw [e] at dl; simp at dl; omega) (hw.drop 1) hn nr (t9.ext s10) fun u1 H11 e11 t11 R11 => ?_⟩
        have R1c := (R1b.same s10).ext e11
        exact ⟨_, rfl, eq_rr (neg := true) t R11 R1c (hw.drop 1).nm nz nw nz (v := true) (by rw [decide_eq_false (fun e : us.drop 1 = us => by rw [e] at dl; omega), Bool.false_and]; rfl) (k _ (x10.trans e11) t11)⟩
end
end K71

set_option Elab.async false
set_option linter.all false
set_option maxRecDepth 100000
set_option maxHeartbeats 4000000
/-! The text that repr tells of made data of any kind; what is kept of data while objects are made and tables grow. -/
namespace NX
open PySem PySem.Spec PyProof.Rows L2 LamX
section
variable {X : Cx}
/-- repr(x), x any made data -/
def rReprD (K : PySem.W.Frag) : List V → Hp → VK → Prop := fun xs H Q => ∃ (v : V) (d : PyData), xs = [v] ∧ Dr K H v d ∧ d.showable = true ∧ d.depth ≤ 50 ∧ d.shown.length ≤ sizeLine ∧ (∀ i, d = .int i → i.natAbs.log2 < 1920) ∧ Q (.str d.shown) H
theorem call_reprD (hg : X.A.guards = some []) (hu : X.A.units + 64 < cLine) (S : SysB X.base) : CallR X (.builtin "repr") (rReprD X.K) := by
  intro pins s σ H xs us Q I r h
  obtain ⟨v, d, rfl, hd, hs, hdp, hl, hi, q⟩ := h
  cases hd with
  | non =>
    cases r with
    | cons r1 r2 =>
      cases r2
      cases r1
      exact PySem.P.repr_of_none ⟨.str _, H, I.tok _, ⟨_, rfl⟩, q⟩
  | bl b =>
    cases r with
    | cons r1 r2 =>
      cases r2
      cases r1
      exact PySem.P.repr_of_bool ⟨.str _, H, I.tok _, ⟨_, rfl⟩, q⟩
  | int i =>
    cases r with
    | cons r1 r2 =>
      cases r2
      obtain ⟨t, rfl⟩ := r1
      exact PySem.P.repr_of_int (hi i rfl) ⟨.str _, H, I.tok _, ⟨_, rfl⟩, q⟩
  | str x =>
    cases r with
    | cons r1 r2 =>
      cases r2
      obtain ⟨t, rfl⟩ := r1
      exact PySem.P.repr_of_str ⟨.str _, H, I.tok _, ⟨_, rfl⟩, q⟩ hl
  | lst a b => exact call_repr hg hu S pins s σ H _ us Q I r ⟨_, _, rfl, .lst a b, hs, hdp, hl, q⟩
  | tup a b => exact call_repr hg hu S pins s σ H _ us Q I r ⟨_, _, rfl, .tup a b, hs, hdp, hl, q⟩
  | dct a b => exact call_repr hg hu S pins s σ H _ us Q I r ⟨_, _, rfl, .dct a b, hs, hdp, hl, q⟩
end
theorem seqL_keep {K : PySem.W.Frag} {H H' : Hp} {a : Addr} {xs : List V} (k : ∀ o, H a = some o → (∀ ps, o ≠ .tbl ps) → H' a = some o) (h : SqL K H a xs) : SqL K H' a xs := by
  rcases h with (h | ⟨o, h⟩) | h
  · exact .inl (.inl (k _ h (by intro p e; cases e)))
  · exact .inl (.inr ⟨o, k _ h (by intro p e; cases e)⟩)
  · exact .inr h
theorem seqT_keep {K : PySem.W.Frag} {H H' : Hp} {a : Addr} {xs : List V} (k : ∀ o, H a = some o → (∀ ps, o ≠ .tbl ps) → H' a = some o) (h : SqT K H a xs) : SqT K H' a xs := by
  rcases h with (h | ⟨o, h⟩) | h
  · exact .inl (.inl (k _ h (by intro p e; cases e)))
  · exact .inl (.inr ⟨o, k _ h (by intro p e; cases e)⟩)
  · exact .inr h
mutual
theorem Dr.extN {K : PySem.W.Frag} {H H' : Hp} (s : ExtN H H') : ∀ {v : V} {d : PyData}, Dr K H v d → Dr K H' v d
  | _, _, .non => .non
  | _, _, .bl b => .bl b
  | _, _, .int i => .int i
  | _, _, .str x => .str x
  | _, _, .lst a b => .lst (seqL_keep (s _) a) (DrAll.extN s b)
  | _, _, .tup a b => .tup (seqT_keep (s _) a) (DrAll.extN s b)
  | _, _, .dct a b => .dct (s _ _ a (by intro p e; cases e)) (DrAll.extN s b)
theorem DrAll.extN {K : PySem.W.Frag} {H H' : Hp} (s : ExtN H H') : ∀ {v : List V} {d : List PyData}, DrAll K H v d → DrAll K H' v d
  | _, _, .nil => .nil
  | _, _, .cons a b => .cons (Dr.extN s a) (DrAll.extN s b)
end
/-- data whose text is short -/
def SmD (K : PySem.W.Frag) (H : Hp) (v : V) (d : PyData) : Prop := Dr K H v d ∧ d.showable = true ∧ d.depth ≤ 3 ∧ d.shown.length ≤ 100000 ∧ ∀ i, d = .int i → i.natAbs.log2 < 1920
theorem SmD.ext {K : PySem.W.Frag} {H H' : Hp} {v : V} {d : PyData} (s : ExtN H H') (h : SmD K H v d) : SmD K H' v d := ⟨h.1.extN s, h.2⟩
theorem SmD.same {K : PySem.W.Frag} {H H' : Hp} {v : V} {d : PyData} (s : Same H H') (h : SmD K H v d) : SmD K H' v d := h.ext (ExtN.of s)
/-- what repr asks of it -/
theorem SmD.ask {K : PySem.W.Frag} {H : Hp} {v : V} {d : PyData} {Q : VK} (h : SmD K H v d) (q : Q (.str d.shown) H) : rReprD K [v] H Q :=
  ⟨v, d, rfl, h.1, h.2.1, Nat.le_trans h.2.2.1 (by decide), Nat.le_trans h.2.2.2.1 (by decide), h.2.2.2.2, q⟩
/-- a pair of a short word and such -/
theorem SmD.pair {K : PySem.W.Frag} {H : Hp} {v : V} {d : PyData} {z : Str} {a : Addr} {Q : VK} (h : SmD K H v d) (hz : z.length ≤ 100) (hc : z.cps.toList.all (fun c => decide (c < 1114112)) = true) (ha : H a = some (.tup [.str z, v])) (q : Q (.str (PyData.tuple [.str z, d]).shown) H) : rReprD K [.ref a] H Q := by
  obtain ⟨h1, h2, h3, h4, _⟩ := h
  have hr : (reprText z).length ≤ 10 * z.length + 2 := StrLaws.reprText_len z (by rw [List.all_eq_true] at hc; exact fun i hi => Nat.lt_trans (of_decide_eq_true (hc i hi)) (by decide))
  refine ⟨_, _, rfl, .tup (SqT.of ha) (.cons (.str z) (.cons h1 .nil)), ?_, ?_, ?_, (fun i e => by cases e), q⟩
  · have e : (PyData.tuple [.str z, d]).showable = ((PyData.str z).showable && (d.showable && true)) := rfl
    rw [e, h2]
    rfl
  · have e : (PyData.tuple [.str z, d]).depth = max 0 (max d.depth 0) + 1 := rfl
    rw [e]
    omega
  · show (Str.ofString "(" ++ (reprText z ++ Str.ofString ", " ++ d.shown) ++ Str.ofString ")").length ≤ sizeLine
    repeat rw [Str.length_append]
    have a : (Str.ofString "(").length = 1 := by decide +kernel
    have b : (Str.ofString ", ").length = 2 := by decide +kernel
    have c : (Str.ofString ")").length = 1 := by decide +kernel
    exact Nat.le_trans (by omega : _ ≤ 300000) (by decide)
end NX

set_option Elab.async false
set_option linter.all false
set_option maxRecDepth 100000
set_option maxHeartbeats 8000000
namespace K71
open PySem L2 NX NU LamX
def wordT : List Str := ["dead", "far", "old", "clean", "cheap", "Far", "", "near", "old "]
def pinT : List Str := ["a", "b", "zzzzzz", "far", "A", "", "toolong", "a b"]
theorem allT_ok : (wordT ++ pinT).all (fun z => decide (z.length ≤ 10) && z.cps.toList.all (fun c => decide (c < 256)) && !decide (z = "q")) = true := by decide +kernel
theorem allT_at {z : Str} (h : z ∈ wordT ++ pinT) : z.length ≤ 10 ∧ okS z ∧ z ≠ "q" := by
  have q := List.all_eq_true.mp allT_ok z h
  rw [Bool.and_eq_true, Bool.and_eq_true, decide_eq_true_eq, List.all_eq_true, Bool.not_eq_true', decide_eq_false_iff_not] at q
  exact ⟨q.1.1, fun c hc => of_decide_eq_true (q.1.2 c hc), q.2⟩
/-- a value of the law's: one of its texts, or something odd -/
inductive Ov (H : Hp) : V → Prop
  | tx {z : Str} : z ∈ wordT ++ pinT → Ov H (.str z)
  | non : Ov H .non
  | i7 : Ov H (.int 7)
  | tr : Ov H (.bl true)
  | lst {a : Addr} {z : Str} : H a = some (.lst [.str z]) → z ∈ wordT ++ pinT → Ov H (.ref a)
  | tup {a : Addr} {z : Str} : H a = some (.tup [.str z]) → z ∈ wordT ++ pinT → Ov H (.ref a)
theorem Ov.ext {H H' : Hp} {v : V} (s : ExtN H H') (h : Ov H v) : Ov H' v := by
  cases h with
  | tx h => exact .tx h
  | non => exact .non
  | i7 => exact .i7
  | tr => exact .tr
  | lst a h => exact .lst (s _ _ a (by intro p e; cases e)) h
  | tup a h => exact .tup (s _ _ a (by intro p e; cases e)) h
theorem Ov.same {H H' : Hp} {v : V} (s : Same H H') (h : Ov H v) : Ov H' v := h.ext (ExtN.of s)
/-- only what is no such list may change -/
theorem Ov.put {H H' : Hp} {v : V} {l : Addr} (s : ∀ b o, H b = some o → b ≠ l → H' b = some o) (n : v ≠ .ref l) (h : Ov H v) : Ov H' v := by
  cases h with
  | tx h => exact .tx h
  | non => exact .non
  | i7 => exact .i7
  | tr => exact .tr
  | lst a h => exact .lst (s _ _ a (fun e => n (by rw [e]))) h
  | tup a h => exact .tup (s _ _ a (fun e => n (by rw [e]))) h
theorem ints_ne {ns : List Int} {z : Str} (h : ns.map V.int = [V.str z]) : False := by
  cases ns with
  | nil => cases h
  | cons a r => rw [List.map_cons] at h; injection h with h; cases h
theorem Ov.drawn {H H' : Hp} {p c : Addr} {ns : List Int} {r s n m : Int} {v : V} (P : Pen H p c ns r s n) (d : Drawn H p c m H') (h : Ov H v) : Ov H' v := by
  obtain ⟨_, _, _, _, _, _, B⟩ := d
  cases h with
  | tx h => exact .tx h
  | non => exact .non
  | i7 => exact .i7
  | tr => exact .tr
  | lst a h =>
    refine .lst (B _ _ a (fun e => ?_) (fun e => ?_)) h
    · rw [e, P.hp] at a; cases a
    · rw [e, P.hc] at a
      injection a with a
      injection a with a
      exact ints_ne a
  | tup a h =>
    refine .tup (B _ _ a (fun e => ?_) (fun e => ?_)) h
    · rw [e, P.hp] at a; cases a
    · rw [e, P.hc] at a; cases a
theorem Ov.kind {K : PySem.W.Frag} {H : Hp} {v : V} (h : Ov H v) : (∃ z, v = .str z ∧ z ∈ wordT ++ pinT) ∨ NoStr K H v := by
  cases h with
  | tx h => exact .inl ⟨_, rfl, h⟩
  | non => exact .inr ⟨_, .base .non, kit_ty (by decide +kernel)⟩
  | i7 => exact .inr ⟨_, .base (.int _), kit_ty (by decide +kernel)⟩
  | tr => exact .inr ⟨_, .base (.bl _), kit_ty (by decide +kernel)⟩
  | lst a _ => exact .inr ⟨_, .base (.lst a), kit_ty (by decide +kernel)⟩
  | tup a _ => exact .inr ⟨_, .base (.tup a), kit_ty (by decide +kernel)⟩
theorem Ov.el {K : PySem.W.Frag} {H : Hp} {v : V} (h : Ov H v) : El K H v := by
  cases h with
  | tx h => exact ⟨_, .str _, by rw [PyData.canLay0.eq_4]; exact strOk_of (allT_at h).2.1, rfl, by show (0 : Nat) ≤ 3; decide⟩
  | non => exact ⟨_, .non, rfl, rfl, by decide⟩
  | i7 => exact ⟨_, .int _, by decide +kernel, rfl, by decide⟩
  | tr => exact ⟨_, .bl _, rfl, rfl, by decide⟩
  | lst a h => exact ⟨_, .lst (SqL.of a) (.cons (.str _) .nil), by rw [PyData.canLay0.eq_5, PyData.canLayAll0.eq_2, PyData.canLay0.eq_4, strOk_of (allT_at h).2.1]; rfl, rfl, by show (1 : Nat) ≤ 3; decide⟩
  | tup a h => exact ⟨_, .tup (SqT.of a) (.cons (.str _) .nil), by rw [PyData.canLay0.eq_6, PyData.canLayAll0.eq_2, PyData.canLay0.eq_4, strOk_of (allT_at h).2.1]; rfl, rfl, by show (1 : Nat) ≤ 3; decide⟩
/-- small data, as repr tells it -/
def Vd (K : PySem.W.Frag) (H : Hp) (v : V) (d : PyData) : Prop := Dr K H v d ∧ d.showable = true ∧ d.depth ≤ 1 ∧ d.shown.length ≤ 300 ∧ ∀ i, d = .int i → i.natAbs.log2 < 1920
theorem repr_le {z : Str} (h : okS z) (k : z.length ≤ 10) : (reprText z).length ≤ 102 := by
  have r := PySem.StrLaws.reprText_len z (fun c hc => Nat.lt_trans (h c hc) (by decide))
  exact Nat.le_trans r (by omega)
theorem Ov.vd {K : PySem.W.Frag} {H : Hp} {v : V} (h : Ov H v) : ∃ d, Vd K H v d := by
  cases h with
  | tx h => exact ⟨_, .str _, rfl, by show (0 : Nat) ≤ 1; decide, Nat.le_trans (repr_le (allT_at h).2.1 (allT_at h).1) (by decide), fun i e => by cases e⟩
  | non => exact ⟨_, .non, rfl, by decide, by decide +kernel, fun i e => by cases e⟩
  | i7 => exact ⟨_, .int _, rfl, by decide, by decide +kernel, fun i e => by cases e; decide⟩
  | tr => exact ⟨_, .bl _, rfl, by decide, by decide +kernel, fun i e => by cases e⟩
  | @lst a1 z a h =>
    refine ⟨_, .lst (SqL.of a) (.cons (.str _) .nil), rfl, by show (1 : Nat) ≤ 1; decide, ?_, fun i e => by cases e⟩
    have l := PySem.listText_len_le [reprText z]
    have r := repr_le (allT_at h).2.1 (allT_at h).1
    simp only [List.map_cons, List.map_nil, List.sum_cons, List.sum_nil, List.length_cons, List.length_nil] at l
    exact Nat.le_trans l (by omega)
  | @tup a1 z a h =>
    refine ⟨_, .tup (SqT.of a) (.cons (.str _) .nil), rfl, by show (1 : Nat) ≤ 1; decide, ?_, fun i e => by cases e⟩
    have l := PySem.tupleText_len_le [reprText z]
    have r := repr_le (allT_at h).2.1 (allT_at h).1
    simp only [List.map_cons, List.map_nil, List.sum_cons, List.sum_nil, List.length_cons, List.length_nil] at l
    exact Nat.le_trans l (by omega)
/-- a list of such data -/
structure Vds (K : PySem.W.Frag) (H : Hp) (vs : List V) (ds : List PyData) : Prop where
  dr : DrAll K H vs ds
  sh : PyData.showableAll ds = true
  dp : PyData.depthAll ds ≤ 1
  ln : ((PyData.shownAll ds).map (·.length)).sum ≤ 300 * vs.length ∧ (PyData.shownAll ds).length = vs.length
theorem vds {K : PySem.W.Frag} {H : Hp} : ∀ vs : List V, (∀ v ∈ vs, Ov H v) → ∃ ds, Vds K H vs ds
  | [], _ => ⟨[], .nil, rfl, Nat.zero_le _, by decide, rfl⟩
  | v :: r, h => by
    obtain ⟨d, a, b, c, e, _⟩ := (h v List.mem_cons_self).vd (K := K)
    obtain ⟨ds, x, y, z, l1, l2⟩ := vds (K := K) r fun u hu => h u (List.mem_cons_of_mem _ hu)
    refine ⟨d :: ds, .cons a x, ?_, ?_, ?_, ?_⟩
    · show (d.showable && PyData.showableAll ds) = true
      rw [b, y]
      rfl
    · rw [PyData.depthAll.eq_2]
      exact Nat.max_le.mpr ⟨c, z⟩
    · show ((d.shown :: PyData.shownAll ds).map (·.length)).sum ≤ _
      simp only [List.map_cons, List.sum_cons, List.length_cons]
      omega
    · show (d.shown :: PyData.shownAll ds).length = _
      simp only [List.length_cons]
      omega
theorem Vds.ext {K : PySem.W.Frag} {H H' : Hp} {vs : List V} {ds : List PyData} (s : ExtN H H') (h : Vds K H vs ds) : Vds K H' vs ds := ⟨h.dr.extN s, h.sh, h.dp, h.ln⟩
/-- repr of such a list, such a tuple -/
theorem Vds.askL {K : PySem.W.Frag} {H : Hp} {a : Addr} {vs : List V} {ds : List PyData} {Q : VK} (h : Vds K H vs ds) (few : vs.length ≤ 60) (ha : SqL K H a vs) (q : Q (.str (PyData.list ds).shown) H) : rReprD K [.ref a] H Q := by
  obtain ⟨dr, sh, dp, l1, l2⟩ := h
  refine ⟨_, _, rfl, .lst ha dr, sh, by rw [PyData.depth.eq_def]; show PyData.depthAll ds + 1 ≤ 50; omega, ?_, fun i e => (by cases e), q⟩
  have l := PySem.listText_len_le (PyData.shownAll ds)
  rw [l2] at l
  exact Nat.le_trans l (Nat.le_trans (by omega : _ ≤ 300000) (by decide))
theorem Vds.tupLen {K : PySem.W.Frag} {H : Hp} {vs : List V} {ds : List PyData} (h : Vds K H vs ds) (few : vs.length ≤ 60) : (PyData.tuple ds).shown.length ≤ 20000 := by
  obtain ⟨dr, sh, dp, l1, l2⟩ := h
  have l := PySem.tupleText_len_le (PyData.shownAll ds)
  rw [l2] at l
  exact Nat.le_trans l (by omega)
theorem Vds.askT {K : PySem.W.Frag} {H : Hp} {a : Addr} {vs : List V} {ds : List PyData} {Q : VK} (h : Vds K H vs ds) (few : vs.length ≤ 60) (ha : SqT K H a vs) (q : Q (.str (PyData.tuple ds).shown) H) : rReprD K [.ref a] H Q := by
  refine ⟨_, _, rfl, .tup ha h.dr, h.sh, ?_, Nat.le_trans (h.tupLen few) (by decide), fun i e => (by cases e), q⟩
  have := h.dp
  rw [PyData.depth.eq_def]
  show PyData.depthAll ds + 1 ≤ 50
  omega
/-- what is told, as data -/
def ansD (r : Option Er) (d : PyData) (dw dp : List PyData) : PyData := match r with
  | some f => .tuple [.str f.word, d]
  | none => .tuple [.str (Str.ofString "told"), .tuple dw, .tuple dp]
/-- .. at p -/
def Ans (K : PySem.W.Frag) (H : Hp) (r : Option Er) (ws ps : List V) (p : Addr) : Prop := match r with
  | some f => H p = some (.tup [.str f.word, f.val])
  | none => ∃ q t, H p = some (.tup [.str (Str.ofString "told"), .ref q, .ref t]) ∧ SqT K H q ws ∧ SqT K H t ps
theorem Er.word_ok (f : Er) : f.word.length ≤ 100 ∧ f.word.cps.toList.all (fun c => decide (c < 1114112)) = true := by
  have h : ∀ w : Str, (w = "rule" ∨ w = "name" ∨ w = "twice") → w.length ≤ 100 ∧ w.cps.toList.all (fun c => decide (c < 1114112)) = true := fun w h => by
    rcases h with rfl | rfl | rfl <;> exact ⟨by decide +kernel, by decide +kernel⟩
  cases f with
  | ru v => exact h _ (.inl rfl)
  | nm v => exact h _ (.inr (.inl rfl))
  | tw z => exact h _ (.inr (.inr rfl))
theorem Ans.ask {K : PySem.W.Frag} {H : Hp} {r : Option Er} {ws ps : List V} {p : Addr} {d : PyData} {dw dp : List PyData} {Q : VK} (h : Ans K H r ws ps p) (hd : ∀ f, r = some f → Vd K H f.val d) (hw : Vds K H ws dw) (hp : Vds K H ps dp) (fw : ws.length ≤ 60) (fp : ps.length ≤ 60)
    (q : Q (.str (ansD r d dw dp).shown) H) : rReprD K [.ref p] H Q := by
  cases r with
  | some f =>
    obtain ⟨w1, w2⟩ := f.word_ok
    obtain ⟨a, b, c, e, g⟩ := hd f rfl
    exact SmD.pair (d := d) ⟨a, b, Nat.le_trans c (by decide), Nat.le_trans e (by decide), g⟩ w1 w2 h q
  | none =>
    obtain ⟨qa, ta, h1, h2, h3⟩ := h
    refine ⟨_, _, rfl, .tup (SqT.of h1) (.cons (.str _) (.cons (.tup h2 hw.dr) (.cons (.tup h3 hp.dr) .nil))), ?_, ?_, ?_, fun i e => (by cases e), q⟩
    · show (true && (PyData.showableAll dw && (PyData.showableAll dp && true))) = true
      rw [hw.sh, hp.sh]
      rfl
    · have a := hw.dp
      have b := hp.dp
      show max 0 (max (PyData.depthAll dw + 1) (max (PyData.depthAll dp + 1) 0)) + 1 ≤ 50
      omega
    · have l := PySem.tupleText_len_le [reprText (Str.ofString "told"), (PyData.tuple dw).shown, (PyData.tuple dp).shown]
      have t1 := hw.tupLen fw
      have t2 := hp.tupLen fp
      have t3 : (reprText (Str.ofString "told")).length ≤ 10 := by decide +kernel
      simp only [List.map_cons, List.map_nil, List.sum_cons, List.sum_nil, List.length_cons, List.length_nil] at l
      exact Nat.le_trans l (Nat.le_trans (by omega : _ ≤ 300000) (by decide))
/-- the first value that is not as f says -/
theorem first {α : Type} (p : α → Prop) : ∀ l : List α, (∀ x ∈ l, p x) ∨ ∃ l1 x l2, l = l1 ++ x :: l2 ∧ (∀ y ∈ l1, p y) ∧ ¬ p x
  | [] => .inl nofun
  | a :: r => by
    by_cases h : p a
    · rcases first p r with q | ⟨l1, x, l2, e, h1, h2⟩
      · exact .inl fun x hx => (List.mem_cons.mp hx).elim (fun e => e ▸ h) (q x)
      · exact .inr ⟨a :: l1, x, l2, by rw [e]; rfl, fun y hy => (List.mem_cons.mp hy).elim (fun e => e ▸ h) (h1 y), h2⟩
    · exact .inr ⟨[], a, r, rfl, nofun, h⟩
end K71

set_option Elab.async false
set_option linter.all false
set_option maxRecDepth 100000
set_option maxHeartbeats 8000000
namespace K71
open PySem L2 NX NU LamX
theorem strs_of {p : Str → Prop} : ∀ l : List V, (∀ y ∈ l, ∃ z, y = V.str z ∧ p z) → ∃ zs : List Str, l = zs.map V.str ∧ ∀ z ∈ zs, p z
  | [], _ => ⟨[], rfl, nofun⟩
  | a :: r, h => by
    obtain ⟨z, rfl, hz⟩ := h a List.mem_cons_self
    obtain ⟨zs, rfl, hs⟩ := strs_of r fun y hy => h y (List.mem_cons_of_mem _ hy)
    exact ⟨z :: zs, rfl, fun y hy => (List.mem_cons.mp hy).elim (fun e => e ▸ hz) (hs y)⟩
theorem words_any (K : PySem.W.Frag) {H : Hp} : ∀ (l : List V) (us : List Str), Wds us → (∀ v ∈ l, Ov H v) → (∃ vs : List Str, l = vs.map V.str ∧ Wds (us ++ vs)) ∨ ∃ (vs : List Str) (v : V) (l2 : List V), l = vs.map V.str ++ v :: l2 ∧ Wds (us ++ vs) ∧ NoWd K H (us ++ vs) v ∧ v ∈ l
  | [], us, h, _ => .inl ⟨[], rfl, by rw [List.append_nil]; exact h⟩
  | v :: r, us, h, hv => by
    have bad : NoWd K H us v → (∃ vs : List Str, v :: r = vs.map V.str ∧ Wds (us ++ vs)) ∨ ∃ (vs : List Str) (w : V) (l2 : List V), v :: r = vs.map V.str ++ w :: l2 ∧ Wds (us ++ vs) ∧ NoWd K H (us ++ vs) w ∧ w ∈ v :: r := fun b =>
      .inr ⟨[], v, r, rfl, by rw [List.append_nil]; exact h, by rw [List.append_nil]; exact b, List.mem_cons_self⟩
    rcases (hv v List.mem_cons_self).kind (K := K) with ⟨z, rfl, _⟩ | no
    · by_cases m : z ∈ WORDS
      · by_cases n : z ∈ us
        · exact bad (.inl ⟨z, rfl, .inr n⟩)
        · have h2 : Wds (us ++ [z]) := ⟨fun y hy => (List.mem_append.mp hy).elim (h.1 y) (fun e => List.mem_singleton.mp e ▸ m), noRep_app h.2 n⟩
          rcases words_any K r (us ++ [z]) h2 (fun y hy => hv y (List.mem_cons_of_mem _ hy)) with ⟨vs, e, w⟩ | ⟨vs, y, l2, e, w, b, my⟩
          · refine .inl ⟨z :: vs, by rw [e]; rfl, ?_⟩
            rw [List.append_assoc] at w
            exact w
          · refine .inr ⟨z :: vs, y, l2, by rw [e]; rfl, ?_, ?_, List.mem_cons_of_mem _ my⟩
            · rw [List.append_assoc] at w
              exact w
            · rw [List.append_assoc] at b
              exact b
      · exact bad (.inl ⟨z, rfl, .inl m⟩)
    · exact bad (.inr no)
theorem wds_nil : Wds [] := ⟨nofun, fun i z h => by cases h⟩
theorem due_any (K : PySem.W.Frag) {H : Hp} {ws ps : List V} (hw : ∀ v ∈ ws, Ov H v) (hp : ∀ v ∈ ps, Ov H v) : ∃ r, Due K H ws ps r ∧ ∀ f, r = some f → ∃ d, Vd K H f.val d := by
  by_cases e : ws = []
  · exact ⟨_, .em e, fun f ef => by cases ef; exact Ov.non.vd⟩
  rcases words_any K ws [] wds_nil hw with ⟨us, eu, w⟩ | ⟨us, v, l, eu, w, b, mv⟩
  · rw [List.nil_append] at w
    have ne : us ≠ [] := fun q => e (by rw [eu, q]; rfl)
    rcases first (fun v => ∃ z, v = V.str z ∧ (z.length ≤ 1000 ∧ nm z = true) ∧ V.str z ∈ ps) ps with all | ⟨l1, v, l2, ep, h1, h2⟩
    · obtain ⟨zs, ez, hz⟩ := strs_of ps all
      have hn : Nms zs := fun z m => (hz z m).1
      rcases rep_or zs with nr | ⟨i, z, r⟩
      · exact ⟨none, .ok eu ne w ez hn nr, fun f ef => by cases ef⟩
      · exact ⟨some (.tw z), .tw eu ne w ez hn r, fun f ef => by cases ef; exact (hp _ (hz z (List.mem_of_getElem? r.1)).2).vd⟩
    · obtain ⟨zs, ez, hz⟩ := strs_of l1 h1
      have mv : v ∈ ps := by rw [ep]; exact List.mem_append_right _ List.mem_cons_self
      have nn : NoNm K H v := by
        rcases (hp v mv).kind (K := K) with ⟨z, rfl, m⟩ | no
        · have lz := (allT_at m).1
          refine .inl ⟨z, rfl, by omega, ?_⟩
          cases q : nm z with
          | false => rfl
          | true => exact absurd ⟨z, rfl, ⟨by omega, q⟩, mv⟩ h2
        · exact .inr no
      exact ⟨some (.nm v), .nm eu ne w ⟨l2, by rw [ep, ez], fun z m => (hz z m).1, nn⟩, fun f ef => by cases ef; exact (hp v mv).vd⟩
  · rw [List.nil_append] at w b
    exact ⟨some (.ru v), .ru eu w b, fun f ef => by cases ef; exact (hw v mv).vd⟩
theorem due_told {K : PySem.W.Frag} {H : Hp} {ws ps : List V} (h : Due K H ws ps none) : ∃ us zs : List Str, ws = us.map V.str ∧ ps = zs.map V.str ∧ us ≠ [] ∧ Wds us ∧ Nms zs ∧ NoRep zs := by
  cases h with
  | ok a b c d e f => exact ⟨_, _, a, d, b, c, e, f⟩
theorem noq {H : Hp} {zs : List Str} (h : ∀ v ∈ zs.map V.str, Ov H v) : ("q" : Str) ∉ zs := fun m => by
  have q := h _ (List.mem_map_of_mem m)
  cases q with
  | tx q => exact (allT_at q).2.2 rfl
theorem okp {H : Hp} {ps : List V} (h : ∀ v ∈ ps, Ov H v) : ∀ z, V.str z ∈ ps → okS z := fun z m => by
  have q := h _ m
  cases q with
  | tx q => exact (allT_at q).2.1
/-- the tables stay while the pen draws -/
theorem tabsDrawn {TT : List (Addr × Str)} {H H' : Hp} {p c : Addr} {ns : List Int} {r s n m : Int} (t : Tabs TT H) (P : Pen H p c ns r s n) (d : Drawn H p c m H') : Tabs TT H' := fun e he => by
  obtain ⟨_, _, _, _, _, _, B⟩ := d
  obtain ⟨ps, a, b, k⟩ := t e he
  refine ⟨ps, B _ _ a (fun z => by rw [z, P.hp] at a; cases a) (fun z => by rw [z, P.hc] at a; cases a), b, fun pos cv hc => ?_⟩
  obtain ⟨c', e1, e2⟩ := k pos cv hc
  exact ⟨c', e1, B _ _ e2 (fun z => by rw [z, P.hp] at e2; unfold CodeO at e2; cases e2) (fun z => by rw [z, P.hc] at e2; unfold CodeO at e2; cases e2)⟩
/-- .. while a list is changed -/
theorem tabsPut {TT : List (Addr × Str)} {H : Hp} {l : Addr} {xs ys : List V} (t : Tabs TT H) (h : H l = some (.lst xs)) : Tabs TT (upd H l (.lst ys)) := fun e he => by
  obtain ⟨ps, a, b, k⟩ := t e he
  refine ⟨ps, (upd_ne (fun z => by rw [z, h] at a; cases a)).trans a, b, fun pos cv hc => ?_⟩
  obtain ⟨c', e1, e2⟩ := k pos cv hc
  exact ⟨c', e1, (upd_ne (fun z => by rw [z, h] at e2; unfold CodeO at e2; cases e2)).trans e2⟩
/-- what the law's loop keeps: the pen, the tables -/
structure LawI (TT : List (Addr × Str)) (p c : Addr) (B : Int) (H : Hp) : Prop where
  pen : ∃ ns r s n, Pen H p c ns r s n ∧ n ≤ B
  tab : Tabs TT H
theorem LawI.ext {TT : List (Addr × Str)} {p c : Addr} {B : Int} {H H' : Hp} (h : LawI TT p c B H) (s : ExtN H H') (t : Tabs TT H') : LawI TT p c B H' := by
  obtain ⟨ns, r, sd, n, P, ha⟩ := h.pen
  exact ⟨⟨ns, r, sd, n, ⟨s _ _ P.hp (by intro p e; cases e), s _ _ P.hc (by intro p e; cases e), P.lr, P.ls, P.lt, P.ln⟩, ha⟩, t⟩
theorem LawI.same {TT : List (Addr × Str)} {p c : Addr} {B : Int} {H H' : Hp} (h : LawI TT p c B H) (s : Same H H') : LawI TT p c B H' := h.ext (ExtN.of s) (h.tab.ext s)
theorem LawI.mono {TT : List (Addr × Str)} {p c : Addr} {B B' : Int} {H : Hp} (h : LawI TT p c B H) (hb : B ≤ B') : LawI TT p c B' H := by
  obtain ⟨ns, r, sd, n, P, ha⟩ := h.pen
  exact ⟨⟨ns, r, sd, n, P, Int.le_trans ha hb⟩, h.tab⟩
theorem LawI.put {TT : List (Addr × Str)} {p c : Addr} {B : Int} {H : Hp} {l : Addr} {xs ys : List V} (h : LawI TT p c B H) (hl : H l = some (.lst xs)) (np : l ≠ p) (nc : l ≠ c) : LawI TT p c B (upd H l (.lst ys)) := by
  obtain ⟨ns, r, sd, n, P, ha⟩ := h.pen
  exact ⟨⟨ns, r, sd, n, ⟨(upd_ne np.symm).trans P.hp, (upd_ne nc.symm).trans P.hc, P.lr, P.ls, P.lt, P.ln⟩, ha⟩, tabsPut h.tab hl⟩
/-- values that stand in a list at l, apart from the pen -/
structure Wk (p c : Addr) (l : Addr) (vs : List V) (k : Nat) (H : Hp) : Prop where
  at_ : H l = some (.lst vs)
  np : l ≠ p
  nc : l ≠ c
  few : vs.length ≤ k
  ov : ∀ v ∈ vs, Ov H v
theorem Wk.ext {p c l : Addr} {vs : List V} {k : Nat} {H H' : Hp} (h : Wk p c l vs k H) (s : ExtN H H') : Wk p c l vs k H' := ⟨s _ _ h.at_ (by intro p e; cases e), h.np, h.nc, h.few, fun v hv => (h.ov v hv).ext s⟩
theorem Wk.same {p c l : Addr} {vs : List V} {k : Nat} {H H' : Hp} (h : Wk p c l vs k H) (s : Same H H') : Wk p c l vs k H' := h.ext (ExtN.of s)
theorem Wk.drawn {p c l : Addr} {vs : List V} {k : Nat} {H H' : Hp} {ns : List Int} {r s n m : Int} (h : Wk p c l vs k H) (P : Pen H p c ns r s n) (d : Drawn H p c m H') : Wk p c l vs k H' := by
  obtain ⟨_, _, _, _, _, _, B⟩ := id d
  exact ⟨B _ _ h.at_ h.np h.nc, h.np, h.nc, h.few, fun v hv => (h.ov v hv).drawn P d⟩
theorem Ov.fresh {H : Hp} {v : V} {l : Addr} (h : Ov H v) (hn : H l = none) : v ≠ .ref l := fun e => by
  subst e
  cases h with
  | lst a _ => rw [hn] at a; cases a
  | tup a _ => rw [hn] at a; cases a
theorem sqT_lst {K : PySem.W.Frag} {H : Hp} {a l : Addr} {o : HO} {xs ys : List V} (hl : H l = some (.lst ys)) (h : SqT K H a xs) : SqT K (upd H l o) a xs := by
  have ne : ∀ {u : HO}, H a = some u → (∀ ys, u ≠ .lst ys) → a ≠ l := fun e n z => by
    rw [z, hl] at e
    exact n _ (Option.some.inj e).symm
  rcases h with (h | ⟨o1, h⟩) | h
  · exact .inl (.inl ((upd_ne (ne h (by intro ys e; cases e))).trans h))
  · exact .inl (.inr ⟨o1, (upd_ne (ne h (by intro ys e; cases e))).trans h⟩)
  · exact .inr h
theorem Vd.ext {K : PySem.W.Frag} {H H' : Hp} {v : V} {d : PyData} (s : ExtN H H') (h : Vd K H v d) : Vd K H' v d := ⟨h.1.extN s, h.2⟩
theorem says_of {K : PySem.W.Frag} {H : Hp} {ws ps : List V} {Q : VK} {r : Option Er} (k : ∀ p H', Same H H' → Ans K H' r ws ps p → Q (.ref p) H') : Says H ws ps Q r := by
  cases r with
  | none => exact fun q t p H' s h1 h2 h3 => k p H' s ⟨q, t, h3, SqT.of h1, SqT.of h2⟩
  | some f => exact fun p H' s h => k p H' s h
theorem heard_of {K : PySem.W.Frag} {c : C3} {C TW lw lt : Addr} {TT : List (Addr × Str)} {Hx : Hp} {ws ps : List V} {r : Option Er} {Q : VK} {tl : XK → Hp → VK → Prop} (hw : Hx lw = some (.lst ws)) (ht : Hx lt = some (.lst ps)) (few : ws.length ≤ 6) (fewp : ps.length ≤ 60) (hD : Due K Hx ws ps r) (hT : Tabs TT Hx)
    (pre : ∀ (E : XK) (R : VK) (H0 : Hp), spMade K c C TW TT [.ref lw, .ref lt] H0 R E → tl E H0 R) (cont : ∀ pa H'', ExtN Hx H'' → Tabs TT H'' → Ans K H'' r ws ps pa → Q (.ref pa) H'') : THeard c C tl Hx Q := by
  intro p0 hp0 R hR
  have s0 : Same Hx (upd Hx p0 (.tup [.non, .non])) := Same.new hp0
  refine pre _ _ _ ⟨lw, lt, ws, ps, r, rfl, SqL.of (s0 _ _ hw), .inl (SqL.of (s0 _ _ ht)), few, fewp, hD.same s0, hT.ext s0, ?_⟩
  cases r with
  | none =>
    intro x H' e t ir
    obtain ⟨dx, q, t', h1, h2, h3⟩ := ir
    exact hR x dx q t' H' h1 fun pa H2 hn s h => cont pa H2 (((ExtN.of s0).trans e).trans (ExtN.of s)) (t.ext s) ⟨q, t', h, SqT.of (s _ _ h2), NI.sqT_same s h3⟩
  | some f =>
    intro d H' e t hd
    exact ⟨f, d, rfl, rfl, hd, fun pa H'' s hn h => cont pa H'' (((ExtN.of s0).trans e).trans (ExtN.of s)) (t.ext s) h⟩
/-- a rule of one word is made -/
theorem old_core {K : PySem.W.Frag} {c : C3} {C TW b : Addr} {H1 : Hp} {Q : VK} {E : XK} (hC : RCls K C TW) (hb : ∀ {H}, Same H1 H → SqT K H b []) (h : ∀ y H2, Same H1 H2 → IsRule K C H2 y ([("old" : Str)].map V.str) [] → Q (.ref y) H2) :
    ∀ y dy, H1 y = none → H1 dy = none → dy ≠ y → spR K c TW [.ref b] [V.ref y, .str "old"] (upd (upd H1 dy (.own y)) y (.ins C dy [])) (fun v H3 => v = .non ∧ Q (.ref y) H3) E := by
  intro y dy h1 h2 h3
  have s1 : Same H1 (upd (upd H1 dy (.own y)) y (.ins C dy [])) := (Same.new h2).trans (Same.new (by rw [upd_ne (Ne.symm h3)]; exact h1))
  refine ⟨[.ref y], [.str "old"], rfl, rfl, by show 1 ≤ sizeLine; decide, fun p hp => ?_⟩
  have s2 := s1.trans (Same.new (o := .tup [.str "old"]) hp)
  have py : y ≠ p := fun e => by rw [← e, upd_same] at hp; cases hp
  refine ⟨y, C, dy, b, p, [.str "old"], [], none, rfl, hC, (upd_ne py).trans upd_same, .inr (hb s2), upd_same, by decide, by decide, .ok (us := ["old"]) (zs := []) rfl (by simp) ⟨by decide +kernel, ?_⟩ rfl nofun (fun i z h => by cases h), fun H2 st isr => ⟨rfl, h y H2 ?_ isr⟩⟩
  · intro i z hz m
    match i, hz, m with
    | 0, _, m => cases m
  · exact fun a o e => st a o (s2 a o e) (fun z => by rw [z, h1] at e; cases e)
theorem Ans.ext {K : PySem.W.Frag} {H H' : Hp} {r : Option Er} {ws ps : List V} {p : Addr} (s : ExtN H H') (h : Ans K H r ws ps p) : Ans K H' r ws ps p := by
  cases r with
  | some f => exact s _ _ h (by intro p e; cases e)
  | none =>
    obtain ⟨q, t, a, b, c⟩ := h
    exact ⟨q, t, s _ _ a (by intro p e; cases e), NI.sqT_ext s b, NI.sqT_ext s c⟩
theorem old_coreR {K : PySem.W.Frag} {c : C3} {C TW b : Addr} {σ : L2.St} {H1 : Hp} {Q : VK} {E : XK} (hC : RCls K C TW) (hb : ∀ H, SqT K H b []) (h : ∀ y H2, Same H1 H2 → IsRule K C H2 y ([("old" : Str)].map V.str) [] → Q (.ref y) H2) :
    StX.tMakeR C (spR K c TW [.ref b]) E (tCons (tC (.str (Str.ofString "old"))) tNil) σ H1 Q := fun y dy h1 h2 h3 => old_core (Q := Q) hC (fun _ => hb _) h y dy h1 h2 h3
theorem old_coreK {K : PySem.W.Frag} {c : C3} {C TW : Addr} {σ : L2.St} {H1 : Hp} {Q : VK} {E : XK} (hC : RCls K C TW) (h : ∀ y H2, Same H1 H2 → IsRule K C H2 y ([("old" : Str)].map V.str) [] → Q (.ref y) H2) :
    NB.tMakeKS C (["pins"] : List Str).length (spR K c TW) E (tCons (tC (.str (Str.ofString "old"))) tNil) (tCons (tTup tNil) tNil) σ H1 Q := by
  refine ⟨by show 0 ≤ sizeLine; decide, fun b hb => ⟨rfl, fun y dy h1 h2 h3 => ?_⟩⟩
  have s : Same H1 (upd H1 b (.tup [])) := Same.new hb
  exact old_core (Q := Q) hC (fun s2 => NI.sqT_same s2 (SqT.of upd_same)) (fun y H2 s2 => h y H2 (s.trans s2)) y dy h1 h2 h3
end K71

set_option Elab.async false
set_option linter.all false
set_option maxRecDepth 100000
set_option maxHeartbeats 16000000
namespace K71
open PySem L2 NX NU LamX
abbrev sLaw : Stmt := top 23
abbrev NLaw : List Str := ["_law_script", "_law_pen_here", "_law_lap", "_law_odd", "_law_due_here", "_law_passed", "_law_habit", "_law_bare", "_law_tight", "_law_words"]
theorem scLaw : FnScope NLaw ["_law_script"] (defScope sLaw) := ⟨rfl, rfl, rfl, by decide +kernel, rfl, by decide +kernel, by decide +kernel⟩
/-- what the law uses -/
structure LawTxt (P : Program) (w : World) (K : PySem.W.Frag) (mg : Str → Option Value) (base : Heap) (c : C3) (CS C TW fI fM fEq fH t0 : Addr) (fdM fdE fdH : FuncData) (TT : List (Addr × Str)) : Prop where
  T : TxtB mg
  E : ErrK K mg c CS
  G : RGet P w K mg base C
  t : RTy K C fEq
  rc : RCls K C TW
  FEq : FnOk P w K mg base CX0 1 fEq fdE ["self", "other"] (spREq K C)
  hbE : Binds K fdE ["self", "other"] []
  FM : FnOk P w K mg base (L2.CX P w) 7 fM fdM ["_law_words", "_law_tight"] (spMade K c C TW TT)
  gM : mg "_law_made" = some (.ref fM)
  kM : PySem.W.keepIn K (.ref fM) = true
  hbM : Binds K fdM ["_law_words", "_law_tight"] []
  FH : Fun K "_law_heard" "_law_heard" sHeard fH fdH
  gH : mg "_law_heard" = some (.ref fH)
  hbH : Binds K fdH ["_law_ask"] []
  sys : SysB base
  pen : C8.Cal P w K mg base 1 "_law_pen" (spPen K) []
  draw : C8.Cal P w K mg base 1 "_law_draw" spDraw []
  pick : C8.Cal P w K mg base 2 "_law_pick" (spPick K) []
  mix : C8.Cal P w K mg base 2 "_law_mixed" (spMix K) []
  due : C8.Cal P w K mg base 1 "_law_due" (spDueR K) []
  alike : C8.Cal P w K mg base 8 "_law_alike_right" (spAlike K TT) []
  M : Mk K C fI
  gC : mg "Rule" = some (.ref C)
  FI : FnR P w K mg base (L2.CX P w) 4 fI (spR K c TW [.ref t0])
  FK : NB.FnK P w K mg base (L2.CX P w) 4 fI ["pins"] (spR K c TW)
  t0e : ∀ H : Hp, SqT K H t0 []
  wd : ∃ mc u, ClX.CRead K C mc ∧ ClX.CVal K C mc "WORDS" (.ref TW) u
def spLaw (K : PySem.W.Frag) (TT : List (Addr × Str)) : Sp := fun vs H Q _ => ∃ (a : Addr) (ns : List Int), vs = [.ref a] ∧ SqL K H a (ns.map V.int) ∧ Tabs TT H ∧ ∀ H', Q (.bl true) H'
section
variable {P : Program} {w : World} {K : PySem.W.Frag} {mg : Str → Option Value} {base : Heap}
theorem ok_law {c : C3} {CS C TW fI fM fEq fH t0 : Addr} {fdM fdE fdH : FuncData} {f cc Pc : Addr} {fd : FuncData} {TT : List (Addr × Str)} (F : FunC K "law" sLaw f fd cc) (X : LawTxt P w K mg base c CS C TW fI fM fEq fH t0 fdM fdE fdH TT) (TB : TabB base mg cc Pc)
    (hmT : (Pc, Str.ofString "law.<locals>.<lambda>") ∈ TT) (hu2 : ∀ p ∈ TT, p.1 = Pc → p.2 = Str.ofString "law.<locals>.<lambda>") : FnG P w K mg base 11 f fd ["_law_script"] (spLaw K TT) := by
  obtain ⟨T, E, G, t, rc, FEq, hbE, FM, gM, kM, hbM, FH, gH, hbH, S, cPen, cDraw, cPick, cMix, cDue, cAlike, M, gC, FI, FK, t0e, mc, uw, rdC, cvC⟩ := X
  obtain ⟨oc, od, kV, doc, pm, an, ct, osl, rfl, lk, hcd⟩ := F.ex
  obtain ⟨ocH, odH, kVH, docH, pmH, anH, cdvH, ctH, oslH, rfl, lkH, hcH⟩ := FH.ex
  obtain ⟨pp, gp, fdp, Pp, Fp, bp⟩ := G.p_
  refine ⟨fun vs H Q E h => ?_, fun A st s H args us vs Q gd hr0 e0 hb rv h => ?_⟩
  · obtain ⟨a, ns, rfl, _⟩ := h
    rfl
  · obtain ⟨a, ns, rfl, hS, hTb, k⟩ := h
    refine run_ofS (k := 10) (N := NLaw) (ps := ["_law_script"]) lk hcd scLaw hr0 e0 hb rv rfl fun hr => ?_
    have gd : (A.deeper (PyProof.Rows.envOfC "law" (defScope sLaw) s.heap.objs.size f (.ref cc))).guards = some [] := gd
    refine ⟨_, PSs.nox (pss_cons (ps_set (i := 1) scLaw.nd rfl (Or.inl rfl) (C8.pe_c cPen hr (by decide) rfl (pa_cons (pv 0) pa_nil)))
      (pss_cons (ps_for PassesOwn.never rfl (pi_range1 (by rfl) T.brange (pa_cons pe_int pa_nil)) (pg_name (i := 2) scLaw.nd rfl (Or.inl rfl)) (pss_cons (ps_set (i := 9) scLaw.nd rfl (Or.inr rfl) (pe_slice sl_list (C8.pe_c cMix hr (by decide) rfl (pa_cons (pv 1) (pa_cons (pe_lst (pa_cons pe_str (pa_cons pe_str (pa_cons pe_str (pa_cons pe_str (pa_cons pe_str pa_nil)))))) pa_nil))) po_none (po_some (C8.pe_c cDraw hr (by decide) rfl (pa_cons (pv 1) (pa_cons pe_int pa_nil))))))
      (C8.pss_cut (ps_if (pt_cmpR op_eq (C8.pe_c cDraw hr (by decide) rfl (pa_cons (pv 1) (pa_cons pe_int pa_nil))) pe_int (nomark _)) (pss_cons (ps_set (i := 3) scLaw.nd rfl (Or.inl rfl) (C8.pe_c cPick hr (by decide) rfl (pa_cons (pv 1) (pa_cons (pe_lst (pa_cons pe_str (pa_cons pe_str (pa_cons pe_str (pa_cons pe_non (pa_cons pe_int (pa_cons pe_str (pa_cons (pe_lst (pa_cons pe_str pa_nil)) (pa_cons pe_str (pa_cons pe_bl (pa_cons (pe_tup (pa_cons pe_str pa_nil)) pa_nil))))))))))) pa_nil)))) (pss_one (ps_expr (pe_bm PySem.F.plainAttrs_list PySem.F.slot_list_insert PySem.F.type_list_insert mt_insert (pv 9) (pa_cons (C8.pe_c cDraw hr (by decide) rfl (pa_cons (pv 1) (pa_cons (pe_op op_add (pe_callB call_len_seq (by rfl) T.blen (by decide +kernel) (pa_cons (pv 9) pa_nil)) pe_int) pa_nil))) (pa_cons (pv 3) pa_nil)))))) pss_nil)
      (pss_cons (ps_set (i := 8) scLaw.nd rfl (Or.inr rfl) (pe_slice sl_list (C8.pe_c cMix hr (by decide) rfl (pa_cons (pv 1) (pa_cons (pe_lst (pa_cons pe_str (pa_cons pe_str (pa_cons pe_str (pa_cons pe_str pa_nil))))) pa_nil))) po_none (po_some (C8.pe_c cDraw hr (by decide) rfl (pa_cons (pv 1) (pa_cons pe_int pa_nil))))))
      (C8.pss_cut (ps_if (pt_cmpR op_eq (C8.pe_c cDraw hr (by decide) rfl (pa_cons (pv 1) (pa_cons pe_int pa_nil))) pe_int (nomark _)) (pss_cons (ps_set (i := 3) scLaw.nd rfl (Or.inl rfl) (C8.pe_c cPick hr (by decide) rfl (pa_cons (pv 1) (pa_cons (pe_lst (pa_cons pe_str (pa_cons pe_str (pa_cons pe_str (pa_cons pe_non (pa_cons pe_int (pa_cons pe_str (pa_cons (pe_lst (pa_cons pe_str pa_nil)) (pa_cons pe_str (pa_cons pe_bl pa_nil)))))))))) pa_nil)))) (pss_one (ps_expr (pe_bm PySem.F.plainAttrs_list PySem.F.slot_list_insert PySem.F.type_list_insert mt_insert (pv 8) (pa_cons (C8.pe_c cDraw hr (by decide) rfl (pa_cons (pv 1) (pa_cons (pe_op op_add (pe_callB call_len_seq (by rfl) T.blen (by decide +kernel) (pa_cons (pv 8) pa_nil)) pe_int) pa_nil))) (pa_cons (pv 3) pa_nil)))))) pss_nil)
      (pss_cons (ps_set (i := 4) scLaw.nd rfl (Or.inl rfl) (C8.pe_c cDue hr (by decide) rfl (pa_cons (pv 9) (pa_cons (pv 8) pa_nil))))
      (pss_cons (ps_set (i := 5) scLaw.nd rfl (Or.inl rfl) (pe_callTy call_list_of (by rfl) T.blist (by decide +kernel) (pa_cons (pv 8) pa_nil)))
      (pss_cons (ps_if (PW.pt (pw_or (pt_cmpR op_ne (pe_callB (call_reprD gd hr.units S) (by rfl) T.brepr (by decide +kernel) (pa_cons (pe_lamcall (T := TT) (TT := THeard c C) (c := cc) (P := Pc) (Ng := NHeard) (a := "_law_ask") (t := fun E => tCallS (spMade K c C TW TT) (fun _ => E) (tCons (tVar 9) (tCons (tVar 8) tNil))) rfl gH FH.kp lkH hcH hbH scHeard rfl (Or.inl rfl) (heard_gives (hr.mono (by decide)) T E G) TB rfl hmT hu2 (k := 7) (hr.mono (by decide)) (lamS_by (sc := defScope sLaw) (by decide +kernel)) rfl (fun _ _ _ _ _ => rfl) (fun A outer s H E f c2 hr2 => pe_callS (CX := L2.CX P w) (E := fun _ => E) FM hr2 rfl gM kM hbM (fun σ pins H s e s' I h => L2passOf (takes_of rfl rfl rfl rfl) pins σ H s e s' I h) (pa_cons (pv 9) (pa_cons (pv 8) pa_nil)))) pa_nil)) (pe_callB (call_reprD gd hr.units S) (by rfl) T.brepr (by decide +kernel) (pa_cons (pv 4) pa_nil)) (nomark _)) (pw_or1 (pt_cmpR op_ne (pe_callB (call_reprD gd hr.units S) (by rfl) T.brepr (by decide +kernel) (pa_cons (pv 8) pa_nil)) (pe_callB (call_reprD gd hr.units S) (by rfl) T.brepr (by decide +kernel) (pa_cons (pv 5) pa_nil)) (nomark _))))) (pss_one (ps_ret pe_bl)) pss_nil)
      (pss_one (ps_if (pt_cmpR op_eq (pe_ix ix_tup (pv 4) pe_int (fun _ _ => rfl)) pe_str (nomark _)) (pss_cons (ps_set (i := 6) scLaw.nd rfl (Or.inl rfl) (pe_callS (CX := L2.CX P w) (E := fun _ => L2.E0) FM (hr.mono (by decide)) rfl gM kM hbM (fun σ pins H s e s' I h => passL pins σ H s e s' I h) (pa_cons (pv 9) (pa_cons (pv 8) pa_nil)))) (pss_cons (ps_expr (pe_bm PySem.F.plainAttrs_list PySem.F.slot_list_append PySem.F.type_list_append (show MtR _ "list.append" rAppend from fun pins s σ H x vs v us Q I rx rv h => mt_append pins s σ H x vs v us Q I rx rv h) (pv 8) (pa_cons pe_str pa_nil))) (pss_one (ps_if (PW.pt (pw_or (pt_cmpR op_ne (pe_callB (call_reprD gd hr.units S) (by rfl) T.brepr (by decide +kernel) (pa_cons (pe_prop (E := C8.E0) (pv 6) G.c Pp Fp (hr.mono (by decide)) bp .nil pass0 rfl) pa_nil)) (pe_callB (call_reprD gd hr.units S) (by rfl) T.brepr (by decide +kernel) (pa_cons (pe_ix ix_tup (pv 4) pe_int (fun _ _ => rfl)) pa_nil)) (nomark _)) (pw_or1 (pt_not (pt_val (C8.pe_c cAlike hr (by decide) rfl (pa_cons (pv 9) (pa_cons (pv 5) pa_nil)))))))) (pss_one (ps_ret pe_bl)) pss_nil)))) pss_nil))))))))))
      (pss_cons (ps_set (i := 7) scLaw.nd rfl (Or.inl rfl) (StX.pe_makeR M FI (hr.mono (by decide)) rfl gC passL (pa_cons pe_str pa_nil)))
      (pss_one (ps_ret (pe_and (pe_cmpR (op_eqD hr.units) (pe_prop (E := C8.E0) (pv 7) G.c Pp Fp (hr.mono (by decide)) bp .nil pass0 rfl) (pe_tup pa_nil) (nomark _)) (pe_and (pe_cmpR (op_eqD hr.units) (ClX.pe_cval (C8.pe_gc (v := .ref C) rfl ⟨_, gC, rfl⟩)) (pe_tup (pa_cons pe_str (pa_cons pe_str (pa_cons pe_str (pa_cons pe_str (pa_cons pe_str pa_nil)))))) (nomark _)) (pe_one (pe_cmpR (op_eqOwn FEq hbE pass0 (hr.mono (by decide))) (pv 7) (NB.pe_makeKS (ks := ["pins"]) M FK (hr.mono (by decide)) rfl gC passL (pa_cons pe_str pa_nil) (pk_cons (pe_tup pa_nil) pk_nil)) (nomark _)))))))))), ?_⟩
    refine ⟨_, rfl, a, ns, rfl, hS, fun p c1 ms H1 hp hc1 P1 s1 => ?_⟩
    have I1 : LawI TT p c1 0 H1 := ⟨⟨ms, 0, 29, 0, P1, Int.le_refl _⟩, hTb.ext s1⟩
    clear hp hc1 P1 s1
    have lz : 60 ≤ sizeLine := by decide
    have ne : ∀ z : Str, ¬ (!decide (V.str z = V.str z)) = true := fun z h => by
      rw [decide_eq_true rfl] at h
      cases h
    refine ⟨8, rfl, by decide, by decide, ?_⟩
    refine for_range (n := 8) (fun i σ H' => ∃ x2 x3 x4 x5 x6 x7 x8 x9, σ = [some (.ref a), some (.ref p), x2, x3, x4, x5, x6, x7, x8, x9] ∧ LawI TT p c1 (100 * i) H') ?_ ?_ ?_
    · exact ⟨_, _, _, _, _, _, _, _, rfl, I1⟩
    · rintro i σ H2 hi ⟨x2, x3, x4, x5, x6, x7, x8, x9, rfl, I2⟩
      have hi8 : (i : Int) < 8 := by omega
      obtain ⟨ns1, r1, sd1, n1, P1, hn1⟩ := id (I2).pen
      refine ⟨_, rfl, by show 5 ≤ sizeLine; decide, fun u0 hu0 => ?_⟩
      have s3 : Same H2 (upd H2 u0 (.lst [.str (Str.ofString "dead"), .str (Str.ofString "far"), .str (Str.ofString "old"), .str (Str.ofString "clean"), .str (Str.ofString "cheap")])) := Same.new hu0
      have np0 : u0 ≠ p := (ne_of_none P1.hp hu0).symm
      have nc0 : u0 ≠ c1 := (ne_of_none P1.hc hu0).symm
      have P3 := P1.same s3
      have I3 := (I2).same s3
      refine ⟨p, c1, ns1, r1, sd1, n1, u0, _, rfl, P3, by omega, SqL.of upd_same, np0, nc0, by decide, fun ys l H4 hlen hmem d4 hl0 hl lp lc => ?_⟩
      have hlen : ys.length = 5 := hlen
      have I4 : LawI TT p c1 (100 * i + 20) H4 := ⟨(let ⟨a1, a2, a3, a4, a5, a6, _⟩ := d4; ⟨a1, a2, a3, a4, a5, by omega⟩), tabsDrawn I3.tab P3 d4⟩
      obtain ⟨ns4, r4, sd4, n4, P4, hn4⟩ := id I4.pen
      have str4 : ∀ y ∈ ys, ∃ z, y = V.str z ∧ z ∈ wordT ++ pinT := fun y hy => by
        have q := hmem y hy
        simp only [List.mem_cons, List.not_mem_nil, or_false] at q
        rcases q with rfl | rfl | rfl | rfl | rfl <;> exact ⟨_, rfl, by decide +kernel⟩
      clear s3 P3 I3 P1 hu0 hmem d4 
      refine ⟨_, rfl, p, c1, ns4, r4, sd4, n4, 6, rfl, P4, by omega, by decide, by decide, fun dn H5 d0 d1 d5 => ?_⟩
      obtain ⟨dn, rfl⟩ := Int.eq_ofNat_of_zero_le d0
      have I5 : LawI TT p c1 (100 * i + 21) H5 := ⟨(let ⟨a1, a2, a3, a4, a5, a6, _⟩ := d5; ⟨a1, a2, a3, a4, a5, by omega⟩), tabsDrawn I4.tab P4 d5⟩
      have hl5 : H5 l = some (.lst ys) := (let ⟨_, _, _, _, _, _, b⟩ := d5; b _ _ hl lp lc)
      clear d0 d5 P4 I4 hl hl0 
      refine ⟨_, rfl, l, ys, rfl, SqL.of hl5, fun lw hlw => ?_⟩
      rw [cut_to]
      have s6 : Same H5 (upd H5 lw (.lst (ys.take dn))) := Same.new hlw
      have g6 : upd H5 lw (.lst (ys.take dn)) lw = some (.lst (ys.take dn)) := upd_same
      have I6 := I5.same s6
      obtain ⟨ns6, r6, sd6, n6, P6, hn6⟩ := id I6.pen
      have nplw : lw ≠ p := by
        obtain ⟨_, _, _, _, P5, _⟩ := I5.pen
        exact (ne_of_none P5.hp hlw).symm
      have nclw : lw ≠ c1 := by
        obtain ⟨_, _, _, _, P5, _⟩ := I5.pen
        exact (ne_of_none P5.hc hlw).symm
      have W6 : Wk p c1 lw (ys.take dn) 5 (upd H5 lw (.lst (ys.take dn))) := ⟨g6, nplw, nclw, by rw [List.length_take]; omega, fun v hv => (let ⟨z, e, m⟩ := str4 v (List.mem_of_mem_take hv); e ▸ .tx m)⟩
      have str6 : ∀ v ∈ ys.take dn, v ≠ V.ref lw := fun v hv => (let ⟨z, e, m⟩ := str4 v (List.mem_of_mem_take hv); fun q => by rw [e] at q; cases q)
      generalize (upd H5 lw (.lst (ys.take dn))) = H6 at *
      generalize ys.take dn = ws0 at *
      clear I5 hl5 s6 str4 hlen 
      refine ⟨fun σ' H' => ∃ x3 ws, σ' = [some (.ref a), some (.ref p), some (.int (0 + (i : Int))), x3, x4, x5, x6, x7, x8, some (.ref lw)] ∧ LawI TT p c1 (100 * i + 24) H' ∧ Wk p c1 lw ws 6 H' ∧ (∀ v ∈ ws, v ≠ V.ref lw), ?_, ?_⟩
      · refine ⟨_, rfl, p, c1, ns6, r6, sd6, n6, 3, rfl, P6, by omega, by decide, by decide, fun dk H7 d0 d1 d7 => ?_⟩
        have I7 : LawI TT p c1 (100 * i + 22) H7 := ⟨(let ⟨a1, a2, a3, a4, a5, a6, _⟩ := d7; ⟨a1, a2, a3, a4, a5, by omega⟩), tabsDrawn I6.tab P6 d7⟩
        have W7 := W6.drawn P6 d7
        refine ⟨rfl, _, rfl, ite2 (fun _ => ?_) (fun _ => ⟨_, _, rfl, I7.mono (by omega), (⟨W7.at_, W7.np, W7.nc, Nat.le_trans W7.few (by decide), W7.ov⟩), str6⟩)⟩
        obtain ⟨ns7, r7, sd7, n7, P7, hn7⟩ := id I7.pen
        refine ⟨_, rfl, ?_⟩
        refine ⟨by show 1 ≤ sizeLine; decide, fun a1 h1 => ?_⟩
        have t1 : Same H7 (upd H7 a1 (.lst [.str (Str.ofString "far")])) := Same.new h1
        have g1a : upd H7 a1 (.lst [.str (Str.ofString "far")]) a1 = some (.lst [.str (Str.ofString "far")]) := upd_same
        have J1 := I7.same t1
        have V1 := W7.same t1
        have nla1 : a1 ≠ lw := (ne_of_none W7.at_ h1).symm
        generalize (upd H7 a1 (.lst [.str (Str.ofString "far")])) = G1 at *
        refine ⟨by show 1 ≤ sizeLine; decide, fun a2 h2 => ?_⟩
        have t2 : Same G1 (upd G1 a2 (.tup [.str (Str.ofString "far")])) := Same.new h2
        have g2a : upd G1 a2 (.tup [.str (Str.ofString "far")]) a2 = some (.tup [.str (Str.ofString "far")]) := upd_same
        have J2 := J1.same t2
        have V2 := V1.same t2
        have nla2 : a2 ≠ lw := (ne_of_none V1.at_ h2).symm
        have g1aa := t2 _ _ g1a
        generalize (upd G1 a2 (.tup [.str (Str.ofString "far")])) = G2 at *
        refine ⟨by show 10 ≤ sizeLine; decide, fun u1 hu1 => ?_⟩
        have t9 : Same G2 (upd G2 u1 (.lst [.str (Str.ofString "far"), .str (Str.ofString "Far"), .str (Str.ofString ""), .non, .int 7, .str (Str.ofString "near"), .ref a1, .str (Str.ofString "old "), .bl true, .ref a2])) := Same.new hu1
        have J9 := J2.same t9
        have V9 := V2.same t9
        have g1z := t9 _ _ g1aa
        have g2z := t9 _ _ g2a
        obtain ⟨ns9, r9, sd9, n9, P9, hn9⟩ := id J9.pen
        obtain ⟨_, _, _, _, Pk, _⟩ := id J2.pen
        have npu : u1 ≠ p := (ne_of_none Pk.hp hu1).symm
        have ncu : u1 ≠ c1 := (ne_of_none Pk.hc hu1).symm
        refine ⟨p, c1, ns9, r9, sd9, n9, u1, _, rfl, P9, by omega, SqL.of upd_same, npu, ncu, by show 0 < 10; decide, by show 10 < 1000; decide, fun ov H10 hov d10 => ?_⟩
        have ovs : Ov (upd G2 u1 (.lst [.str (Str.ofString "far"), .str (Str.ofString "Far"), .str (Str.ofString ""), .non, .int 7, .str (Str.ofString "near"), .ref a1, .str (Str.ofString "old "), .bl true, .ref a2])) ov ∧ ov ≠ V.ref lw := by
          simp only [List.mem_cons, List.not_mem_nil, or_false] at hov
          rcases hov with rfl | rfl | rfl | rfl | rfl | rfl | rfl | rfl | rfl | rfl
          · exact ⟨.tx (by decide +kernel), fun q => by cases q⟩
          · exact ⟨.tx (by decide +kernel), fun q => by cases q⟩
          · exact ⟨.tx (by decide +kernel), fun q => by cases q⟩
          · exact ⟨.non, fun q => by cases q⟩
          · exact ⟨.i7, fun q => by cases q⟩
          · exact ⟨.tx (by decide +kernel), fun q => by cases q⟩
          · exact ⟨.lst g1z (by decide +kernel), fun q => nla1 (by injection q)⟩
          · exact ⟨.tx (by decide +kernel), fun q => by cases q⟩
          · exact ⟨.tr, fun q => by cases q⟩
          · exact ⟨.tup g2z (by decide +kernel), fun q => nla2 (by injection q)⟩
        have I10 : LawI TT p c1 (100 * i + 23) H10 := ⟨(let ⟨a1, a2, a3, a4, a5, a6, _⟩ := d10; ⟨a1, a2, a3, a4, a5, by omega⟩), tabsDrawn J9.tab P9 d10⟩
        have W10 := V9.drawn P9 d10
        have O10 := ovs.1.drawn P9 d10
        obtain ⟨ns10, r10, sd10, n10, P10, hn10⟩ := id I10.pen
        have fw := W10.few
        refine ⟨_, rfl, .inl ⟨rfl, _, SqL.of W10.at_⟩, _, rfl, _, rfl, lw, _, rfl, .inl (SqL.of W10.at_), _, _, rfl, rfl, p, c1, ns10, r10, sd10, n10, _, rfl, P10, by omega, by omega, by omega, fun dj H11 e0 e1 d11 => ?_⟩
        have I11 : LawI TT p c1 (100 * i + 24) H11 := ⟨(let ⟨a1, a2, a3, a4, a5, a6, _⟩ := d11; ⟨a1, a2, a3, a4, a5, by omega⟩), tabsDrawn I10.tab P10 d11⟩
        have W11 := W10.drawn P10 d11
        have O11 := O10.drawn P10 d11
        obtain ⟨dj, rfl⟩ := Int.eq_ofNat_of_zero_le e0
        refine ⟨_, rfl, lw, _, _, _, rfl, rfl, W11.at_, by omega, by omega, by omega, ?_⟩
        rw [Int.toNat_natCast]
        refine ⟨_, _, rfl, I11.put W11.at_ W11.np W11.nc, ⟨upd_same, W11.np, W11.nc, ?_, fun v hv => ?_⟩, fun v hv => ?_⟩
        · have := W11.few
          simp only [List.length_append, List.length_take, List.length_drop, List.length_cons, List.length_nil]
          omega
        · refine Ov.put (H := H11) (l := lw) (fun b o h n => (upd_ne n).trans h) ?_ ?_
          · rcases List.mem_append.mp hv with h | h
            · rcases List.mem_append.mp h with h | h
              · exact str6 v (List.mem_of_mem_take h)
              · rw [List.mem_singleton.mp h]; exact ovs.2
            · exact str6 v (List.mem_of_mem_drop h)
          · rcases List.mem_append.mp hv with h | h
            · rcases List.mem_append.mp h with h | h
              · exact W11.ov v (List.mem_of_mem_take h)
              · rw [List.mem_singleton.mp h]; exact O11
            · exact W11.ov v (List.mem_of_mem_drop h)
        · rcases List.mem_append.mp hv with h | h
          · rcases List.mem_append.mp h with h | h
            · exact str6 v (List.mem_of_mem_take h)
            · rw [List.mem_singleton.mp h]; exact ovs.2
          · exact str6 v (List.mem_of_mem_drop h)
      · rintro σ' Hw ⟨y3, ws, rfl, Iw, Ww, frw⟩
        clear W6 P6 I6 str6 g6 hn6 hn4 hn1 I2 nplw nclw hlw
        obtain ⟨ns1, r1, sd1, n1, P1, hn1⟩ := id (Iw).pen
        refine ⟨_, rfl, by show 4 ≤ sizeLine; decide, fun u0 hu0 => ?_⟩
        have s3 : Same Hw (upd Hw u0 (.lst [.str (Str.ofString "a"), .str (Str.ofString "b"), .str (Str.ofString "zzzzzz"), .str (Str.ofString "far")])) := Same.new hu0
        have np0 : u0 ≠ p := (ne_of_none P1.hp hu0).symm
        have nc0 : u0 ≠ c1 := (ne_of_none P1.hc hu0).symm
        have P3 := P1.same s3
        have I3 := (Iw).same s3
        have Ww3 := Ww.same s3
        refine ⟨p, c1, ns1, r1, sd1, n1, u0, _, rfl, P3, by omega, SqL.of upd_same, np0, nc0, by decide, fun ys l H4 hlen hmem d4 hl0 hl lp lc => ?_⟩
        have hlen : ys.length = 4 := hlen
        have I4 : LawI TT p c1 (100 * i + 44) H4 := ⟨(let ⟨a1, a2, a3, a4, a5, a6, _⟩ := d4; ⟨a1, a2, a3, a4, a5, by omega⟩), tabsDrawn I3.tab P3 d4⟩
        have Ww4 := Ww3.drawn P3 d4
        obtain ⟨ns4, r4, sd4, n4, P4, hn4⟩ := id I4.pen
        have str4 : ∀ y ∈ ys, ∃ z, y = V.str z ∧ z ∈ wordT ++ pinT := fun y hy => by
          have q := hmem y hy
          simp only [List.mem_cons, List.not_mem_nil, or_false] at q
          rcases q with rfl | rfl | rfl | rfl <;> exact ⟨_, rfl, by decide +kernel⟩
        clear s3 P3 I3 P1 hu0 hmem d4 Ww3
        refine ⟨_, rfl, p, c1, ns4, r4, sd4, n4, 4, rfl, P4, by omega, by decide, by decide, fun dn H5 d0 d1 d5 => ?_⟩
        obtain ⟨dn, rfl⟩ := Int.eq_ofNat_of_zero_le d0
        have I5 : LawI TT p c1 (100 * i + 45) H5 := ⟨(let ⟨a1, a2, a3, a4, a5, a6, _⟩ := d5; ⟨a1, a2, a3, a4, a5, by omega⟩), tabsDrawn I4.tab P4 d5⟩
        have Ww5 := Ww4.drawn P4 d5
        have hl5 : H5 l = some (.lst ys) := (let ⟨_, _, _, _, _, _, b⟩ := d5; b _ _ hl lp lc)
        clear d0 d5 P4 I4 hl hl0 Ww4
        refine ⟨_, rfl, l, ys, rfl, SqL.of hl5, fun lt hlt => ?_⟩
        rw [cut_to]
        have s6 : Same H5 (upd H5 lt (.lst (ys.take dn))) := Same.new hlt
        have g6 : upd H5 lt (.lst (ys.take dn)) lt = some (.lst (ys.take dn)) := upd_same
        have I6 := I5.same s6
        have Ww6 := Ww5.same s6
        have frWw : ∀ v ∈ ws, v ≠ V.ref lt := fun v hv => (Ww5.ov v hv).fresh hlt
        have nlWw : lw ≠ lt := ne_of_none Ww5.at_ hlt
        obtain ⟨ns6, r6, sd6, n6, P6, hn6⟩ := id I6.pen
        have nplt : lt ≠ p := by
          obtain ⟨_, _, _, _, P5, _⟩ := I5.pen
          exact (ne_of_none P5.hp hlt).symm
        have nclt : lt ≠ c1 := by
          obtain ⟨_, _, _, _, P5, _⟩ := I5.pen
          exact (ne_of_none P5.hc hlt).symm
        have W6 : Wk p c1 lt (ys.take dn) 3 (upd H5 lt (.lst (ys.take dn))) := ⟨g6, nplt, nclt, by rw [List.length_take]; omega, fun v hv => (let ⟨z, e, m⟩ := str4 v (List.mem_of_mem_take hv); e ▸ .tx m)⟩
        have str6 : ∀ v ∈ ys.take dn, v ≠ V.ref lt := fun v hv => (let ⟨z, e, m⟩ := str4 v (List.mem_of_mem_take hv); fun q => by rw [e] at q; cases q)
        generalize (upd H5 lt (.lst (ys.take dn))) = H6 at *
        generalize ys.take dn = ps0 at *
        clear I5 hl5 s6 str4 hlen Ww5
        refine ⟨fun σ' H' => ∃ x3 ps, σ' = [some (.ref a), some (.ref p), some (.int (0 + (i : Int))), x3, x4, x5, x6, x7, some (.ref lt), some (.ref lw)] ∧ LawI TT p c1 (100 * i + 48) H' ∧ Wk p c1 lt ps 4 H' ∧ (∀ v ∈ ps, v ≠ V.ref lt) ∧ Wk p c1 lw ws 6 H' ∧ (∀ v ∈ ws, v ≠ V.ref lt), ?_, ?_⟩
        · refine ⟨_, rfl, p, c1, ns6, r6, sd6, n6, 4, rfl, P6, by omega, by decide, by decide, fun dk H7 d0 d1 d7 => ?_⟩
          have I7 : LawI TT p c1 (100 * i + 46) H7 := ⟨(let ⟨a1, a2, a3, a4, a5, a6, _⟩ := d7; ⟨a1, a2, a3, a4, a5, by omega⟩), tabsDrawn I6.tab P6 d7⟩
          have W7 := W6.drawn P6 d7
          have Ww7 := Ww6.drawn P6 d7
          refine ⟨rfl, _, rfl, ite2 (fun _ => ?_) (fun _ => ⟨_, _, rfl, I7.mono (by omega), (⟨W7.at_, W7.np, W7.nc, Nat.le_trans W7.few (by decide), W7.ov⟩), str6, Ww7, frWw⟩)⟩
          obtain ⟨ns7, r7, sd7, n7, P7, hn7⟩ := id I7.pen
          refine ⟨_, rfl, ?_⟩
          refine ⟨by show 1 ≤ sizeLine; decide, fun a1 h1 => ?_⟩
          have t1 : Same H7 (upd H7 a1 (.lst [.str (Str.ofString "a")])) := Same.new h1
          have g1a : upd H7 a1 (.lst [.str (Str.ofString "a")]) a1 = some (.lst [.str (Str.ofString "a")]) := upd_same
          have J1 := I7.same t1
          have V1 := W7.same t1
          have nla1 : a1 ≠ lt := (ne_of_none W7.at_ h1).symm
          have WwJ1 := Ww7.same t1
          generalize (upd H7 a1 (.lst [.str (Str.ofString "a")])) = G1 at *
          refine ⟨by show 9 ≤ sizeLine; decide, fun u1 hu1 => ?_⟩
          have t9 : Same G1 (upd G1 u1 (.lst [.str (Str.ofString "a"), .str (Str.ofString "A"), .str (Str.ofString ""), .non, .int 7, .str (Str.ofString "toolong"), .ref a1, .str (Str.ofString "a b"), .bl true])) := Same.new hu1
          have J9 := J1.same t9
          have V9 := V1.same t9
          have WwJ9 := WwJ1.same t9
          have g1z := t9 _ _ g1a
          obtain ⟨ns9, r9, sd9, n9, P9, hn9⟩ := id J9.pen
          obtain ⟨_, _, _, _, Pk, _⟩ := id J1.pen
          have npu : u1 ≠ p := (ne_of_none Pk.hp hu1).symm
          have ncu : u1 ≠ c1 := (ne_of_none Pk.hc hu1).symm
          refine ⟨p, c1, ns9, r9, sd9, n9, u1, _, rfl, P9, by omega, SqL.of upd_same, npu, ncu, by show 0 < 9; decide, by show 9 < 1000; decide, fun ov H10 hov d10 => ?_⟩
          have ovs : Ov (upd G1 u1 (.lst [.str (Str.ofString "a"), .str (Str.ofString "A"), .str (Str.ofString ""), .non, .int 7, .str (Str.ofString "toolong"), .ref a1, .str (Str.ofString "a b"), .bl true])) ov ∧ ov ≠ V.ref lt := by
            simp only [List.mem_cons, List.not_mem_nil, or_false] at hov
            rcases hov with rfl | rfl | rfl | rfl | rfl | rfl | rfl | rfl | rfl
            · exact ⟨.tx (by decide +kernel), fun q => by cases q⟩
            · exact ⟨.tx (by decide +kernel), fun q => by cases q⟩
            · exact ⟨.tx (by decide +kernel), fun q => by cases q⟩
            · exact ⟨.non, fun q => by cases q⟩
            · exact ⟨.i7, fun q => by cases q⟩
            · exact ⟨.tx (by decide +kernel), fun q => by cases q⟩
            · exact ⟨.lst g1z (by decide +kernel), fun q => nla1 (by injection q)⟩
            · exact ⟨.tx (by decide +kernel), fun q => by cases q⟩
            · exact ⟨.tr, fun q => by cases q⟩
          have I10 : LawI TT p c1 (100 * i + 47) H10 := ⟨(let ⟨a1, a2, a3, a4, a5, a6, _⟩ := d10; ⟨a1, a2, a3, a4, a5, by omega⟩), tabsDrawn J9.tab P9 d10⟩
          have W10 := V9.drawn P9 d10
          have O10 := ovs.1.drawn P9 d10
          have Ww10 := WwJ9.drawn P9 d10
          obtain ⟨ns10, r10, sd10, n10, P10, hn10⟩ := id I10.pen
          have fw := W10.few
          refine ⟨_, rfl, .inl ⟨rfl, _, SqL.of W10.at_⟩, _, rfl, _, rfl, lt, _, rfl, .inl (SqL.of W10.at_), _, _, rfl, rfl, p, c1, ns10, r10, sd10, n10, _, rfl, P10, by omega, by omega, by omega, fun dj H11 e0 e1 d11 => ?_⟩
          have I11 : LawI TT p c1 (100 * i + 48) H11 := ⟨(let ⟨a1, a2, a3, a4, a5, a6, _⟩ := d11; ⟨a1, a2, a3, a4, a5, by omega⟩), tabsDrawn I10.tab P10 d11⟩
          have W11 := W10.drawn P10 d11
          have O11 := O10.drawn P10 d11
          have Ww11 := Ww10.drawn P10 d11
          obtain ⟨dj, rfl⟩ := Int.eq_ofNat_of_zero_le e0
          refine ⟨_, rfl, lt, _, _, _, rfl, rfl, W11.at_, by omega, by omega, by omega, ?_⟩
          rw [Int.toNat_natCast]
          refine ⟨_, _, rfl, I11.put W11.at_ W11.np W11.nc, ⟨upd_same, W11.np, W11.nc, ?_, fun v hv => ?_⟩, fun v hv => ?_, ⟨(upd_ne nlWw).trans Ww11.at_, Ww11.np, Ww11.nc, Ww11.few, fun v hv => (Ww11.ov v hv).put (fun b o h n => (upd_ne n).trans h) (frWw v hv)⟩, frWw⟩
          · have := W11.few
            simp only [List.length_append, List.length_take, List.length_drop, List.length_cons, List.length_nil]
            omega
          · refine Ov.put (H := H11) (l := lt) (fun b o h n => (upd_ne n).trans h) ?_ ?_
            · rcases List.mem_append.mp hv with h | h
              · rcases List.mem_append.mp h with h | h
                · exact str6 v (List.mem_of_mem_take h)
                · rw [List.mem_singleton.mp h]; exact ovs.2
              · exact str6 v (List.mem_of_mem_drop h)
            · rcases List.mem_append.mp hv with h | h
              · rcases List.mem_append.mp h with h | h
                · exact W11.ov v (List.mem_of_mem_take h)
                · rw [List.mem_singleton.mp h]; exact O11
              · exact W11.ov v (List.mem_of_mem_drop h)
          · rcases List.mem_append.mp hv with h | h
            · rcases List.mem_append.mp h with h | h
              · exact str6 v (List.mem_of_mem_take h)
              · rw [List.mem_singleton.mp h]; exact ovs.2
            · exact str6 v (List.mem_of_mem_drop h)
        · rintro σ' Hx ⟨z3, ps, rfl, Ix, Wt, frt, Wx, frx⟩
          clear W6 P6 I6 str6 g6 hn6 hn4 hn1 Ww6 frWw hlt
          obtain ⟨r, hD, hdd⟩ := due_any K Wx.ov Wt.ov
          obtain ⟨dd, hdd⟩ : ∃ d, ∀ f, r = some f → Vd K Hx f.val d := by
            cases r with
            | none => exact ⟨.none, fun f e => by cases e⟩
            | some f =>
              obtain ⟨d, hd⟩ := hdd f rfl
              exact ⟨d, fun g e => by cases e; exact hd⟩
          obtain ⟨dw, hdw⟩ := vds (K := K) ws Wx.ov
          obtain ⟨dp, hdp⟩ := vds (K := K) ps Wt.ov
          have fw := Wx.few
          have fp := Wt.few
          refine ⟨_, rfl, _, rfl, lw, lt, ws, ps, r, rfl, SqL.of Wx.at_, SqL.of Wt.at_, fw, by omega, fun v hv => (Wx.ov v hv).el, okp Wt.ov, hD, says_of (K := K) fun pd Hd sd an => ?_⟩
          have Xd := ExtN.of sd
          refine ⟨_, rfl, lt, ps, rfl, .inl (SqL.of (sd _ _ Wt.at_)), fun lp hlp => ?_⟩
          have sp : Same Hd (upd Hd lp (.lst ps)) := Same.new hlp
          have glp : upd Hd lp (.lst ps) lp = some (.lst ps) := upd_same
          have lpt : lt ≠ lp := ne_of_none (sd _ _ Wt.at_) hlp
          have Xp := Xd.trans (ExtN.of sp)
          have Ip := Ix.ext Xp (Ix.tab.ext (sd.trans sp))
          have an := an.ext (ExtN.of sp)
          generalize (upd Hd lp (.lst ps)) = Hp at *
          have Wxp := Wx.ext Xp
          have Wtp := Wt.ext Xp
          refine ⟨Ip.tab, fun Hh eh th => ?_⟩
          have Xh := Xp.trans eh
          refine heard_of (c := c) (TW := TW) (lw := lw) (lt := lt) (ws := ws) (ps := ps) (r := r) (Wx.ext Xh).at_ (Wt.ext Xh).at_ fw (by omega) (hD.ext Xh) th (fun E R H0 h => ⟨_, rfl, _, rfl, h⟩) fun pa Ha ea ta ana => ?_
          have Xa := Xh.trans ea
          have Ia := Ix.ext Xa ta
          have an := an.ext (eh.trans ea)
          have glp := (eh.trans ea) _ _ glp (by intro p e; cases e)
          clear eh th ea Ip Wxp Wtp Xh Xp Xd sd sp hlp
          dsimp only [tNil]
          refine Ans.ask ana (fun f e => (hdd f e).ext Xa) (hdw.ext Xa) (hdp.ext Xa) (by omega) (by omega) ?_
          refine ⟨_, rfl, ?_⟩
          dsimp only [tNil]
          refine Ans.ask an (fun f e => (hdd f e).ext Xa) (hdw.ext Xa) (hdp.ext Xa) (by omega) (by omega) ?_
          refine ⟨rfl, _, rfl, ite2 (fun h => absurd h (ne _)) (fun _ => ?_)⟩
          refine ⟨_, rfl, ?_⟩
          dsimp only [tNil]
          refine Vds.askL (hdp.ext Xa) (by omega) (SqL.of (Wt.ext Xa).at_) ?_
          refine ⟨_, rfl, ?_⟩
          dsimp only [tNil]
          refine Vds.askL (hdp.ext Xa) (by omega) (SqL.of glp) ?_
          refine ⟨rfl, _, rfl, ite2 (fun h => absurd h (ne _)) (fun _ => ?_)⟩
          cases r with
          | some f =>
            have nt : (decide (V.str f.word = V.str (Str.ofString "told"))) = false := by
              have h : ∀ w : Str, (w = "rule" ∨ w = "name" ∨ w = "twice") → (decide (V.str w = V.str (Str.ofString "told"))) = false := fun w h => by
                rcases h with rfl | rfl | rfl <;> decide +kernel
              cases f with
              | ru v => exact h _ (.inl rfl)
              | nm v => exact h _ (.inr (.inl rfl))
              | tw z => exact h _ (.inr (.inr rfl))
            refine ⟨_, rfl, pd, _, ((0 : Nat) : Int), .str f.word, rfl, rfl, SqT.of an, atI_nat rfl, rfl, _, rfl, ?_⟩
            rw [nt]
            exact iteF ⟨_, _, _, _, _, _, _, _, rfl, Ia.mono (by omega)⟩
          | none =>
            obtain ⟨us, zs, ew, ep, une, uw2, zn, znr⟩ := due_told hD
            obtain ⟨qd, td, gd1, gd2, gd3⟩ := an
            refine ⟨_, rfl, pd, _, ((0 : Nat) : Int), .str (Str.ofString "told"), rfl, rfl, SqT.of gd1, atI_nat rfl, rfl, _, rfl, iteT ?_⟩
            subst ew ep
            have nq := noq Wt.ov
            rw [List.length_map] at fw fp
            refine ⟨_, rfl, _, rfl, made_of (c := c) (TW := TW) (SqL.of (Wx.ext Xa).at_) (.inl (SqL.of (Wt.ext Xa).at_)) fw (by omega) une uw2 zn znr ta fun x1 Hm em tm Rm => ?_⟩
            have Xm := Xa.trans em
            have Im := Ix.ext Xm tm
            have lwm := (Wx.ext Xm).at_
            have ltm := (Wt.ext Xm).at_
            have glp := em _ _ glp (by intro p e; cases e)
            have gd1 := em _ _ gd1 (by intro p e; cases e)
            have gd3 := NI.sqT_ext em gd3
            obtain ⟨dx, q1, t1, h1, h2, h3⟩ := Rm
            refine ⟨_, rfl, .inl ⟨rfl, _, SqL.of ltm⟩, lt, _, _, rfl, rfl, ltm, by rw [List.length_map]; omega, ?_⟩
            have Iq := Im.put (ys := zs.map V.str ++ [.str (Str.ofString "q")]) ltm Wt.np Wt.nc
            have h1 := (upd_ne (o := .lst (zs.map V.str ++ [.str (Str.ofString "q")])) (fun e : x1 = lt => by rw [e, ltm] at h1; cases h1)).trans h1
            have h3 := sqT_lst (o := .lst (zs.map V.str ++ [.str (Str.ofString "q")])) ltm h3
            have gd1 := (upd_ne (o := .lst (zs.map V.str ++ [.str (Str.ofString "q")])) (fun e : pd = lt => by rw [e, ltm] at gd1; cases gd1)).trans gd1
            have gd3 := sqT_lst (o := .lst (zs.map V.str ++ [.str (Str.ofString "q")])) ltm gd3
            have lwq := (upd_ne (o := .lst (zs.map V.str ++ [.str (Str.ofString "q")])) nlWw).trans lwm
            have glp := (upd_ne (o := .lst (zs.map V.str ++ [.str (Str.ofString "q")])) lpt.symm).trans glp
            obtain ⟨dq, hdq⟩ := vds (K := K) (H := upd Hm lt (.lst (zs.map V.str ++ [.str (Str.ofString "q")]))) (zs.map V.str) fun v hv => by
              have o := Wt.ov v hv
              obtain ⟨z, _, rfl⟩ := List.mem_map.mp hv
              cases o with
              | tx m => exact .tx m
            generalize (upd Hm lt (.lst (zs.map V.str ++ [.str (Str.ofString "q")]))) = Hq at *
            refine ⟨_, rfl, x1, dx, _, rfl, h1, _, dx, _, _, rfl, h1, rfl, ?_⟩
            dsimp only [tNil]
            refine Vds.askT hdq (by rw [List.length_map]; omega) h3 ?_
            refine ⟨_, rfl, pd, _, ((2 : Nat) : Int), .ref td, rfl, rfl, SqT.of gd1, atI_nat rfl, ?_⟩
            dsimp only [tNil]
            refine Vds.askT hdq (by rw [List.length_map]; omega) gd3 ?_
            refine ⟨rfl, _, rfl, ite2 (fun h => absurd h (ne _)) (fun _ => ?_)⟩
            exact ⟨_, rfl, _, rfl, lw, lp, us, zs, rfl, lwq, SqL.of glp, une, fw, uw2, by omega, zn, znr, nq, Iq.tab, fun H' e t => ⟨_, rfl, iteF ⟨_, _, _, _, _, _, _, _, rfl, (Iq.ext e t).mono (by omega)⟩⟩⟩
    · rintro σ H2 ⟨x2, x3, x4, x5, x6, x7, x8, x9, rfl, I2⟩
      dsimp only [tSeq, tAsg]
      refine old_coreR (c := c) rc t0e fun y Hy sy Ry => ?_
      obtain ⟨dy, q1, t1, h1, h2, h3⟩ := id Ry
      refine ⟨_, rfl, y, dy, _, rfl, h1, _, dy, _, _, rfl, h1, rfl, ?_⟩
      refine ⟨by show 0 ≤ sizeLine; decide, fun e1 he1 => ?_⟩
      have s1 : Same Hy (upd Hy e1 (.tup [])) := Same.new he1
      refine ⟨_, _, .tup (NI.sqT_same s1 h3) .nil, .tup (SqT.of upd_same) .nil, by decide +kernel, by decide +kernel, _, rfl, iteT ?_⟩
      refine ⟨C, mc, .ref TW, uw, rfl, rdC, cvC, ?_⟩
      refine ⟨by show 5 ≤ sizeLine; decide, fun e2 he2 => ?_⟩
      have s2 := s1.trans (Same.new (o := .tup (WORDS.map V.str)) he2)
      refine ⟨_, _, .tup (rc.tup _) (dpTxts WORDS), .tup (SqT.of upd_same) (dpTxts WORDS), shapedTup words_nm, shapedTup words_nm, ?_⟩
      rw [eqvTup, decide_eq_true rfl]
      refine ⟨_, rfl, iteT ?_⟩
      refine ⟨_, rfl, old_coreK (c := c) rc fun y2 Hz sz Rz => ?_⟩
      exact eq_rr (us := ["old"]) (zs := []) (us2 := ["old"]) (zs2 := []) (neg := false) t (Ry.same (s2.trans sz)) Rz (by decide +kernel) nofun (by decide +kernel) nofun (v := true) rfl (k _)
end
end K71

set_option Elab.async false
set_option linter.all false
set_option maxRecDepth 100000
set_option maxHeartbeats 8000000
namespace K71
open PySem L2 NX NU LamX PySem.Spec PyProof.Rows
structure HeadF (K : PySem.W.Frag) (CS cR cN cT C TW fI t0 pW pP fER fEN fET gW gP fEq fIs fCns fCun fPen fDraw fPick fMix fHeard fDue fAlike fMade cMade pMade fLaw cLaw pLaw : Addr) : Prop where
  n_int : PySem.W.nsIn K mainGlobals "int" = some none
  n_len : PySem.W.nsIn K mainGlobals "len" = some none
  n_abs : PySem.W.nsIn K mainGlobals "abs" = some none
  n_list : PySem.W.nsIn K mainGlobals "list" = some none
  n_str : PySem.W.nsIn K mainGlobals "str" = some none
  n_tuple : PySem.W.nsIn K mainGlobals "tuple" = some none
  n_isinstance : PySem.W.nsIn K mainGlobals "isinstance" = some none
  n_repr : PySem.W.nsIn K mainGlobals "repr" = some none
  n_range : PySem.W.nsIn K mainGlobals "range" = some none
  n_enumerate : PySem.W.nsIn K mainGlobals "enumerate" = some none
  n_ValueError : PySem.W.nsIn K mainGlobals "ValueError" = some none
  gLet : ∃ t, PySem.W.nsIn K mainGlobals "LETTERS" = some (some (.str "abcdefghijklmnopqrstuvwxyz" t))
  gMost : ∃ t, PySem.W.nsIn K mainGlobals "MOST_LETTERS" = some (some (.int 6 t))
  base : BaseF K CS
  eR : ErrF K "BadRule" "value" cR fER CS
  eN : ErrF K "BadName" "value" cN fEN CS
  eT : ErrF K "Twice" "name" cT fET CS
  k_RN : PySem.W.kitOne K (.ref cR) (.ref cN) = some false
  k_RT : PySem.W.kitOne K (.ref cR) (.ref cT) = some false
  k_NR : PySem.W.kitOne K (.ref cN) (.ref cR) = some false
  k_NT : PySem.W.kitOne K (.ref cN) (.ref cT) = some false
  k_TR : PySem.W.kitOne K (.ref cT) (.ref cR) = some false
  k_TN : PySem.W.kitOne K (.ref cT) (.ref cN) = some false
  kC : ClsF K "Rule" C fI
  nw : PySem.W.findIn K (.ref C) "_words" = some none
  np : PySem.W.findIn K (.ref C) "_pins" = some none
  wAt : PySem.W.findIn K (.ref C) "WORDS" = some (some (.ref TW))
  wGet : PySem.W.specialIn K (.ref TW) "__get__" = some none
  wTup : ∀ H : Hp, SqT K H TW (WORDS.map V.str)
  tTup : ∀ H : Hp, SqT K H t0 (([] : List Str).map V.str)
  rdC : RdF K C
  wVal : PySem.W.findCls K (.ref C) (.type "type") "WORDS" = some (.val (.ref TW))
  eq_ : PySem.W.findIn K (.ref C) "__eq__" = some (some (.ref fEq))
  ne_ : PySem.W.findIn K (.ref C) "__ne__" = some (some (.builtin "object.__ne__"))
  isf : PySem.W.isFn K (.ref fEq) = true
  ob : PySem.W.mroIn K C (.type "object") = some true
  cl_ : PySem.W.findIn K (.ref C) "__class__" = some (some (.builtin "object.__class__"))
  kl : PySem.W.kitOne K (.type "list") (.ref C) = some false
  kt : PySem.W.kitOne K (.type "tuple") (.ref C) = some false
  kc : PySem.W.kitOne K (.ref C) (.ref C) = some true
  nf1 : PySem.W.notFirst K C (.ref C) = true
  nf2 : PySem.W.notFirst K C (.type "list") = true
  nf3 : PySem.W.notFirst K C (.type "tuple") = true
  pW_at : PySem.W.findIn K (.ref C) "words" = some (some (.ref pW))
  pW_g : PySem.W.specialIn K (.ref pW) "__get__" = some (some (.builtin "property.__get__"))
  pW_t : PySem.W.takesIn K (.ref pW) = some true
  pW_r : ∃ rest, PySem.W.recIn K pW "property" = some (Value.ref gW :: rest)
  pP_at : PySem.W.findIn K (.ref C) "pins" = some (some (.ref pP))
  pP_g : PySem.W.specialIn K (.ref pP) "__get__" = some (some (.builtin "property.__get__"))
  pP_t : PySem.W.takesIn K (.ref pP) = some true
  pP_r : ∃ rest, PySem.W.recIn K pP "property" = some (Value.ref gP :: rest)
  w_fER : FnF K "__init__" "BadRule.__init__" sErrR fER
  w_fEN : FnF K "__init__" "BadName.__init__" sErrN fEN
  w_fET : FnF K "__init__" "Twice.__init__" sErrT fET
  w_gW : FnF K "words" "Rule.words" (inClass (top 13) 2) gW
  w_gP : FnF K "pins" "Rule.pins" (inClass (top 13) 3) gP
  w_fEq : FnF K "__eq__" "Rule.__eq__" sREq fEq
  w_fI : ∃ fd, L2.FunD K "__init__" "Rule.__init__" (defArgs sInit) (defBody sInit) (defScope sInit) [] [("pins", .ref t0)] fI fd
  g_fIs : PySem.W.nsIn K mainGlobals "is_name" = some (some (.ref fIs))
  w_fIs : FnF K "is_name" "is_name" sIs fIs
  g_fCns : PySem.W.nsIn K mainGlobals "check_names" = some (some (.ref fCns))
  w_fCns : FnF K "check_names" "check_names" sCns fCns
  g_fCun : PySem.W.nsIn K mainGlobals "check_unlike" = some (some (.ref fCun))
  w_fCun : FnF K "check_unlike" "check_unlike" sCun fCun
  g_fPen : PySem.W.nsIn K mainGlobals "_law_pen" = some (some (.ref fPen))
  w_fPen : FnF K "_law_pen" "_law_pen" sPen fPen
  g_fDraw : PySem.W.nsIn K mainGlobals "_law_draw" = some (some (.ref fDraw))
  w_fDraw : FnF K "_law_draw" "_law_draw" sDraw fDraw
  g_fPick : PySem.W.nsIn K mainGlobals "_law_pick" = some (some (.ref fPick))
  w_fPick : FnF K "_law_pick" "_law_pick" sPick fPick
  g_fMix : PySem.W.nsIn K mainGlobals "_law_mixed" = some (some (.ref fMix))
  w_fMix : FnF K "_law_mixed" "_law_mixed" sMix fMix
  g_fHeard : PySem.W.nsIn K mainGlobals "_law_heard" = some (some (.ref fHeard))
  w_fHeard : FnF K "_law_heard" "_law_heard" sHeard fHeard
  g_fDue : PySem.W.nsIn K mainGlobals "_law_due" = some (some (.ref fDue))
  w_fDue : FnF K "_law_due" "_law_due" sDueR fDue
  g_fAlike : PySem.W.nsIn K mainGlobals "_law_alike_right" = some (some (.ref fAlike))
  w_fAlike : FnF K "_law_alike_right" "_law_alike_right" sAlike fAlike
  g_fMade : PySem.W.nsIn K mainGlobals "_law_made" = some (some (.ref fMade))
  w_fMade : NX.FnT K "_law_made" sMade fMade cMade pMade
  l_Made : K.lookup pMade = none
  g_fLaw : PySem.W.nsIn K mainGlobals "law" = some (some (.ref fLaw))
  w_fLaw : NX.FnT K "law" sLaw fLaw cLaw pLaw
  l_Law : K.lookup pLaw = none
  ne1 : decide (pMade = pLaw) = false
/-- a def, its defaults by keyword set aside -/
theorem fnF_ofK {K : PySem.W.Frag} {x q : Str} {st : Stmt} {f : Addr} {kw : List (Str × V)} (h : ∃ fd, L2.FunD K x q (defArgs st) (defBody st) (defScope st) [] kw f fd) : FnF K x q st f := by
  obtain ⟨fd, F⟩ := h
  obtain ⟨oc, od, dV, kV, doc, pm, an, cdv, ct, osl, rfl, lk, hcd, hd, _⟩ := F.ex
  rcases hd with ⟨_, rfl⟩ | ⟨n, _⟩
  · exact fnF lk hcd F.kp
  · exact absurd rfl n
section
variable {K : PySem.W.Frag} {mg : Str → Option Value} {h : Heap} {CS cR cN cT C TW fI t0 pW pP fER fEN fET gW gP fEq fIs fCns fCun fPen fDraw fPick fMix fHeard fDue fAlike fMade cMade pMade fLaw cLaw pLaw : Addr}
theorem HeadF.law {l : PySem.W.OpenLaw} {w : World} {fa : Addr} (D : HeadF K CS cR cN cT C TW fI t0 pW pP fER fEN fET gW gP fEq fIs fCns fCun fPen fDraw fPick fMix fHeard fDue fAlike fMade cMade pMade fLaw cLaw pLaw) (X : K.In h) (G : h.Ns mainGlobals mg) (hfa : mg "law" = some (.ref fa))
    (tbMade : h.get? pMade = some { cls := .none, data := .fields #[] }) (tbLaw : h.get? pLaw = some { cls := .none, data := .fields #[] }) : ∃ fd cs sp, LawG l w K 11 63 "_law_script" mg fa h fd cs sp := by
  have e := hfa.symm.trans (PySem.W.mg_of X G D.g_fLaw)
  cases e
  have TB : TxtB mg := ⟨PySem.W.mg_none_of X G D.n_int, PySem.W.mg_none_of X G D.n_len, PySem.W.mg_none_of X G D.n_abs, PySem.W.mg_none_of X G D.n_list, PySem.W.mg_none_of X G D.n_str, PySem.W.mg_none_of X G D.n_tuple, PySem.W.mg_none_of X G D.n_isinstance, PySem.W.mg_none_of X G D.n_repr, PySem.W.mg_none_of X G D.n_range, PySem.W.mg_none_of X G D.n_enumerate, PySem.W.mg_none_of X G D.n_ValueError⟩
  have TN : TxtN mg := ⟨let ⟨t, e⟩ := D.gLet; ⟨t, PySem.W.mg_of X G e⟩, let ⟨t, e⟩ := D.gMost; ⟨t, PySem.W.mg_of X G e⟩⟩
  obtain ⟨fd_fER, F_fER⟩ := D.w_fER.ex
  have b_fER := F_fER.binds (ps := ["self", "value"]) fun _ _ _ _ _ _ us hl => match us, hl with | [_, _], _ => rfl
  obtain ⟨fd_fEN, F_fEN⟩ := D.w_fEN.ex
  have b_fEN := F_fEN.binds (ps := ["self", "value"]) fun _ _ _ _ _ _ us hl => match us, hl with | [_, _], _ => rfl
  obtain ⟨fd_fET, F_fET⟩ := D.w_fET.ex
  have b_fET := F_fET.binds (ps := ["self", "name"]) fun _ _ _ _ _ _ us hl => match us, hl with | [_, _], _ => rfl
  obtain ⟨fd_gW, F_gW⟩ := D.w_gW.ex
  have b_gW := F_gW.binds (ps := ["self"]) fun _ _ _ _ _ _ us hl => match us, hl with | [_], _ => rfl
  obtain ⟨fd_gP, F_gP⟩ := D.w_gP.ex
  have b_gP := F_gP.binds (ps := ["self"]) fun _ _ _ _ _ _ us hl => match us, hl with | [_], _ => rfl
  obtain ⟨fd_fEq, F_fEq⟩ := D.w_fEq.ex
  have b_fEq := F_fEq.binds (ps := ["self", "other"]) fun _ _ _ _ _ _ us hl => match us, hl with | [_, _], _ => rfl
  obtain ⟨fd_fIs, F_fIs⟩ := D.w_fIs.ex
  have b_fIs := F_fIs.binds (ps := ["value"]) fun _ _ _ _ _ _ us hl => match us, hl with | [_], _ => rfl
  obtain ⟨fd_fCns, F_fCns⟩ := D.w_fCns.ex
  have b_fCns := F_fCns.binds (ps := ["values"]) fun _ _ _ _ _ _ us hl => match us, hl with | [_], _ => rfl
  obtain ⟨fd_fCun, F_fCun⟩ := D.w_fCun.ex
  have b_fCun := F_fCun.binds (ps := ["names"]) fun _ _ _ _ _ _ us hl => match us, hl with | [_], _ => rfl
  obtain ⟨fd_fPen, F_fPen⟩ := D.w_fPen.ex
  have b_fPen := F_fPen.binds (ps := ["_law_script"]) fun _ _ _ _ _ _ us hl => match us, hl with | [_], _ => rfl
  obtain ⟨fd_fDraw, F_fDraw⟩ := D.w_fDraw.ex
  have b_fDraw := F_fDraw.binds (ps := ["_law_pen_here", "_law_many"]) fun _ _ _ _ _ _ us hl => match us, hl with | [_, _], _ => rfl
  obtain ⟨fd_fPick, F_fPick⟩ := D.w_fPick.ex
  have b_fPick := F_fPick.binds (ps := ["_law_pen_here", "_law_some"]) fun _ _ _ _ _ _ us hl => match us, hl with | [_, _], _ => rfl
  obtain ⟨fd_fMix, F_fMix⟩ := D.w_fMix.ex
  have b_fMix := F_fMix.binds (ps := ["_law_pen_here", "_law_some"]) fun _ _ _ _ _ _ us hl => match us, hl with | [_, _], _ => rfl
  obtain ⟨fd_fHeard, F_fHeard⟩ := D.w_fHeard.ex
  have b_fHeard := F_fHeard.binds (ps := ["_law_ask"]) fun _ _ _ _ _ _ us hl => match us, hl with | [_], _ => rfl
  obtain ⟨fd_fDue, F_fDue⟩ := D.w_fDue.ex
  have b_fDue := F_fDue.binds (ps := ["_law_words", "_law_tight"]) fun _ _ _ _ _ _ us hl => match us, hl with | [_, _], _ => rfl
  obtain ⟨fd_fAlike, F_fAlike⟩ := D.w_fAlike.ex
  have b_fAlike := F_fAlike.binds (ps := ["_law_words", "_law_tight"]) fun _ _ _ _ _ _ us hl => match us, hl with | [_, _], _ => rfl
  obtain ⟨⟨fd_fMade, F_fMade⟩, tMade⟩ := D.w_fMade
  have cdMade := PySem.W.codeHd_of_K X tMade
  obtain ⟨⟨fd_fLaw, F_fLaw⟩, tLaw⟩ := D.w_fLaw
  have cdLaw := PySem.W.codeHd_of_K X tLaw
  have b_fMade := F_fMade.binds (ps := ["_law_words", "_law_tight"]) fun _ _ _ _ _ us hl => match us, hl with | [_, _], _ => rfl
  have b_L : ∀ (t : Shared) (u : Value), BindsTo t fd_fLaw ⟨[u], []⟩ [("_law_script", u)] := by
    obtain ⟨oc, od, kV, doc, pm, an, ct, osl, rfl, lk, hcd⟩ := F_fLaw.ex
    exact fun t u => .of_eq rfl
  obtain ⟨fd_fI, FD_fI⟩ := D.w_fI
  obtain ⟨fd_fI2, F_fI⟩ := (fnF_ofK D.w_fI).ex
  have ne1 : pMade ≠ pLaw := of_decide_eq_false D.ne1
  obtain ⟨TT, hTT⟩ : ∃ TT : List (Addr × Str), TT = [(pMade, Str.ofString "_law_made.<locals>.<lambda>"), (pLaw, Str.ofString "law.<locals>.<lambda>")] := ⟨_, rfl⟩
  have hmMade : (pMade, Str.ofString "_law_made.<locals>.<lambda>") ∈ TT := by rw [hTT]; simp
  have huMade : ∀ p ∈ TT, p.1 = pMade → p.2 = Str.ofString "_law_made.<locals>.<lambda>" := fun p hp e => by
    rw [hTT] at hp
    simp only [List.mem_cons, List.not_mem_nil, or_false] at hp
    rcases hp with rfl | rfl
    · rfl
    · exact absurd e ne1.symm
  have hmLaw : (pLaw, Str.ofString "law.<locals>.<lambda>") ∈ TT := by rw [hTT]; simp
  have huLaw : ∀ p ∈ TT, p.1 = pLaw → p.2 = Str.ofString "law.<locals>.<lambda>" := fun p hp e => by
    rw [hTT] at hp
    simp only [List.mem_cons, List.not_mem_nil, or_false] at hp
    rcases hp with rfl | rfl
    · exact absurd e ne1
    · rfl
  have gC := PySem.W.mg_of X G D.kC.g
  have rc : RCls K C TW := ⟨D.kC.cls, D.nw, D.np, ⟨_, D.wAt, rfl, D.wGet, by rfl⟩, D.wTup⟩
  have eqc : NX.EqC K C fEq := ⟨D.kC.cls, D.eq_, D.ne_, D.isf, D.ob⟩
  have rty : RTy K C fEq := ⟨eqc, D.base.hn, D.base.ht, D.cl_, D.kc, D.kl, D.kt, D.nf1, D.nf2, D.nf3⟩
  have kerr : ErrK K mg ⟨cR, cN, cT⟩ CS :=
    { gS := PySem.W.mg_of X G D.base.g, gR := PySem.W.mg_of X G D.eR.g, gN := PySem.W.mg_of X G D.eN.g, gT := PySem.W.mg_of X G D.eT.g
      r := ⟨D.eR.exm D.base, D.eR.ec D.base, D.eR.xf, D.eR.v, kit_self, D.k_RN, D.k_RT, D.eR.ve⟩
      n := ⟨D.eN.exm D.base, D.eN.ec D.base, D.eN.xf, D.eN.v, D.k_NR, kit_self, D.k_NT, D.eN.ve⟩
      t := ⟨D.eT.exm D.base, D.eT.ec D.base, D.eT.xf, D.eT.v, D.k_TR, D.k_TN, kit_self, D.eT.ve⟩ }
  have t0e : ∀ H : Hp, SqT K H t0 [] := D.tTup
  refine ⟨fd_fLaw, [(cMade, pMade), (cLaw, pLaw)], spLaw K TT, ?_⟩
  refine ⟨fun p hp => ?_, fun p hp => ?_, fun p hp => ?_, b_L, fun H a ns hl hT hS => ⟨a, ns, rfl, hS, fun p hp => ?_, fun H' => rfl⟩, fun base Xb Gb TBs SB => ?_⟩
  · simp only [List.mem_cons, List.not_mem_nil, or_false] at hp
    rcases hp with rfl | rfl
    · exact tbMade
    · exact tbLaw
  · simp only [List.mem_cons, List.not_mem_nil, or_false] at hp
    rcases hp with rfl | rfl
    · exact D.l_Made
    · exact D.l_Law
  · simp only [List.mem_cons, List.not_mem_nil, or_false] at hp
    rcases hp with rfl | rfl
    · exact cdMade
    · exact cdLaw
  · rw [hTT] at hp
    simp only [List.mem_cons, List.not_mem_nil, or_false] at hp
    rcases hp with rfl | rfl
    · exact TabS.nil (hT (cMade, pMade) (by simp))
    · exact TabS.nil (hT (cLaw, pLaw) (by simp))
  · have tM1 : TabB base mg cMade pMade := TBs (cMade, pMade) (by simp)
    have tL1 : TabB base mg cLaw pLaw := TBs (cLaw, pLaw) (by simp)
    have c_fDraw : C8.Cal l.prog w K mg base 1 "_law_draw" spDraw [] := ⟨_, _, _, _, ok_draw F_fDraw TB, PySem.W.mg_of X G D.g_fDraw, F_fDraw.kp, b_fDraw, .nil⟩
    have c_fPen : C8.Cal l.prog w K mg base 1 "_law_pen" (spPen K) [] := ⟨_, _, _, _, ok_pen F_fPen TB, PySem.W.mg_of X G D.g_fPen, F_fPen.kp, b_fPen, .nil⟩
    have c_fPick : C8.Cal l.prog w K mg base 2 "_law_pick" (spPick K) [] := ⟨_, _, _, _, ok_pick F_fPick TB c_fDraw, PySem.W.mg_of X G D.g_fPick, F_fPick.kp, b_fPick, .nil⟩
    have c_fMix : C8.Cal l.prog w K mg base 2 "_law_mixed" (spMix K) [] := ⟨_, _, _, _, ok_mix F_fMix TB c_fDraw, PySem.W.mg_of X G D.g_fMix, F_fMix.kp, b_fMix, .nil⟩
    have c_fDue : C8.Cal l.prog w K mg base 1 "_law_due" (spDueR K) [] := ⟨_, _, _, _, ok_due F_fDue TB, PySem.W.mg_of X G D.g_fDue, F_fDue.kp, b_fDue, .nil⟩
    have c_fIs : C8.Cal l.prog w K mg base 1 "is_name" (spIs K) [] := ⟨_, _, _, _, ok_is F_fIs TB TN, PySem.W.mg_of X G D.g_fIs, F_fIs.kp, b_fIs, .nil⟩
    have ER : ErrC l.prog w K mg base "BadRule" "value" cR fER := ⟨D.eR.O, D.eR.i, D.eR.t, ⟨_, ok_errR F_fER, b_fER⟩, PySem.W.mg_of X G D.eR.g, D.eR.v⟩
    have EN : ErrC l.prog w K mg base "BadName" "value" cN fEN := ⟨D.eN.O, D.eN.i, D.eN.t, ⟨_, ok_errN F_fEN, b_fEN⟩, PySem.W.mg_of X G D.eN.g, D.eN.v⟩
    have ET : ErrC l.prog w K mg base "Twice" "name" cT fET := ⟨D.eT.O, D.eT.i, D.eT.t, ⟨_, ok_errT F_fET, b_fET⟩, PySem.W.mg_of X G D.eT.g, D.eT.v⟩
    have c_fCns : CalL l.prog w K mg base 3 "check_names" (spCns K cN) := ⟨⟨_, _, _, ok_cns F_fCns c_fIs EN, PySem.W.mg_of X G D.g_fCns, F_fCns.kp, b_fCns⟩⟩
    have c_fCun : CalL l.prog w K mg base 3 "check_unlike" (spCun K cT) := ⟨⟨_, _, _, ok_cun F_fCun ET, PySem.W.mg_of X G D.g_fCun, F_fCun.kp, b_fCun⟩⟩
    have inT : InT l.prog w K mg base ⟨cR, cN, cT⟩ fER := ⟨TB, ER, c_fCns, c_fCun⟩
    have OK := ok_init (TW := TW) inT F_fI
    have OD := ok_initD (TW := TW) inT FD_fI
    have mdt : MdT l.prog w K mg base ⟨cR, cN, cT⟩ C TW fI := ⟨TB, D.kC.mak, gC, fnK_less OK, rc⟩
    have OM : FnOk l.prog w K mg base (L2.CX l.prog w) 7 fMade fd_fMade ["_law_words", "_law_tight"] (spMade K ⟨cR, cN, cT⟩ C TW TT) := ok_made F_fMade mdt tM1 hmMade huMade
    have OEq : FnOk l.prog w K mg base CX0 1 fEq fd_fEq ["self", "other"] (spREq K C) := ok_req F_fEq TB rc rty gC
    have c_fAlike : C8.Cal l.prog w K mg base 8 "_law_alike_right" (spAlike K TT) [] := ⟨_, _, _, _, ok_alike F_fAlike TB rty OEq b_fEq OM (PySem.W.mg_of X G D.g_fMade) F_fMade.kp b_fMade, PySem.W.mg_of X G D.g_fAlike, F_fAlike.kp, b_fAlike, .nil⟩
    have O_gW : FnOk l.prog w K mg base CX0 1 gW fd_gW ["self"] (getSp C "_words") := by
      obtain ⟨oc, od, kV, doc, pm, an, cdv, ct, osl, rfl, lk, hcd⟩ := F_gW.ex
      exact fn_getter (k := 0) (N := ["self"]) lk hcd ⟨rfl, rfl, rfl, by decide +kernel, rfl, by decide +kernel, by decide +kernel⟩ rfl rfl D.kC.cls D.nw
    have O_gP : FnOk l.prog w K mg base CX0 1 gP fd_gP ["self"] (getSp C "_pins") := by
      obtain ⟨oc, od, kV, doc, pm, an, cdv, ct, osl, rfl, lk, hcd⟩ := F_gP.ex
      exact fn_getter (k := 0) (N := ["self"]) lk hcd ⟨rfl, rfl, rfl, by decide +kernel, rfl, by decide +kernel, by decide +kernel⟩ rfl rfl D.kC.cls D.np
    have rget : RGet l.prog w K mg base C := ⟨D.kC.cls, ⟨pW, gW, _, ⟨D.pW_at, D.pW_g, D.pW_t, D.pW_r⟩, O_gW, b_gW⟩, ⟨pP, gP, _, ⟨D.pP_at, D.pP_g, D.pP_t, D.pP_r⟩, O_gP, b_gP⟩⟩
    have LX : LawTxt l.prog w K mg base ⟨cR, cN, cT⟩ CS C TW fI fMade fEq fHeard t0 fd_fMade fd_fEq fd_fHeard TT :=
      { T := TB, E := kerr, G := rget, t := rty, rc := rc, FEq := OEq, hbE := b_fEq, FM := OM, gM := PySem.W.mg_of X G D.g_fMade, kM := F_fMade.kp, hbM := b_fMade
        FH := F_fHeard, gH := PySem.W.mg_of X G D.g_fHeard, hbH := b_fHeard, sys := SB, pen := c_fPen, draw := c_fDraw, pick := c_fPick, mix := c_fMix, due := c_fDue, alike := c_fAlike
        M := D.kC.mak, gC := gC, FI := NN.fnR_less OD, FK := fnK_less OK, t0e := t0e, wd := ⟨.type "type", .ref TW, ⟨D.rdC.rd, D.rdC.ga⟩, ⟨D.wVal, rfl⟩⟩ }
    exact ok_law F_fLaw LX tL1 hmLaw huLaw
end
end K71
set_option Elab.async false
set_option linter.all false
set_option maxRecDepth 100000
set_option maxHeartbeats 0
namespace K71
open PySem PySem.W PySem.Calls PyProof.Rows NX K71H
theorem headF {h : Heap} {K : HK.Fg} (c : HK.Says K71H.fns K71H.tf K71H.ex h K) : HeadF K (a_CS K) (a_cR K) (a_cN K) (a_cT K) (a_C K) (a_TW K) (a_fI K) (a_t0 K) (a_pW K) (a_pP K) (a_fER K) (a_fEN K) (a_fET K) (a_gW K) (a_gP K) (a_fEq K) (a_fIs K) (a_fCns K) (a_fCun K) (a_fPen K) (a_fDraw K) (a_fPick K) (a_fMix K) (a_fHeard K) (a_fDue K) (a_fAlike K) (a_fMade K) (a_cMade K) (a_pMade K) (a_fLaw K) (a_cLaw K) (a_pLaw K) :=
  ⟨HK.eqV_ok (c.at_ 0),
  HK.eqV_ok (c.at_ 1),
  HK.eqV_ok (c.at_ 2),
  HK.eqV_ok (c.at_ 3),
  HK.eqV_ok (c.at_ 4),
  HK.eqV_ok (c.at_ 5),
  HK.eqV_ok (c.at_ 6),
  HK.eqV_ok (c.at_ 7),
  HK.eqV_ok (c.at_ 8),
  HK.eqV_ok (c.at_ 9),
  HK.eqV_ok (c.at_ 10),
  HK.strB_ok (c.at_ 11),
  HK.intB_ok (c.at_ 12),
  HK.baseB_ok (c.at_ 13),
  HK.errB_ok (c.at_ 14),
  HK.errB_ok (c.at_ 15),
  HK.errB_ok (c.at_ 16),
  HK.eqB_ok (c.at_ 17),
  HK.eqB_ok (c.at_ 18),
  HK.eqB_ok (c.at_ 19),
  HK.eqB_ok (c.at_ 20),
  HK.eqB_ok (c.at_ 21),
  HK.eqB_ok (c.at_ 22),
  HK.clsB_ok (c.at_ 23),
  HK.eqV_ok (c.at_ 24),
  HK.eqV_ok (c.at_ 25),
  HK.eqV_ok (c.at_ 26),
  HK.eqV_ok (c.at_ 27),
  tupS_ok (c.at_ 28),
  tupS_ok (c.at_ 29),
  HK.rdB_ok (c.at_ 30),
  valR_ok (c.at_ 31),
  HK.eqV_ok (c.at_ 32),
  HK.eqV_ok (c.at_ 33),
  c.at_ 34,
  HK.eqB_ok (c.at_ 35),
  HK.eqV_ok (c.at_ 36),
  HK.eqB_ok (c.at_ 37),
  HK.eqB_ok (c.at_ 38),
  HK.eqB_ok (c.at_ 39),
  c.at_ 40,
  c.at_ 41,
  c.at_ 42,
  HK.eqV_ok (c.at_ 43),
  HK.eqV_ok (c.at_ 44),
  HK.eqB_ok (c.at_ 45),
  HK.recB_ok (c.at_ 46),
  HK.eqV_ok (c.at_ 47),
  HK.eqV_ok (c.at_ 48),
  HK.eqB_ok (c.at_ 49),
  HK.recB_ok (c.at_ 50),
  HK.fnF_of (c.def_ 0),
  HK.fnF_of (c.def_ 1),
  HK.fnF_of (c.def_ 2),
  HK.fnF_of (c.def_ 3),
  HK.fnF_of (c.def_ 4),
  HK.fnF_of (c.def_ 5),
  c.def_ 6,
  HK.eqV_ok (c.at_ 51),
  HK.fnF_of (c.def_ 7),
  HK.eqV_ok (c.at_ 52),
  HK.fnF_of (c.def_ 8),
  HK.eqV_ok (c.at_ 53),
  HK.fnF_of (c.def_ 9),
  HK.eqV_ok (c.at_ 54),
  HK.fnF_of (c.def_ 10),
  HK.eqV_ok (c.at_ 55),
  HK.fnF_of (c.def_ 11),
  HK.eqV_ok (c.at_ 56),
  HK.fnF_of (c.def_ 12),
  HK.eqV_ok (c.at_ 57),
  HK.fnF_of (c.def_ 13),
  HK.eqV_ok (c.at_ 58),
  HK.fnF_of (c.def_ 14),
  HK.eqV_ok (c.at_ 59),
  HK.fnF_of (c.def_ 15),
  HK.eqV_ok (c.at_ 60),
  HK.fnF_of (c.def_ 16),
  HK.eqV_ok (c.at_ 61),
  HK.fnT_of (c.def_ 17) a_fMade rfl (c.hd a_fMade (by simp [K71H.tf])),
  c.out a_fMade (by simp [K71H.tf]),
  HK.eqV_ok (c.at_ 62),
  HK.fnT_of (c.def_ 18) a_fLaw rfl (c.hd a_fLaw (by simp [K71H.tf])),
  c.out a_fLaw (by simp [K71H.tf]),
  HK.notB_ok (c.at_ 63)⟩
end K71
open PySem PySem.W PySem.Calls PyProof.Rows
theorem PySem.Challenge.cw_loopstow_k71_rules_made_holds : PySem.Challenge.rw_loopstow_k71_rules_made.Holds := by
  w_on; o_law
  refine HandSHeadRun.head_any (r := OpenLaw.row PySem.Challenge.rw_loopstow_k71_rules_made) (q := view (OpenLaw.row PySem.Challenge.rw_loopstow_k71_rules_made).prog [23]) (H := K71H.hk) (ob := K71H.ob) (M := 20000) (loose := K71H.loose) (d := HandSHeadRun.topDef (OpenLaw.row PySem.Challenge.rw_loopstow_k71_rules_made).prog 23) (kwd := []) (fun s => HK.obs_eq s)
    (by kernel_rfl) (fun s => by kernel_rfl) K71H.run (by kernel_rfl) (by kernel_rfl) (by kernel_rfl) (by rfl) (by first | assumption | decide +kernel) (by decide +kernel) ⟨rfl, rfl, rfl, rfl, rfl, by decide +kernel⟩ ?hw ?hc
  case hw => w_witness2
  case hc =>
    refine HK.walkGE (l := PySem.Challenge.rw_loopstow_k71_rules_made) (n := 63) (k := 11) (x := "_law_script") rfl (by decide) (by kernel_rfl) ⟨rfl, by decide, by decide⟩ (by rfl) ?G
    intro w mg fa h Y G hmg0
    obtain ⟨K, KX, c⟩ := Y
    have hmg : mg ("law" : PySem.Str) = some (.ref fa) := by
      have e : (HandSHeadRun.topDef (OpenLaw.row PySem.Challenge.rw_loopstow_k71_rules_made).prog 23).name = ("law" : PySem.Str) := by kernel_rfl
      rw [← e]
      exact hmg0
    exact ⟨K, KX, (K71.headF c).law KX G hmg (c.empty K71H.a_fMade (by simp [K71H.tf])) (c.empty K71H.a_fLaw (by simp [K71H.tf]))⟩
