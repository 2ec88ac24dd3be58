import PyProof.Rows.All
import Wide.All
import OpenK.AllK
import Wide.FinOn
import HandS.ForMost
import HandS.Exc
import HandS.ExcInit
import HandS.ExcField
import HandS.ExcIs
import HandS.IsInst
import HandS.TryOnly
import KE.KExcIs
import PyProof.ReprRoads
import HandS.Lambda
import HandS.Codes
import HandS.EndTab
import HandS.ClsMeth
import HandS.OwnEq
import PyProof.InstEq
import HandS.HeadHook4
import HandS.Head2
import PySem.Challenge.RW_loopstow_k01_deeds
import HandS.FStr
import HandS.StrMore
import HandS.WordsExc
import KE.KUnpackStar
import PyProof.Rows.SetFrom
import HandS.Strs
import HandS.SetFor
import HandS.More
import HandS.Star
import HandS.SuiteRaise
import HandS.RaiseFrom
import HandS.ExcInitHot
import HandS.HotCalls
import HandS.Property
import HandS.Flow
import HandS.RaiseMore
import PyProof.Rows.StrMeet
import PyProof.Rows.SortStr
import PyProof.CallFns
import PyProof.ReprReads
import HandS.ExcValue
import HandS.Dict
import HandS.Iter
import HandS.Walk
import HandS.MakeKwOnly
import HandS.Style
set_option Elab.async false
set_option linter.all false
set_option maxRecDepth 100000
set_option maxHeartbeats 4000000
/-! Rules of my own: an error that is caught under a name and kept in a local name behind the suite; what is asked of it there. -/
namespace NX
open PySem PySem.Spec PyProof.Rows L2
/-- the kept error at a: its class, its dict -/
def Kept (a : Addr) (cls : Value) (d : Option Addr) : HO := .ext fun h => ∃ o vs, h.get? a = some o ∧ o.cls = cls ∧ o.dict = d ∧ o.data = .fields vs
theorem kept_ne {a b : Addr} {cls : Value} {d : Option Addr} : Kept a cls d ≠ .own b := fun z => by
  unfold Kept at z
  cases z
theorem kept_ok {P : Program} {w : World} {H : Hp} {h : Heap} {a : Addr} {cls : Value} {d : Option Addr} {o : Obj} {vs : Array Value} (e : h.get? a = some o) (z : Zc cls d o) (f : o.data = .fields vs) : ObjOk P w H h a (Kept a cls d) :=
  ⟨⟨o, vs, e, z.1, z.2, f⟩, ⟨o, e⟩, fun h1 h2 ⟨o1, w1, e1, r1⟩ k => ⟨o1, w1, k _ e1, r1⟩⟩
section
variable {X : Cx} {pins : List (Addr × Obj)} {σ : L2.St} {H : Hp} {s : Shared}
/-- an object that nobody tracks, and that is none of the entry's, is tracked from now on -/
theorem adopt {a : Addr} {cls : Value} {d : Option Addr} {o : Obj} {vs : Array Value} (I : Inv X ((a, o) :: pins) σ H s) (z : Zc cls d o) (f : o.data = .fields vs) (new : X.s_0.heap.get? a = none) (np : ∀ p ∈ X.pn ++ pins, p.1 ≠ a) :
    Inv X pins σ (upd H a (Kept a cls d)) s := by
  obtain ⟨ga, na, nL, nF, nC⟩ := I.pin (a, o) (List.mem_append_right _ List.mem_cons_self)
  have ga : s.heap.get? a = some o := ga
  have na : H a = none := na
  have B := I.base
  have nb : ∀ {b u}, X.s_0.heap.get? b = some u → b ≠ a := fun {b u} e q => by rw [q, new] at e; cases e
  refine ⟨I.ok, I.os, I.bare, ⟨B.keep, B.slot, fun b u e n hx => ?_, B.there, fun b xs e => ?_, fun b u v e => ?_, fun b ps e => ?_⟩, I.loc, I.cell, ?_, fun x c e => ?_, fun p hp => ?_, ?_, I.len⟩
  · rw [upd_ne (nb e)]
    exact B.free b u e n hx
  · have q := B.tups b xs e
    rw [upd_ne (ne_of_none q na)]
    exact q
  · have q := B.frzs b u v e
    rw [upd_ne (ne_of_none q na)]
    exact q
  · obtain ⟨more, q⟩ := B.tbls b ps e
    exact ⟨more, by rw [upd_ne (ne_of_none q na)]; exact q⟩
  · rw [upd_ne (Ne.symm nL)]
    exact I.free
  · obtain ⟨v, oc, e1, e2⟩ := I.cell x c e
    have hne : c ≠ a := fun q => by
      rw [q, ga] at e1
      cases e1
      exact nC _ e2
    rw [upd_ne hne]
    exact I.freeC x c e
  · have hp' : p ∈ X.pn ++ (a, o) :: pins := by
      rcases List.mem_append.mp hp with q | q
      · exact List.mem_append_left _ q
      · exact List.mem_append_right _ (List.mem_cons_of_mem _ q)
    obtain ⟨e1, e2, e3⟩ := I.pin p hp'
    exact ⟨e1, by rw [upd_ne (np p hp)]; exact e2, e3⟩
  · intro b u e
    by_cases hb : b = a
    · rw [hb, upd_same] at e
      cases e
      rw [hb]
      exact kept_ok ga z f
    · rw [upd_ne hb] at e
      exact (I.hok b u e).stay (fun _ _ _ q => q) (fun c q => by rw [upd_ne (ne_of_none q na)]; exact q) fun c xs q => by rw [upd_ne (ne_of_none q na)]; exact q
/-- what «except x as n: suite» wishes of an error of the body, if the error is kept: slot i is n's, the suite's ends see the kept error -/
def wKeep (K : PySem.W.Frag) (c : Value) (i : Nat) (ts : Addr → Value → Option Addr → TS) (Wout : WX) (D : Ends) : WX := fun cls d σ H =>
  ∃ b, PySem.W.exmOne K cls c = some b ∧ (b = false → Wout cls d σ H) ∧
    (b = true → ∀ a, H a = none → ts a cls d ⟨fun σ' H' => D.nx (σ'.set i none) (upd H' a (Kept a cls d)), fun v H' => D.rt v (upd H' a (Kept a cls d)), fun σ' H' => D.bk (σ'.set i none) (upd H' a (Kept a cls d)), fun σ' H' => D.ct (σ'.set i none) (upd H' a (Kept a cls d))⟩ (σ.set i (some (.ref a))) H)
end
section
variable {X : Cx} {x n : Str} {c : Value} {i : Nat} {body suite : List Stmt} {b₀ : Stmt} {np p1 p2 : Pos} {tb : WX → TS} {ts : Addr → Value → Option Addr → TS} {Wout : WX}
theorem ps_try_keep (hs : X.stack = X.env :: X.outer) (hf : X.env.frame = some X.env.locals) (hN : X.N.Nodup) (hi : X.N[i]? = some n) (hln : X.env.kindOf n = some .local) (hex : X.ex = []) (hc : Names X x c) (tk : Takes X Wout)
    (hb : ∀ (W : WX) (pn : List (Addr × Obj)) (xe : Value → Shared → Prop), Takes (X.tr pn xe) W → PassesOwn (model X.prog X.w) X.A X.env xe → PSs (X.tr pn xe) body (tb W))
    (hsu : ∀ (a : Addr) (oe : Obj) (cls : Value) (d : Option Addr) (pn : List (Addr × Obj)), Zc cls d oe → (∃ vs, oe.data = .fields vs) → PSs (X.suite a ((a, oe) :: pn)) (b₀ :: suite) (ts a cls d)) :
    PS X (.Try body [.ExceptHandler (some (.Name x np)) (some n) (b₀ :: suite) p1] [] [] p2) (fun D σ H => tb (wKeep X.K c i ts Wout D) D σ H) := by
  refine ⟨fun pins s σ H D I h => ?_⟩
  have ok := I.ok
  have frames : X.A.frames = some (X.env :: X.outer) := by rw [ok.frames, hs]
  -- the wish of the body: what the clause does with an error
  have caught : ∀ (u : Value) (s' : Shared), XE (X.tr (X.pn ++ pins) (fun e s₁ => wpAny (model X.prog X.w) X.A (noteFrame e X.env) (fun _ s₂ => wpAny (model X.prog X.w) X.A (setFlight e none) (fun _ s₃ =>
      wpAny (model X.prog X.w) X.A (handleBy e X.env [.ExceptHandler (some (.Name x np)) (some n) (b₀ :: suite) p1]) (SP X pins D) X.xe s₃) X.xe s₂) X.xe s₁)) (wKeep X.K c i ts Wout D) u s' →
      wpAny (model X.prog X.w) X.A (noteFrame u X.env) (fun _ s₂ => wpAny (model X.prog X.w) X.A (setFlight u none) (fun _ s₃ =>
        wpAny (model X.prog X.w) X.A (handleBy u X.env [.ExceptHandler (some (.Name x np)) (some n) (b₀ :: suite) p1]) (SP X pins D) X.xe s₃) X.xe s₂) X.xe s' := by
    intro u s' xx
    obtain ⟨a, B, sI, pins', σ', H', cls, d, rfl, J', nb, up, sky, na, os, ag, b, hb1, hno, hyes⟩ := xx
    have J : Inv X pins σ' H' sI := J'.ofTry ok
    have sky' : Sky B (X.env :: X.outer) a (Zc cls d) X.env.locals s'.heap := by rw [← hs]; exact sky
    refine Sky.land Zc.steady frames hf sky' fun h3 fl3 up3 => ?_
    obtain ⟨oe3, vs3, he3, hz3, hd3⟩ := fl3.there
    have Ba : B.get? a = none := fl3.2.1
    have aFr : a ∉ frs (X.env :: X.outer) := fun hm => by
      obtain ⟨_, o', e', hnf⟩ := fl3.2.2.1.mem hm
      rw [he3] at e'
      cases e'
      exact hnf _ hd3
    have aS : a ∉ frs X.stack := by rw [hs]; exact aFr
    have aI : sI.heap.get? a = none := by
      cases e : sI.heap.get? a with
      | none => rfl
      | some o =>
        have q := nb a o e aS
        rw [Ba] at q
        cases q
    have a0 : X.s_0.heap.get? a = none := by
      cases e : X.s_0.heap.get? a with
      | none => rfl
      | some o =>
        obtain ⟨o', q⟩ := J.base.there a o e (by rw [hex]; simp)
        rw [aI] at q
        cases q
    have aL : a ≠ X.env.locals := fun z => aFr (List.mem_filterMap.mpr ⟨X.env, List.mem_cons_self, by rw [hf, z]⟩)
    have aF : a ∉ X.fs := fun hm => by
      obtain ⟨e, he, q⟩ := List.mem_filterMap.mp hm
      exact aFr (List.mem_filterMap.mpr ⟨e, List.mem_cons_of_mem _ he, q⟩)
    have aP : ∀ p ∈ X.pn ++ pins, p.1 ≠ a := fun p hp z => by
      have q := (J.pin p hp).1
      rw [z, aI] at q
      cases q
    have J3 : Inv X pins σ' H' { s' with heap := h3 } := J.landed nb fl3.1 (up.trans up3) os ag
    have S3 := J3.suite he3 hd3 na aL aF
    refine wpAny_handleBy_cons (codeAny_handlers_test ?_) (by intro q; cases q)
    have cl3 : PySem.W.Looks (model X.prog X.w) h3 (typeOf (.ref a)) cls := fun A Q E s k q => wpAny_typeOf_ref (k _ _ he3) (by rw [hz3.1]; exact q)
    have match_ := PySem.W.exm_one (M := model X.prog X.w) J3.kIn cl3 hb1
    have names : ∀ {Q : Value → Shared → Prop} {E : Value → Shared → Prop}, Q c { s' with heap := h3 } → wpAny (model X.prog X.w) (X.A.mark (some (.ref a))) (eval (.Name x np) X.env) Q E { s' with heap := h3 } := fun {Q E} q => by
      obtain ⟨hg, hdb, hm | ⟨hm, hv, hnn⟩⟩ := hc
      · exact ld_glob (X := X.suite a ((a, oe3) :: (X.pn ++ pins))) S3 hg hm q hdb
      · exact ld_blt (X := X.suite a ((a, oe3) :: (X.pn ++ pins))) S3 hg hm hv q hnn hdb
    refine names (match_.here ?_)
    cases b with
    | false =>
      show wpAny _ X.A (handleBy (.ref a) X.env []) _ _ _
      refine wpAny_handleBy_nil ?_
      obtain ⟨_, _, _, oe, vs, T, _, _, he, _, hd, h1, _⟩ := id fl3
      unfold PySem.passOn
      refine wpAny_bind (wpAny_field he hd h1 ?_)
      rw [if_neg (show ¬ ((Value.ref T == Value.none) = true) from by simp)]
      have out : wpAny (model X.prog X.w) X.A (setFlight (.ref a) X.env.frame) (fun _ s4 => wpAny (model X.prog X.w) X.A (throw (.ref a) : Sem Flow) (SP X pins D) X.xe s4) X.xe { s' with heap := h3 } := by
        rw [hf]
        refine HandSPX.setFlight_upZ fl3 fun h4 hh4 up4 => wpAny_throw (tk _ _ ?_)
        exact ⟨a, B, sI, pins, σ', H', cls, d, rfl, J, nb, (up.trans up3).trans up4, .inr (.inr (by rw [hs]; exact hh4)), na, os, ag, hno rfl⟩
      first
        | exact wpAny_bind (wpAny_pure (wpAny_bind out))
        | exact wpAny_bind out
    | true =>
      refine codeAny_handlers_suite_as ?_
      refine HandSPX.lands_againZ fl3 fun h4 fl4 up4 => ?_
      obtain ⟨oe4, vs4, he4, hz4, hd4⟩ := fl4.there
      have J4 : Inv X pins σ' H' { s' with heap := h4 } := J.landed nb fl4.1 ((up.trans up3).trans up4) os ag
      have S4 := J4.suite he4 hd4 na aL aF
      refine store_ok (X := X.suite a ((a, oe4) :: (X.pn ++ pins))) (v := .ref a) S4 hN hi (.inl hln) rfl (fun s5 S5 => ?_) (.inr hln)
      refine wpAny_mono ((hsu a oe4 cls d (X.pn ++ pins) hz4 ⟨_, hd4⟩).run [] s5 _ H' _ S5 (hyes rfl a na)) (fun f s6 hsp => ?_) (fun _ _ z => False.elim z)
      -- behind the suite: the name goes, the error is kept
      have last : ∀ {σ6 : L2.St} {H6 : Hp} {Q : Shared → Prop}, Inv (X.suite a ((a, oe4) :: (X.pn ++ pins))) [] σ6 H6 s6 → (∀ s7, Inv X pins (σ6.set i none) (upd H6 a (Kept a cls d)) s7 → Q s7) →
          wpAny (model X.prog X.w) X.A (do bindName X.env n .none; unbindBehindTheSuite X.env n p1) (fun _ s7 => Q s7) X.xe s6 := fun {σ6 H6 Q} S6 hq => by
        have W6 : Inv X ((a, oe4) :: pins) σ6 H6 s6 := ⟨ok, S6.os, S6.bare, S6.base, S6.loc, S6.cell, S6.free, S6.freeC, fun p hp => S6.pin p (by
          rw [List.append_nil]
          rcases List.mem_append.mp hp with q | q
          · exact List.mem_cons_of_mem _ (List.mem_append_left _ q)
          · rcases List.mem_cons.mp q with q | q
            · rw [q]
              exact List.mem_cons_self
            · exact List.mem_cons_of_mem _ (List.mem_append_right _ q)), S6.hok, S6.len⟩
        exact gone_ok W6 hN hi hln fun s7 J7 => hq s7 (adopt J7 hz4 hd4 a0 aP)
      cases f with
      | next =>
        obtain ⟨σ6, H6, S6, q6⟩ := hsp
        exact last S6 fun s7 J7 => ⟨_, _, J7, q6⟩
      | brk =>
        obtain ⟨σ6, H6, S6, q6⟩ := hsp
        exact last S6 fun s7 J7 => ⟨_, _, J7, q6⟩
      | cont =>
        obtain ⟨σ6, H6, S6, q6⟩ := hsp
        exact last S6 fun s7 J7 => ⟨_, _, J7, q6⟩
      | ret u =>
        obtain ⟨v6, σ6, H6, S6, r6, q6⟩ := hsp
        exact last S6 fun s7 J7 => ⟨_, _, _, J7, r6, q6⟩
  refine wpAny_Try_except (wpAny_mono ((hb _ _ _ (fun u s' xx => caught u s' xx) PassesOwn.looking).run [] s σ H D (I.toTry _) h) (fun f s1 hsp => ?_) (fun e s1 he => he))
  cases f with
  | next =>
    obtain ⟨σ', H', J', q⟩ := hsp
    exact wpAny_execs_nil ⟨σ', H', J'.ofTry ok, q⟩
  | brk =>
    obtain ⟨σ', H', J', q⟩ := hsp
    exact ⟨σ', H', J'.ofTry ok, q⟩
  | cont =>
    obtain ⟨σ', H', J', q⟩ := hsp
    exact ⟨σ', H', J'.ofTry ok, q⟩
  | ret u =>
    obtain ⟨v, σ', H', J', r, q⟩ := hsp
    exact ⟨v, σ', H', J'.ofTry ok, r, q⟩
end
/-- isinstance(e, c) of a kept error -/
def rIsKept (K : PySem.W.Frag) : List V → Hp → VK → Prop := fun xs H Q => ∃ (a D : Addr) (d : Addr) (fs : List (Str × V)) (c : V) (u : Value) (b : Bool), xs = [.ref a, c] ∧ ClsV c u ∧ H a = some (Kept a (.ref D) (some d)) ∧ H d = some (.xd fs) ∧ ExcC K D ∧ PySem.W.kitOne K (.ref D) u = some b ∧ Q (.bl b) H
section
variable {X : Cx} {e : Expr} {te : TE} {pos : Pos} {n : Str} {C : Addr}
theorem inst_kept {pins : List (Addr × Obj)} {σ : L2.St} {H : Hp} {s : Shared} {a D d : Addr} {fs : List (Str × V)} (I : Inv X pins σ H s) (ha : H a = some (Kept a (.ref D) (some d))) (hd : H d = some (.xd fs)) :
    ∃ o od, PySem.W.InstAt s.heap a o D (some od) ∧ s.heap.get? d = some od ∧ ∃ mA, s.heap.Ns1 d mA ∧ (∀ f, RelO (fs.lookup f) (mA f)) := by
  have x : ObjOk X.prog X.w H s.heap a (.ext fun h => ∃ o vs, h.get? a = some o ∧ o.cls = .ref D ∧ o.dict = some d ∧ o.data = .fields vs) := I.hok a _ ha
  obtain ⟨⟨o, vs, e1, e2, e3, e4⟩, _, _⟩ := x
  obtain ⟨mA, hns, hr⟩ := (show ObjOk X.prog X.w H s.heap d (.xd fs) from I.hok d _ hd)
  obtain ⟨od, ho, _⟩ := lookIn_ns hns
  exact ⟨o, od, ⟨e1, e2, by unfold PySem.W.notCls; rw [e4] <;> rfl, by rw [e3]; exact ho⟩, ho, mA, hns, hr⟩
theorem call_isKept : CallR X (.builtin "isinstance") (rIsKept X.K) := by
  intro pins s σ H xs us Q I r h
  obtain ⟨a, D, d, fs, c, u, b, rfl, hc, ha, hd, E, k, q⟩ := h
  obtain ⟨u1, u2, rfl, r1, r2⟩ := vals2 r
  have e2 := hc.eq r2
  subst e2
  obtain rfl : u1 = Value.ref a := r1
  obtain ⟨o, od, J, _⟩ := inst_kept I ha hd
  have hcl : (PySem.W.clsIn X.K D).isSome = true := by
    have z := E.hd
    unfold PySem.W.hasDictIn at z
    cases q : PySem.W.clsIn X.K D with
    | some cd => rfl
    | none => rw [q] at z; cases z
  exact PySem.W.kia_one (PySem.W.kitx_exc hcl E.hg E.hk E.hs E.ha E.hn E.ht E.hm) I.kIn J k (fun z => nomatch z) fun tk => ⟨.bl b, H, I.tok tk, rfl, q⟩
/-- e.n of a kept error -/
def tKept (K : PySem.W.Frag) (n : Str) (te : TE) : TE := fun σ H Q => te σ H fun x H1 => ∃ (a D d : Addr) (fs : List (Str × V)) (v : V), x = .ref a ∧ H1 a = some (Kept a (.ref D) (some d)) ∧ H1 d = some (.xd fs) ∧ XfC K D ∧ PySem.W.findIn K (.ref D) n = some none ∧ fs.lookup n = some v ∧ Q v H1
theorem pe_kept (he : PE X e te) (hb : attributeBase e n X.env (eval e X.env) = eval e X.env := by rfl) : PE X (.Attribute e n pos) (tKept X.K n te) := by
  refine ⟨fun pins s σ H Q I h => attr_of hb (thn (he.run pins s σ H _ I h) fun u s1 ⟨x, H1, I1, rx, a, D, d, fs, v, ex, ha, hd, T, hno, l, q⟩ => ?_)⟩
  subst ex
  obtain rfl : u = Value.ref a := rx
  obtain ⟨o, od, J, ho, mA, hns, hr⟩ := inst_kept I1 ha hd
  obtain ⟨od', ho', hl⟩ := lookIn_ns hns
  rw [ho] at ho'
  cases ho'
  obtain ⟨y, hy, ry⟩ := RelO.some_of (v := v) (o := mA n) (by rw [← l]; exact hr n)
  exact HandSPX.exc_get I1.kIn J T.ga T.gg T.exC (PySem.W.findObj_own T.hdC hno rfl (by rw [hl, hy])) (handed_of ry) ⟨v, H1, I1.tok _, ry, q⟩
end
end NX

set_option Elab.async false
set_option linter.all false
set_option maxRecDepth 100000
set_option maxHeartbeats 4000000
/-! Rules of my own: the text that repr tells of made data, dicts in it too. -/
namespace NX
open PySem PySem.Spec PyProof.Rows L2
def keyD : Key → PyData
  | .inl i => .int i
  | .inr x => .str x
mutual
inductive Dr (K : PySem.W.Frag) (H : Hp) : V → PyData → Prop
  | non : Dr K H .non .none
  | bl (b : Bool) : Dr K H (.bl b) (.bool b)
  | int (i : Int) : Dr K H (.int i) (.int i)
  | str (x : Str) : Dr K H (.str x) (.str x)
  | lst {a : Addr} {xs : List V} {ds : List PyData} : SqL K H a xs → DrAll K H xs ds → Dr K H (.ref a) (.list ds)
  | tup {a : Addr} {xs : List V} {ds : List PyData} : SqT K H a xs → DrAll K H xs ds → Dr K H (.ref a) (.tuple ds)
  | dct {a : Addr} {kvs : List (Key × V)} {ds : List PyData} : H a = some (.dK kvs) → DrAll K H (kvs.map (·.2)) ds → Dr K H (.ref a) (.dict ((kvs.map fun p => keyD p.1).zip ds))
inductive DrAll (K : PySem.W.Frag) (H : Hp) : List V → List PyData → Prop
  | nil : DrAll K H [] []
  | cons {v : V} {vs : List V} {d : PyData} {ds : List PyData} : Dr K H v d → DrAll K H vs ds → DrAll K H (v :: vs) (d :: ds)
end
theorem DrAll.length {K : PySem.W.Frag} {H : Hp} : ∀ {vs : List V} {ds : List PyData}, DrAll K H vs ds → vs.length = ds.length
  | _, _, .nil => rfl
  | _, _, .cons _ t => congrArg (· + 1) t.length
/-- a dict stands at the place of the loaded modules -/
def SysB (h : Heap) : Prop := ∃ (o : Obj) (es : Array DictEntry) (ep : Nat), h.get? sysModules = some o ∧ o.data = .dict es ep
section
variable {X : Cx} {pins : List (Addr × Obj)} {σ : L2.St} {H : Hp} {s : Shared}
theorem key_reads {h : Heap} : ∀ {k : Key} {v : Value}, keyIs k v = true → Reads h v (keyD k) [] := fun {k v} e => by
  rcases keyIs_shape e with ⟨i, t, rfl, rfl⟩ | ⟨x, t, rfl, rfl⟩
  · exact Reads.int i t
  · exact Reads.str x t
theorem keys_read {h : Heap} {P : Program} {w : World} : ∀ {es : List DictEntry} {vs : List (Key × Value)}, Pairs (mixKind P w) es vs → ∃ as, ReadsAll h (es.map (·.key)) (vs.map fun p => keyD p.1) as ∧ as = [] ∧ es.map (·.val) = vs.map (·.2)
  | _, _, .nil => ⟨_, ReadsAll.nil, rfl, rfl⟩
  | _, _, .cons h1 h2 t => by
    obtain ⟨as, q, rfl, e⟩ := keys_read t
    exact ⟨_, ReadsAll.cons (key_reads h1) q, rfl, by rw [List.map_cons, List.map_cons, e, h2]⟩
theorem kv_vals : ∀ {ks : List (Key × V)} {vs : List (Key × Value)}, KV ks vs → Vals (ks.map (·.2)) (vs.map (·.2)) ∧ vs.map (fun p => keyD p.1) = ks.map (fun p => keyD p.1)
  | _, _, .nil => ⟨.nil, rfl⟩
  | _, _, .cons h t => by
    obtain ⟨q, e⟩ := kv_vals t
    exact ⟨.cons h.2 q, by rw [List.map_cons, List.map_cons, e, h.1]⟩
theorem zip_fst {α β : Type} : ∀ {l : List α} {m : List β}, l.length = m.length → (l.zip m).map (·.1) = l
  | [], [], _ => rfl
  | a :: l, b :: m, h => by rw [List.zip_cons_cons, List.map_cons, zip_fst (Nat.succ.inj h)]
theorem zip_snd {α β : Type} : ∀ {l : List α} {m : List β}, l.length = m.length → (l.zip m).map (·.2) = m
  | [], [], _ => rfl
  | a :: l, b :: m, h => by rw [List.zip_cons_cons, List.map_cons, zip_snd (Nat.succ.inj h)]
mutual
theorem Dr.reads (I : Inv X pins σ H s) (S : SysB X.base) : ∀ {v : V} {d : PyData}, Dr X.K H v d → ∀ (u : Value), RelV v u → ∃ as, Reads s.heap u d as ∧ sysModules ∉ as
  | _, _, .non, _, r => by
    cases r
    exact ⟨_, Reads.none, by simp⟩
  | _, _, .bl b, _, r => by
    cases r
    exact ⟨_, Reads.bool b, by simp⟩
  | _, _, .int i, _, r => by
    obtain ⟨t, rfl⟩ := r
    exact ⟨_, Reads.int i t, by simp⟩
  | _, _, .str x, _, r => by
    obtain ⟨t, rfl⟩ := r
    exact ⟨_, Reads.str x t, by simp⟩
  | _, _, .lst hs ha, _, r => by
    cases r
    obtain ⟨its, rv, ⟨o, n, ho, hc, _, hd⟩, _⟩ := I.list hs
    obtain ⟨as, hr, hn⟩ := DrAll.reads I S ha its rv
    refine ⟨_, Reads.list ho hc hd hr, fun hm => ?_⟩
    rcases List.mem_cons.mp hm with e | e
    · obtain ⟨o2, es2, ep2, k2, c2⟩ := S
      have q := (I.bs _ _ k2).1
      rw [e, ho] at q
      have q2 := Option.some.inj q
      rw [← q2, hd] at c2
      cases c2
    · exact hn e
  | _, _, .tup hs ha, _, r => by
    cases r
    obtain ⟨its, rv, ⟨o, ho, hc, n, hd⟩, _⟩ := I.tuple hs
    obtain ⟨as, hr, hn⟩ := DrAll.reads I S ha its rv
    exact ⟨_, Reads.tuple ho hc hd hr, hn⟩
  | _, _, @Dr.dct _ _ a kvs ds hs ha, _, r => by
    cases r
    obtain ⟨_, lo, vs, kv, o, es, ep, ho, hex, hd, _, hp, _⟩ := (show ObjOk X.prog X.w H s.heap a (.dK kvs) from I.hok a _ hs)
    obtain ⟨rv, ek⟩ := kv_vals kv
    obtain ⟨as, hr, hn⟩ := DrAll.reads I S ha _ rv
    obtain ⟨bs, hk, rfl, ev⟩ := keys_read (h := s.heap) hp
    have el : (kvs.map fun p => keyD p.1).length = ds.length := by
      rw [List.length_map, ← ha.length, List.length_map]
    refine ⟨_, Reads.dict ho hex.1 hd (as := []) (bs := as) (by rw [zip_fst el, ← ek]; exact hk) (by rw [zip_snd el, ev]; exact hr), fun hm => ?_⟩
    rcases List.mem_append.mp hm with e | e
    · rcases List.mem_cons.mp e with e | e
      · rw [← e] at lo
        simp at lo
      · simp at e
    · exact hn e
theorem DrAll.reads (I : Inv X pins σ H s) (S : SysB X.base) : ∀ {vs : List V} {ds : List PyData}, DrAll X.K H vs ds → ∀ (us : List Value), Vals vs us → ∃ as, ReadsAll s.heap us ds as ∧ sysModules ∉ as
  | _, _, .nil, _, r => by
    cases r
    exact ⟨_, ReadsAll.nil, by simp⟩
  | _, _, .cons h1 h2, _, r => by
    cases r with
    | cons r1 r2 =>
      obtain ⟨as, q1, n1⟩ := Dr.reads I S h1 _ r1
      obtain ⟨bs, q2, n2⟩ := DrAll.reads I S h2 _ r2
      exact ⟨_, ReadsAll.cons q1 q2, fun hm => (List.mem_append.mp hm).elim n1 n2⟩
end
/-- repr(x), x a list, a tuple or a dict -/
def rRepr (K : PySem.W.Frag) : List V → Hp → VK → Prop := fun xs H Q => ∃ (a : Addr) (d : PyData), xs = [.ref a] ∧ Dr K H (.ref a) d ∧ d.showable = true ∧ d.depth ≤ 50 ∧ d.shown.length ≤ sizeLine ∧ Q (.str d.shown) H
theorem call_repr (hg : X.A.guards = some []) (hu : X.A.units + 64 < cLine) (S : SysB X.base) : CallR X (.builtin "repr") (rRepr X.K) := by
  intro pins s σ H xs us Q I r h
  obtain ⟨a, d, rfl, hd, hs, hdp, hl, q⟩ := h
  cases r with
  | cons r1 r2 =>
    cases r2
    cases r1
    obtain ⟨as, hr, hn⟩ := Dr.reads I S hd _ rfl
    refine PySem.repr_of_reads' hr hs (fun _ => hn) hg (by omega) (fun _ _ e => e) (fun h' u tk k => ?_) hl
    exact ⟨.str d.shown, H, I.kept k, ⟨u, rfl⟩, q⟩
end
end NX

set_option Elab.async false
set_option linter.all false
set_option maxRecDepth 100000
set_option maxHeartbeats 4000000
/-! A def's promise where no repr is under way, and the call of such a def. -/
namespace NX
open PySem PySem.Spec PyProof.Rows L2
structure FnG (P : Program) (w : World) (K : PySem.W.Frag) (mg : Str → Option Value) (base : Heap) (k : Nat) (f : Addr) (fd : FuncData) (ps : List Str) (sp : Sp) : Prop where
  len : ∀ vs H Q E, sp vs H Q E → vs.length = ps.length
  run : ∀ (A : Around) (st : List Env) (s : Shared) (H : Hp) (args : Args) (us : List Value) (vs : List V) (Q : VK), A.guards = some [] → Room k A → Env0 P w K mg base A st s H → BindsTo s fd args (ps.zip us) → Vals vs us → sp vs H Q C8.E0 →
    codeAny (model P w) A (.call (.ref f) args) (CR C8.CX0 st P w H s Q C8.E0) s
section
variable {X : Cx} {k j : Nat} {f : Addr} {fd : FuncData} {ps : List Str} {sp : Sp} {x : Str} {p pos : Pos} {e : Expr} {es : List Expr} {t : TA}
theorem pe_callG (F : FnG X.prog X.w X.K X.mg X.base k f fd ps sp) (gd : X.A.guards = some []) (hr : Room j X.A) (hj : k ≤ j) (hg : Gl X x) (hm : X.mg x = some (.ref f)) (hk : PySem.W.keepIn X.K (.ref f) = true) (hb : Binds X.K fd ps []) (ha : PA X (e :: es) t)
    (hd : (x == ("__debug__" : Str)) = false := by decide) (he : starEach (e :: es) X.env = (false, eval e X.env) :: starEach es X.env := by rfl) (hpl : (backTo pos (starEach es X.env)).any (·.1) = false := by rfl) :
    PE X (.Call (.Name x p) (e :: es) [] pos) (tCall sp [] C8.E0 t) := by
  refine ⟨fun pins s σ H Q I h => wpAny_Call_Name_kw (ld_glob I hg hm ?_ hd)⟩
  refine PySem.W.callWith_K (h₀ := X.base) I.ok.mod.kin hk (thn (ha.run pos pins s σ H _ I h) fun us s1 ⟨vs, H1, I1, rv, q⟩ => ⟨I1.kIn, ?_⟩) he hpl
  have q : sp vs H1 Q C8.E0 := by simpa using q
  have hl : us.length = ps.length := by rw [← F.len _ _ _ _ q, rv.length]
  have bt := hb s1 us I1.kIn (by simpa using hl)
  refine wpAny_call (codeAny_mono (F.run X.A X.stack s1 H1 ⟨us, []⟩ us vs Q gd (hr.mono hj) I1.env0 (by simpa using bt) rv q) fun r s' hq => ?_)
  cases r with
  | error er => exact False.elim (show False from hq)
  | ok fl =>
    cases fl with
    | ret w => exact I1.after hq
    | next => exact False.elim hq
    | brk => exact False.elim hq
    | cont => exact False.elim hq
end
end NX

set_option Elab.async false
set_option linter.all false
set_option maxRecDepth 100000
set_option maxHeartbeats 4000000
/-! The end of a row whose law wants an empty guard (FnG), in my own words. -/
namespace NX
open PySem PySem.Spec PyProof.Rows L2 LamX
section
variable {P : Program} {w : World} {K : PySem.W.Frag} {mg mb : Str → Option Value} {k : Nat} {fa a : Addr} {cs : List (Addr × Addr)} {fd : FuncData} {x : Str} {sp : Sp} {z : Shared} {vs : List Value} {ns : List Int}
/-- what is tracked at first: the empty tables, and the script where it is not written -/
def trackd (K : PySem.W.Frag) (cs : List (Addr × Addr)) (a : Addr) (vs : List Value) (ns : List Int) : Hp := fun b =>
  if b ∈ cs.map (·.2) then some (.tbl #[]) else if b = a ∧ K.lookup a = none then some (.frz { cls := .type "list", data := .seq vs.toArray } (.lst (ns.map V.int))) else none
/-- the heap of the call, as the tracked one sees it -/
structure Start (P : Program) (w : World) (K : PySem.W.Frag) (cs : List (Addr × Addr)) (a : Addr) (vs : List Value) (ns : List Int) (z : Shared) : Prop where
  KX : K.In z.heap
  hT : ∀ p ∈ cs, z.heap.get? p.2 = some { cls := .none, data := .fields #[] }
  nT : ∀ p ∈ cs, K.lookup p.2 = none
  ha : z.heap.get? a = some { cls := .type "list", data := .seq vs.toArray }
  hi : IntsAre vs ns
  hl : ns.length ≤ sizeLine
theorem Start.tab (S : Start P w K cs a vs ns z) {b : Addr} (h : b ∈ cs.map (·.2)) : z.heap.get? b = some { cls := .none, data := .fields #[] } ∧ K.lookup b = none := by
  obtain ⟨p, hp, rfl⟩ := List.mem_map.mp h
  exact ⟨S.hT p hp, S.nT p hp⟩
theorem Start.ne (S : Start P w K cs a vs ns z) : a ∉ cs.map (·.2) := fun h => by
  have q := (S.tab h).1
  rw [S.ha] at q
  injection q with q
  injection q with q1 q2 q3
  cases q3
theorem Start.at_tab (S : Start P w K cs a vs ns z) : ∀ p ∈ cs, trackd K cs a vs ns p.2 = some (.tbl #[]) := fun p hp => if_pos (List.mem_map.mpr ⟨p, hp, rfl⟩)
theorem Start.sq (S : Start P w K cs a vs ns z) : SqL K (trackd K cs a vs ns) a (ns.map V.int) := by
  cases hk : K.lookup a with
  | none => exact .inl (.inr ⟨_, (if_neg S.ne).trans (if_pos ⟨rfl, hk⟩)⟩)
  | some o =>
    have e := S.KX a o hk
    rw [S.ha] at e
    cases e
    exact .inr ⟨_, vs.toArray, _, hk, rfl, rfl, rfl, by rw [List.size_toArray, S.hi.length]; exact S.hl, by simpa using vals_ints S.hi⟩
/-- a tracked place is a table, or the script -/
theorem Start.cases (S : Start P w K cs a vs ns z) {b : Addr} {u : HO} (h : trackd K cs a vs ns b = some u) : (b ∈ cs.map (·.2) ∧ u = .tbl #[]) ∨ (b = a ∧ K.lookup a = none ∧ u = .frz { cls := .type "list", data := .seq vs.toArray } (.lst (ns.map V.int))) := by
  unfold trackd at h
  split at h
  · rename_i hb
    exact .inl ⟨hb, (Option.some.inj h).symm⟩
  · split at h
    · rename_i hb
      exact .inr ⟨hb.1, hb.2, (Option.some.inj h).symm⟩
    · cases h
theorem Start.ok (S : Start P w K cs a vs ns z) : HOk P w (trackd K cs a vs ns) z.heap := fun b u h => by
  rcases S.cases h with ⟨hb, rfl⟩ | ⟨rfl, _, rfl⟩
  · exact (S.tab hb).1
  · exact ⟨S.ha, by rw [List.length_map]; exact S.hl, vs, _, vals_ints S.hi, S.ha⟩
/-- what is neither a list nor an empty row of fields is not tracked -/
theorem Start.off (S : Start P w K cs a vs ns z) {b : Addr} {o : Obj} (e : z.heap.get? b = some o) (h1 : ∀ us n, o.data ≠ .seq us n) (h2 : o.data ≠ .fields #[]) : trackd K cs a vs ns b = none := by
  cases q : trackd K cs a vs ns b with
  | none => rfl
  | some u =>
    rcases S.cases q with ⟨hb, _⟩ | ⟨rfl, _, _⟩
    · rw [(S.tab hb).1] at e
      cases e
      exact (h2 rfl).elim
    · rw [S.ha] at e
      cases e
      exact (h1 _ _ rfl).elim
theorem Start.kin (S : Start P w K cs a vs ns z) : K.In (hidT z.heap (trackd K cs a vs ns)) := fun b o e => hidT_get (S.KX b o e) (by
  cases q : trackd K cs a vs ns b with
  | none => rfl
  | some u =>
    rcases S.cases q with ⟨hb, _⟩ | ⟨rfl, hk, _⟩
    · rw [(S.tab hb).2] at e
      cases e
    · rw [hk] at e
      cases e)
theorem Start.ns_ (S : Start P w K cs a vs ns z) {b : Addr} {m : Str → Option Value} (h : z.heap.Ns b m) : (hidT z.heap (trackd K cs a vs ns)).Ns b m := by
  obtain ⟨o, es, ep, e, d, r⟩ := h
  exact ⟨o, es, ep, hidT_get e (S.off e (fun us n q => by rw [d] at q; cases q) (fun q => by rw [d] at q; cases q)), d, r⟩
theorem Start.mod (S : Start P w K cs a vs ns z) (hg : z.heap.Ns mainGlobals mg) (hb : z.heap.Ns builtinsNs mb) (hbb : ∀ y : Str, y ≠ "__name__" → mb y = bootBuiltins y) (lim : z.heap.NoLimit) : L2.Mod K mg (hidT z.heap (trackd K cs a vs ns)) :=
  ⟨S.kin, S.ns_ hg, ⟨mb, S.ns_ hb, hbb⟩, by obtain ⟨mc, h1, h2⟩ := lim; exact ⟨mc, S.ns_ h1, h2⟩⟩
theorem Start.tabB (S : Start P w K cs a vs ns z) (hg : z.heap.Ns mainGlobals mg) (C : ∀ p ∈ cs, PySem.W.CodeHd z.heap p.1 p.2)
    (hm : ∃ (bm : Addr) (ob : Obj), mg "__builtins__" = some (.ref bm) ∧ bm ≠ builtinsNs ∧ z.heap.get? bm = some ob ∧ ob.cls = .type "module" ∧ ob.dict = some builtinsNs ∧ ob.data = .plain) : ∀ p ∈ cs, TabB (hidT z.heap (trackd K cs a vs ns)) mg p.1 p.2 := fun p hp => by
  have tp := S.hT p hp
  have gne : ∀ {b : Addr} {o : Obj}, z.heap.get? b = some o → (∀ es ep, o.data ≠ .dict es ep) → b ≠ mainGlobals := fun {b o} e d q => by
    obtain ⟨og, es, ep, eg, dg, _⟩ := hg
    rw [q, eg] at e
    cases e
    exact d es ep dg
  refine ⟨?_, ?_, fun q => gne tp (by intro es ep h; cases h) q.symm⟩
  · obtain ⟨o, us, file, tf, flags, tg, inF, text, tt, e1, r⟩ := C p hp
    refine ⟨o, us, file, tf, flags, tg, inF, text, tt, hidT_get e1 (S.off e1 (fun vs n q => ?_) fun q => ?_), r⟩
    · rw [r.2.1] at q
      cases q
    · rw [r.2.1] at q
      cases q
      have q2 := r.2.2.1
      simp at q2
  · obtain ⟨bm, ob, b1, b2, b3, b4, b5, b6⟩ := hm
    refine ⟨bm, ob, b1, b2, gne b3 (by intro es ep h; rw [b6] at h; cases h), fun q => ?_, hidT_get b3 (S.off b3 (fun vs n q => by rw [b6] at q; cases q) (fun q => by rw [b6] at q; cases q)), b4, b5, b6⟩
    rw [q, tp] at b3
    cases b3
    cases b6
theorem Start.env (S : Start P w K cs a vs ns z) (hg : z.heap.Ns mainGlobals mg) (hb : z.heap.Ns builtinsNs mb) (hbb : ∀ y : Str, y ≠ "__name__" → mb y = bootBuiltins y) (lim : z.heap.NoLimit) (gs : z.gens = #[]) : Env0 P w K mg (hidT z.heap (trackd K cs a vs ns)) callerA [] z (trackd K cs a vs ns) :=
  ⟨rfl, S.mod hg hb hbb lim, fun b o e => of_hidT e, Nat.le_of_eq (hidT_size _ _), trivial, fun b q => absurd (show b ∈ ([] : List Addr) from q) (by simp), S.ok, .of_eq gs⟩
theorem Start.sys (S : Start P w K cs a vs ns z) (h : SysB z.heap) : SysB (hidT z.heap (trackd K cs a vs ns)) := by
  obtain ⟨o, es, ep, e, d⟩ := h
  exact ⟨o, es, ep, hidT_get e (S.off e (fun us n q => by rw [d] at q; cases q) (fun q => by rw [d] at q; cases q)), d⟩
/-- the call of the law: it tells True, and what stood stands -/
theorem endG (S : Start P w K cs a vs ns z) (hg : z.heap.Ns mainGlobals mg) (hb : z.heap.Ns builtinsNs mb) (hbb : ∀ y : Str, y ≠ "__name__" → mb y = bootBuiltins y) (lim : z.heap.NoLimit) (gs : z.gens = #[]) (C : ∀ p ∈ cs, PySem.W.CodeHd z.heap p.1 p.2)
    (hm : ∃ (bm : Addr) (ob : Obj), mg "__builtins__" = some (.ref bm) ∧ bm ≠ builtinsNs ∧ z.heap.get? bm = some ob ∧ ob.cls = .type "module" ∧ ob.dict = some builtinsNs ∧ ob.data = .plain) (hr : Room k callerA) (hs : SysB z.heap)
    (F : ∀ base : Heap, K.In base → base.Ns mainGlobals mg → (∀ p ∈ cs, TabB base mg p.1 p.2) → SysB base → FnG P w K mg base k fa fd [x] sp) (bind : ∀ (t : Shared) (u : Value), BindsTo t fd ⟨[u], []⟩ [(x, u)])
    (ask : ∀ H : Hp, (∀ p ∈ cs, H p.2 = some (.tbl #[])) → SqL K H a (ns.map V.int) → sp [.ref a] H (fun v _ => v = .bl true) C8.E0) :
    codeAny (model P w) callerA (.call (.ref fa) ⟨[.ref a], []⟩) (fun r t => r = .ok (.ret (.bool true)) ∧ OldK z.heap t.heap ∧ t.os = z.os ∧ AllBare t.gens) z := by
  refine codeAny_mono ((F _ S.kin (S.ns_ hg) (S.tabB hg C hm) (S.sys hs)).run callerA [] z _ ⟨[.ref a], []⟩ [.ref a] [.ref a] _ rfl hr (S.env hg hb hbb lim gs) (bind z (.ref a)) (.cons rfl .nil) (ask _ S.at_tab S.sq)) fun r t h => ?_
  cases r with
  | error e => exact False.elim (show False from h)
  | ok fl =>
    cases fl with
    | next => exact False.elim h
    | brk => exact False.elim h
    | cont => exact False.elim h
    | ret u =>
      obtain ⟨v, H', os, bare, un, ok', ru, q⟩ := h
      have q : v = .bl true := q
      subst q
      obtain rfl : u = Value.bool true := ru
      have kept : ∀ b o, b ∉ cs.map (·.2) → z.heap.get? b = some o → t.heap.get? b = some o := fun b o nb e => by
        cases y : trackd K cs a vs ns b with
        | none => exact un.keep b o e y (by intro n; exact absurd (show b ∈ ([] : List Addr) from n) (by simp)) (by simp)
        | some u =>
          rcases S.cases y with ⟨hb, _⟩ | ⟨rfl, _, rfl⟩
          · exact absurd hb nb
          · obtain ⟨e2, _⟩ := ok' _ _ (un.frzs _ _ _ y)
            rw [S.ha] at e
            cases e
            exact e2
      have grow : ∀ p ∈ cs, ∃ more : Array Value, t.heap.get? p.2 = some { cls := .none, data := .fields more } := fun p hp => by
        obtain ⟨more, y⟩ := un.tbls p.2 #[] (S.at_tab p hp)
        exact ⟨_, ok' p.2 _ y⟩
      refine ⟨rfl, ⟨fun b o e => ?_, fun b o e => ?_⟩, os, bare⟩
      · by_cases hb : b ∈ cs.map (·.2)
        · obtain ⟨p, hp, rfl⟩ := List.mem_map.mp hb
          obtain ⟨more, hmo⟩ := grow p hp
          rw [S.hT p hp] at e
          cases e
          exact .inr (.inl ⟨((C p hp).tab (S.hT p hp)).isCodeTable, rfl, #[], more, rfl, by rw [Array.empty_append]; exact hmo⟩)
        · exact .inl (kept b o hb e)
      · by_cases hb : b ∈ cs.map (·.2)
        · obtain ⟨p, hp, rfl⟩ := List.mem_map.mp hb
          obtain ⟨more, hmo⟩ := grow p hp
          exact ⟨_, hmo⟩
        · exact ⟨o, kept b o hb e⟩
end
/-- what the head has to tell of the law at fa -/
structure LawG (l : PySem.W.OpenLaw) (w : World) (K : PySem.W.Frag) (k n : Nat) (x : Str) (mg : Str → Option Value) (fa : Addr) (h : Heap) (fd : FuncData) (cs : List (Addr × Addr)) (sp : Sp) : Prop where
  hT : ∀ p ∈ cs, h.get? p.2 = some { cls := .none, data := .fields #[] }
  nT : ∀ p ∈ cs, K.lookup p.2 = none
  C : ∀ p ∈ cs, PySem.W.CodeHd h p.1 p.2
  bind : ∀ (t : Shared) (u : Value), BindsTo t fd ⟨[u], []⟩ [(x, u)]
  ask : ∀ (H : Hp) (a : Addr) (ns : List Int), ns.length ≤ n → (∀ p ∈ cs, H p.2 = some (.tbl #[])) → SqL K H a (ns.map V.int) → sp [.ref a] H (fun v _ => v = .bl true) C8.E0
  F : ∀ base : Heap, K.In base → base.Ns mainGlobals mg → (∀ p ∈ cs, TabB base mg p.1 p.2) → SysB base → FnG l.prog w K mg base k fa fd [x] sp
theorem walkG {l : PySem.W.OpenLaw} {n k : Nat} {q : Program} {loose : List Str} {XP : (Str → Option Value) → Heap → Prop} {YP : World → Heap → Prop} {d : DefRec} {K : Params → PySem.W.Frag} {x : Str} (hn : l.most = some n) (hn2 : n ≤ sizeLine) (hdf : d.params.defaults = []) (hr : Room k callerA) (hi : importsNone q = true)
    (hY : ∀ (w : World) (h : Heap), YP w h → (K w.params).In h) (G : ∀ (w : World) (mg : Str → Option Value) (fa : Addr) (h : Heap), YP w h → (K w.params).In h → h.Ns mainGlobals mg → mg d.name = some (.ref fa) → ∃ fd cs sp, LawG l w (K w.params) k n x mg fa h fd cs sp) :
    PySem.W.WalkO q loose XP YP l.row.toRowW d [] (fun f vs => PySem.call f vs) := by
  refine Att.attach_callB hn hdf fun w s₀ s₁ mg mb fa o pm cd doc a vs ns T Y ho hd hcd hmg hobj hints hlen hbits hgen => ?_
  have KX := hY w _ Y
  obtain ⟨fd, cs, sp, L⟩ := G w mg fa _ Y KX T.T.g hmg
  exact endG ⟨KX, L.hT, L.nT, hobj, hints, Nat.le_trans hlen hn2⟩ T.T.g T.T.b T.T.builtins T.T.nolimit hgen L.C T.T.bmain hr (by obtain ⟨mm, ⟨o, es, ep, e, d, _⟩, _⟩ := (T.T.seer hi).mods; exact ⟨o, es, ep, e, d⟩) L.F L.bind (fun H h1 h2 => L.ask H a ns hlen h1 h2)
end NX

set_option Elab.async false
set_option linter.all false
set_option maxRecDepth 100000
set_option maxHeartbeats 4000000
/-! A rule of my own: C.m(k=e, ..), m a classmethod, by keywords alone. -/
namespace NX
open PySem PySem.Spec PyProof.Rows L2
section
variable {X : Cx} {CX : CXT} {k : Nat} {C p g : Addr} {mc : Value} {sp : Sp} {E : XK} {o : Expr} {kws : List Keyword} {m : Str} {pos apos : Pos} {ta : TE} {t : TA} {pl : Sem Bool} {fd : FuncData} {ps ks : List Str}
theorem pe_cmethK (he : PE X o ta) (r : ClX.CRead X.K C mc) (c : ClX.CMet X.K C mc m p g) (F : FnOk X.prog X.w X.K X.mg X.base CX k g fd ps sp) (hb : ∀ (s : Shared) (us : List Value), us.length + 1 = ps.length → BindsTo s fd ⟨[.ref C], ks.zip us⟩ (ps.zip (.ref C :: us)))
    (hr : Room k X.A) (hx : Passes CX X E) (ha : PK X kws t) (hall : (backToKw pos (keywordEach kws X.env)).all (·.1.isSome) = true := by rfl) (hks : (backToKw pos (keywordEach kws X.env)).filterMap (·.1) = ks := by rfl)
    (hpl : ((backTo pos (starEach [] X.env)).any (·.1) || (backToKw pos (keywordEach kws X.env)).any (·.1.isNone)) = false := by rfl)
    (ht : eval (.Call (.Attribute o m apos) [] kws pos) X.env = (do
      let ov ← eval o X.env
      standAt apos.atName
      let (f, first) ← holding [ov] (getMethod ov m pl)
      callWith pos f first (backTo pos (starEach [] X.env)) (backToKw pos (keywordEach kws X.env))) := by rfl) :
    PE X (.Call (.Attribute o m apos) [] kws pos) (ClX.tCMeth C sp E ta t) := by
  refine ⟨fun pins s σ H Q I h => PySem.W.methodCall_KW (pl := pl) (thn (he.run pins s σ H _ I h) fun u s1 ⟨x, H1, I1, rx, ex, q⟩ => ?_) ht⟩
  subst ex
  obtain rfl : u = Value.ref C := rx
  refine ClX.getmethcm_ok I1 r c fun s2 I2 => ?_
  refine PySem.W.callWith_of hpl (PySem.W.keeps_M (K := X.K) (self := .ref C) c.fi) (PyProof.Rows.evalArgs_kw2_nil hall (thn (ha.run pos _ s2 σ H1 _ I2 q) fun us s3 ⟨vs, H2, I3, rv, q2⟩ => ⟨⟨ClX.pin_at I3, I3.kIn⟩, ?_⟩))
  rw [hks]
  have r2 : Vals (V.ref C :: vs) (Value.ref C :: us) := .cons rfl rv
  have hl : us.length + 1 = ps.length := by
    have z := F.len _ _ _ _ q2
    rw [← z, r2.length]
    rfl
  have z : wpAny (model X.prog X.w) X.A (call (.ref s1.heap.objs.size) ([] ++ []) (ks.zip us)) (EP X ((s1.heap.objs.size, PySem.W.methodObj (.ref g) (.ref C)) :: pins) σ Q) X.xe s3 := by
    refine wpAny_call (PySem.W.method_call (ClX.pin_at I3) (codeAny_mono (F.run X.A X.stack s3 H2 ⟨[.ref C], ks.zip us⟩ (.ref C :: us) (.ref C :: vs) Q E hr I3.env0 (hb s3 us hl) r2 q2) fun r s' hq => ?_))
    cases r with
    | error er => exact hx _ σ H2 s3 er s' I3 hq
    | ok fl =>
      cases fl with
      | ret w => exact I3.after hq
      | next => exact False.elim hq
      | brk => exact False.elim hq
      | cont => exact False.elim hq
  exact thn z fun _ _ y => ClX.unpinE y
end
end NX

set_option Elab.async false
set_option linter.all false
set_option maxRecDepth 100000
set_option maxHeartbeats 4000000
/-! Rules of my own: == and != of an object whose class has an own equality; any answer, any other side. -/
namespace NX
open PySem PySem.Spec PyProof.Rows L2
/-- what the class at C says of == and != -/
structure EqC (K : PySem.W.Frag) (C f : Addr) : Prop where
  cl : Cls K C
  eq : PySem.W.findIn K (.ref C) "__eq__" = some (some (.ref f))
  ne : PySem.W.findIn K (.ref C) "__ne__" = some (some (.builtin "object.__ne__"))
  fn : PySem.W.isFn K (.ref f) = true
  ob : PySem.W.mroIn K C (.type "object") = some true
section
variable {X : Cx} {n : Nat} {f : Addr} {fd : FuncData} {ps : List Str} {sp : Sp} {CX : CXT} {E : XK}
/-- the own equality is called by the machine -/
theorem run_own (F : FnOk X.prog X.w X.K X.mg X.base CX n f fd ps sp) (hb : Binds X.K fd ps []) (hx : Passes CX X E) {A : Around} {pins : List (Addr × Obj)} {σ : L2.St} {H : Hp} {s : Shared} {x y : V} {u v : Value} {Q : VK}
    (sb : Sub X n A) (I : Inv X pins σ H s) (rx : RelV x u) (ry : RelV y v) (q : sp [x, y] H Q E) : wpAny (model X.prog X.w) A (call (.ref f) [u, v]) (EP X pins σ Q) X.xe s := by
  have e := I.env0
  have e0 : Env0 X.prog X.w X.K X.mg X.base A X.stack s H := ⟨by rw [sb.fr]; exact e.frames, e.mod, e.bs, e.bsz, e.funs, e.frf, e.hok, e.bare⟩
  have hl : [u, v].length = ps.length := (F.len _ _ _ _ q)
  have r2 : Vals [x, y] [u, v] := .cons rx (.cons ry .nil)
  refine wpAny_call (codeAny_mono (F.run A X.stack s H ⟨[u, v], []⟩ [u, v] [x, y] Q E sb.room e0 (by
    have z := hb s [u, v] I.kIn (by simpa using hl)
    simpa using z) r2 q) fun r s' hq => ?_)
  cases r with
  | error er => exact hx pins σ H s er s' I hq
  | ok fl =>
    cases fl with
    | ret w => exact I.after hq
    | next => exact False.elim hq
    | brk => exact False.elim hq
    | cont => exact False.elim hq
def rOwn (K : PySem.W.Frag) (f : Addr) (sp : Sp) (E : XK) (neg : Bool) : R2 := fun x y H Q => ∃ (a C dx : Addr) (fs : List (Str × V)) (tb : Value), x = .ref a ∧ H a = some (.ins C dx fs) ∧ EqC K C f ∧ PySem.W.notFirst K C tb = true ∧ TyX K H y tb ∧
  sp [x, y] H (fun v H' => ∃ b, v = .bl b ∧ Q (.bl (if neg then !b else b)) H') E
theorem op_eqOwn (F : FnOk X.prog X.w X.K X.mg X.base CX n f fd ps sp) (hb : Binds X.K fd ps []) (hx : Passes CX X E) (hr : Room n X.A) : OpR X (compareOp .Eq) (rOwn X.K f sp E false) := by
  intro pins s σ H x y u v Q I rx ry h
  obtain ⟨a, C, dx, fs, tb, rfl, ha, T, nf, ty, q⟩ := h
  obtain rfl : u = Value.ref a := rx
  obtain ⟨mA, O, _⟩ := ins_get I.hok ha
  obtain ⟨od, J, _⟩ := O.look
  obtain ⟨m, fr⟩ := I.fr
  obtain ⟨P, Z, p, _⟩ := kit_of I ry ty
  show wpAny (model X.prog X.w) X.A (richCompare .Eq (.ref a) v) (EP X pins σ Q) X.xe s
  refine PySem.W.cmp_K (op := .Eq) (tb := tb) hr.units0 fr I.ok.mod.kin J (Z.ty _ _ I.kIn p) nf T.eq T.fn ?_
  refine wpAny_mono (run_own (x := .ref a) F hb hx ⟨hr, rfl⟩ I rfl ry q) (fun r s' hq => ?_) fun _ _ z => z
  obtain ⟨w, H', I', rw', b, rfl, q'⟩ := hq
  obtain rfl : r = Value.bool b := rw'
  exact ⟨.bl b, H', I', rfl, q'⟩
end
end NX
namespace NX
open PySem PySem.W PyProof.Rows Builtin
section
variable {prog : Program} {w : World} {A : Around} {E : Value → Shared → Prop} {s : Shared} {K : Frag} {x C f : Addr} {ox : Obj} {od : Option Obj} {b tb : Value}
/-- object.__ne__ found by the class is bound and called -/
theorem bound_ne {M : Model} {args : List Value} {Q : Option Value → Shared → Prop} (X : K.In s.heap) (I : InstAt s.heap x ox C od) (hs : findIn K (.ref C) "__ne__" = some (some (.builtin "object.__ne__")))
    (h : wpAny M A (call (.builtin "object.__ne__") (.ref x :: args)) (fun v => Q (some v)) E s) : wpAny M A (callSpecialIfBound? (.ref x) "__ne__" args) Q E s := by
  simp only [callSpecialIfBound?, bindSpecialIfBound?]
  refine wpAny_holding (wpAny_bind (wpAny_bind (wpAny_bind (I.type.here ((looks_findIn X hs).here ?_)))))
  simp only [F.cmp_object.ne.bind]
  have last : wpAny M A (call (.builtin "object.__ne__") ([.ref x] ++ args) >>= fun v => pure (some v)) Q E s := wpAny_bind (wpAny_mono h (fun v s' q => wpAny_pure q) fun _ _ q => q)
  refine wpAny_bind (wpAny_askSetting (wpAny_ite ?_))
  split
  · exact wpAny_bind (wpAny_pure (wpAny_pure last))
  · exact wpAny_tryCatch (wpAny_bind (wpAny_pure (wpAny_pure last)))
/-- .. and asks the own equality, whose answer it turns -/
theorem call_ne {Q : Value → Shared → Prop} (hu : A.units + 1 < cLine) (X : K.In s.heap) (I : InstAt s.heap x ox C od) (he : findIn K (.ref C) "__eq__" = some (some (.ref f))) (hf : isFn K (.ref f) = true) (ho : mroIn K C (.type "object") = some true)
    (h : wpAny (model prog w) A.in1 (call (.ref f) [.ref x, b]) (fun v s' => ∃ k, v = .bool k ∧ Q (.bool (!k)) s') E s) : wpAny (model prog w) A (call (.builtin "object.__ne__") [.ref x, b]) Q E s := by
  obtain ⟨hp, g, d, t, os⟩ := s
  have sub : Looks (model prog w) hp (isInstance (.ref x) (.type "object")) true := I.type.andThen (looks_mroIn X ho)
  refine wpAny_call (codeAny_call_builtin F.cmp_object.ne.plain F.cmpEntry_ne (@check_slot (model prog w) _ _ ⟨hp, g, d, t, os⟩ "object.__ne__" "object" "__ne__" (.ref x) [b] [] _ F.cmpKind_ne F.cmpSplit_ne sub (F.cmpArgs_ne _ _) ?_))
  unfold Builtin.«object.__ne__»
  repeat (first
    | with_reducible refine wpAny_cRoomFor (show A.in1.units < cLine from hu) ?_
    | (refine wpAny_bind (m := callSpecialIfBound? (.ref x) (Str.ofString "__eq__") [b]) (ifBound_K X I he hf (wpAny_mono h (fun r s' hr => ?_) fun _ _ e => e)))
    | wp_step)
  obtain ⟨k, rfl, q⟩ := hr
  exact wpAny_bind (wpAny_truthy_bool (wpAny_pure q))
/-- x != b -/
theorem rich_ne {Q : Value → Shared → Prop} (hu : A.units + 1 < cLine) (X : K.In s.heap) (I : InstAt s.heap x ox C od) (hb : Looks (model prog w) s.heap (typeOf b) tb) (hn : notFirst K C tb = true) (hs : findIn K (.ref C) "__ne__" = some (some (.builtin "object.__ne__")))
    (he : findIn K (.ref C) "__eq__" = some (some (.ref f))) (hf : isFn K (.ref f) = true) (ho : mroIn K C (.type "object") = some true)
    (h : wpAny (model prog w) A.in1 (call (.ref f) [.ref x, b]) (fun v s' => ∃ k, v = .bool k ∧ Q (.bool (!k)) s') E s) : wpAny (model prog w) A (richCompare .NotEq (.ref x) b) Q E s := by
  have one : wpAny (model prog w) A (tryCompare (.ref x) "__ne__" b) (fun r s' => ∃ k, r = some (.bool k) ∧ Q (.bool k) s') E s := by
    unfold tryCompare
    refine wpAny_bind (bound_ne X I hs (call_ne (Q := fun v s' => ∃ k, v = .bool k ∧ Q (.bool k) s') hu X I he hf ho (wpAny_mono h (fun v s' ⟨k, e, q⟩ => ⟨k, e, _, rfl, q⟩) fun _ _ e => e) |> fun z => wpAny_mono z (fun v s' ⟨k, e, q⟩ => ?_) fun _ _ e => e))
    subst e
    exact wpAny_pure ⟨k, rfl, q⟩
  unfold richCompare
  simp only [oneThing_ref]
  refine wpAny_holding (wpAny_bind (wpAny_cRoomFor (Nat.lt_of_succ_lt hu) ?_))
  rw [cmpInfo_NotEq]
  dsimp only
  refine wpAny_bind (I.type.here (wpAny_bind (hb.here ?_)))
  split
  · rename_i q
    have e : subIn K tb (.ref C) = some false := by
      rcases Bool.or_eq_true_iff.mp hn with e | e
      · rw [beq_iff_eq.mp e] at q
        simp at q
      · exact beq_iff_eq.mp e
    refine wpAny_bind ((looks_subIn X e).here ?_)
    simp only [Bool.false_eq_true, if_false]
    refine wpAny_bind (wpAny_mono one (fun r s' ⟨k, z, hq⟩ => ?_) fun _ _ e => e)
    subst z
    exact wpAny_pure hq
  · refine wpAny_bind (wpAny_pure ?_)
    simp only [Bool.false_eq_true, if_false]
    refine wpAny_bind (wpAny_mono one (fun r s' ⟨k, z, hq⟩ => ?_) fun _ _ e => e)
    subst z
    exact wpAny_pure hq
end
end NX
namespace NX
open PySem PySem.Spec PyProof.Rows L2
section
variable {X : Cx} {n : Nat} {f : Addr} {fd : FuncData} {ps : List Str} {sp : Sp} {CX : CXT} {E : XK}
theorem op_neOwn (F : FnOk X.prog X.w X.K X.mg X.base CX n f fd ps sp) (hb : Binds X.K fd ps []) (hx : Passes CX X E) (hr : Room (n + 1) X.A) : OpR X (compareOp .NotEq) (rOwn X.K f sp E true) := by
  intro pins s σ H x y u v Q I rx ry h
  obtain ⟨a, C, dx, fs, tb, rfl, ha, T, nf, ty, q⟩ := h
  obtain rfl : u = Value.ref a := rx
  obtain ⟨mA, O, _⟩ := ins_get I.hok ha
  obtain ⟨od, J, _⟩ := O.look
  obtain ⟨P, Z, p, _⟩ := kit_of I ry ty
  show wpAny (model X.prog X.w) X.A (richCompare .NotEq (.ref a) v) (EP X pins σ Q) X.xe s
  refine rich_ne (hu_of hr) I.kIn J (Z.ty _ _ I.kIn p) nf T.ne T.eq T.fn T.ob (wpAny_mono (run_own (x := .ref a) F hb hx ⟨hr.in1, rfl⟩ I rfl ry q) (fun r s' hq => ?_) fun _ _ z => z)
  obtain ⟨w, H', I', rw', b, rfl, q'⟩ := hq
  obtain rfl : r = Value.bool b := rw'
  exact ⟨b, rfl, .bl (!b), H', I', rfl, q'⟩
end
end NX

set_option Elab.async false
set_option linter.all false
set_option maxRecDepth 100000
set_option maxHeartbeats 4000000
/-! What the head tells of classes, errors and defs, in bundles. -/
namespace NX
open PySem L2 LamX PySem.Spec PyProof.Rows
section
variable {K : PySem.W.Frag}
theorem kit_self {C : Addr} : PySem.W.kitOne K (.ref C) (.ref C) = some true := by
  unfold PySem.W.kitOne
  rw [if_pos (beq_self_eq_true _)]
theorem kitCls_of {t : Value} {D : Addr} {b : Bool} (i : PySem.W.isClsIn K D = true) (ty : PySem.W.typeIn K (.ref D) = some (.type "type")) (s : PySem.W.subIn K t (.ref D) = some b) : PySem.W.kitCls K t (.ref D) = some b := by
  have e : ((PySem.W.clsIn K D).isSome && PySem.W.typeIn K (.ref D) == some (.type "type")) = true := by
    have i' : (PySem.W.clsIn K D).isSome = true := i
    rw [i', ty] <;> rfl
  show (if ((PySem.W.clsIn K D).isSome && PySem.W.typeIn K (.ref D) == some (.type "type")) = true then PySem.W.subIn K t (.ref D) else none) = some b
  rw [if_pos e]
  exact s
theorem kit_of {t : Value} {D : Addr} {b : Bool} (ne : (t == .ref D) = false) (i : PySem.W.isClsIn K D = true) (ty : PySem.W.typeIn K (.ref D) = some (.type "type")) (s : PySem.W.subIn K t (.ref D) = some b) : PySem.W.kitOne K t (.ref D) = some b := by
  unfold PySem.W.kitOne
  rw [if_neg (by rw [ne]; exact Bool.false_ne_true)]
  exact kitCls_of i ty s
theorem kit_ref {C D : Addr} {b : Bool} (ne : decide (C = D) = false) (i : PySem.W.isClsIn K D = true) (ty : PySem.W.typeIn K (.ref D) = some (.type "type")) (s : PySem.W.subIn K (.ref C) (.ref D) = some b) : PySem.W.kitOne K (.ref C) (.ref D) = some b :=
  kit_of (by
    have n : C ≠ D := of_decide_eq_false ne
    cases q : ((.ref C : Value) == .ref D) with
    | false => rfl
    | true =>
      have z : (Value.ref C) = .ref D := eq_of_beq q
      cases z
      exact absurd rfl n) i ty s
theorem kit_tyr {T : String} {D : Addr} {b : Bool} (i : PySem.W.isClsIn K D = true) (ty : PySem.W.typeIn K (.ref D) = some (.type "type")) (s : PySem.W.subIn K (.type T) (.ref D) = some b) : PySem.W.kitOne K (.type T) (.ref D) = some b :=
  kit_of (by
    cases q : ((.type T : Value) == .ref D) with
    | false => rfl
    | true =>
      have z : (Value.type T) = .ref D := eq_of_beq q
      cases z) i ty s
theorem kit_rty {T : String} {C : Addr} {b : Bool} (m : PySem.W.kitMeta T = true) (s : PySem.W.subIn K (.ref C) (.type T) = some b) : PySem.W.kitOne K (.ref C) (.type T) = some b := by
  have ne : ((.ref C : Value) == .type T) = false := by
    cases q : ((.ref C : Value) == .type T) with
    | false => rfl
    | true =>
      have z : (Value.ref C) = .type T := eq_of_beq q
      cases z
  unfold PySem.W.kitOne
  rw [if_neg (by rw [ne]; exact Bool.false_ne_true)]
  show (if PySem.W.kitMeta T = true then PySem.W.subIn K (.ref C) (.type T) else none) = some b
  rw [if_pos m]
  exact s
theorem exm_of {C S : Addr} {b : Bool} (h1 : PySem.W.subIn K (.ref S) (.type "BaseException") = some true) (i : PySem.W.isClsIn K S = true) (ty : PySem.W.typeIn K (.ref S) = some (.type "type")) (s : PySem.W.subIn K (.ref C) (.ref S) = some b) : PySem.W.exmOne K (.ref C) (.ref S) = some b := by
  have e1 : (PySem.W.subIn K (.ref S) (.type "BaseException") == some true) = true := by rw [h1] <;> rfl
  show (if (PySem.W.subIn K (.ref S) (.type "BaseException") == some true) = true then PySem.W.kitCls K (.ref C) (.ref S) else none) = some b
  rw [if_pos e1]
  exact kitCls_of i ty s
/-- a def as it stands in the written part -/
structure FnF (K : PySem.W.Frag) (x q : Str) (st : Stmt) (f : Addr) : Prop where
  ex : ∃ fd, Fun K x q st f fd
theorem fnF {x q : Str} {st : Stmt} {f : Addr} {oc : Value} {od an : Option Addr} {osl : Array (Option Value)} {kV doc pm cdv ct : Value} (l : K.lookup f = some ⟨oc, od, .func (PySem.W.fnOf x q (defArgs st) (defBody st) (defScope st) .none kV doc pm an cdv ct), osl⟩)
    (c : PySem.W.codeIn K cdv q = true) (k : PySem.W.keepIn K (.ref f) = true) : FnF K x q st f := ⟨⟨_, fun_mk l c k⟩⟩
/-- a def of ours, with its code object -/
structure FunC (K : PySem.W.Frag) (x : Str) (st : Stmt) (f : Addr) (fd : FuncData) (c : Addr) : Prop where
  ex : ∃ oc od kV doc pm an ct osl, fd = PySem.W.fnOf x x (defArgs st) (defBody st) (defScope st) .none kV doc pm an (.ref c) ct ∧ K.lookup f = some ⟨oc, od, .func fd, osl⟩ ∧ PySem.W.codeIn K (.ref c) x = true
  kp : PySem.W.keepIn K (.ref f) = true
/-- .. and the table of that -/
structure FnT (K : PySem.W.Frag) (x : Str) (st : Stmt) (f c Pc : Addr) : Prop where
  ex : ∃ fd, FunC K x st f fd c
  hd : PySem.W.codeHdIn K c Pc = true
theorem fnT {x : Str} {st : Stmt} {f c Pc : Addr} {oc e1 : Value} {od an e2 : Option Addr} {osl sl : Array (Option Value)} {kV doc pm ct : Value} {vs : Array Value}
    (l : K.lookup f = some ⟨oc, od, .func (PySem.W.fnOf x x (defArgs st) (defBody st) (defScope st) .none kV doc pm an (.ref c) ct), osl⟩)
    (cd : PySem.W.codeIn K (.ref c) x = true) (k : PySem.W.keepIn K (.ref f) = true) (lc : K.lookup c = some ⟨e1, e2, .fields vs, sl⟩) (h11 : vs[11]? = some (.ref Pc)) (hd : PySem.W.codeHdIn K c Pc = true) : FnT K x st f c Pc :=
  ⟨⟨_, ⟨oc, od, kV, doc, pm, an, ct, osl, rfl, l, cd⟩, k⟩, hd⟩
end
theorem FunC.binds {K : PySem.W.Frag} {x : Str} {st : Stmt} {f c : Addr} {fd : FuncData} {ps : List Str} (F : FunC K x st f fd c) (hb : ∀ (kV doc pm : Value) (an : Option Addr) (ct : Value) (us : List Value), us.length = ps.length → bindArgs (PySem.W.fnOf x x (defArgs st) (defBody st) (defScope st) .none kV doc pm an (.ref c) ct) ⟨us, []⟩ = pure (ps.zip us)) : Binds K fd ps [] := by
  obtain ⟨oc, od, kV, doc, pm, an, ct, osl, rfl, lk, hcd⟩ := F.ex
  exact .all fun us hl => hb kV doc pm an ct us hl
/-- an error of ours, which keeps the field y -/
structure ErrF (K : PySem.W.Frag) (x y : Str) (C fI CS : Addr) : Prop where
  g : PySem.W.nsIn K mainGlobals x = some (some (.ref C))
  i : PySem.W.findIn K (.ref C) "__init__" = some (some (.ref fI))
  t : PySem.W.typeIn K (.ref fI) = some (.type "function")
  cls : ∃ nm q N bs sn sub ab col dd k0 k1 k2 k3 k5, K.lookup C = some (excClassObj nm q C N bs [.ref CS, .type "ValueError", .type "Exception", .type "BaseException", .type "object"] true sn sub ab col dd k0 k1 k2 k3 k5 "ValueError.__new__")
  sa : PySem.W.findIn K (.ref C) "__setattr__" = some (some (.builtin "object.__setattr__"))
  ex : PySem.W.subIn K (.ref C) (.type "BaseException") = some true
  ty : PySem.W.typeIn K (.ref C) = some (.type "type")
  kp : PySem.W.keepIn K (.ref C) = true
  v : PySem.W.findIn K (.ref C) y = some none
  ga : PySem.W.findIn K (.ref C) "__getattribute__" = some (some (.builtin "BaseException.__getattribute__"))
  gg : PySem.W.findIn K (.ref C) "__getattr__" = some none
  hd : PySem.W.hasDictIn K C = true
  cl : PySem.W.findIn K (.ref C) "__class__" = some (some (.builtin "object.__class__"))
  ob : PySem.W.mroIn K C (.type "object") = some true
  ic : PySem.W.isClsIn K C = true
  sS : PySem.W.subIn K (.ref C) (.ref CS) = some true
  sV : PySem.W.subIn K (.ref C) (.type "ValueError") = some true
theorem refs5 (CS : Addr) : PySem.HandSPX.refsVE [.ref CS, .type "ValueError", .type "Exception", .type "BaseException", .type "object"] = true := by
  show PySem.HandSPX.refsVE [.type "ValueError", .type "Exception", .type "BaseException", .type "object"] = true
  decide +kernel
/-- what is asked of the base of the errors, and of isinstance -/
structure BaseF (K : PySem.W.Frag) (CS : Addr) : Prop where
  g : PySem.W.nsIn K mainGlobals "StowError" = some (some (.ref CS))
  sB : PySem.W.subIn K (.ref CS) (.type "BaseException") = some true
  sI : PySem.W.isClsIn K CS = true
  sT : PySem.W.typeIn K (.ref CS) = some (.type "type")
  hn : PySem.W.specialIn K (.builtin "object.__class__") "__get__" = some (some (.builtin "getset_descriptor.__get__"))
  ht : PySem.W.takesIn K (.builtin "object.__class__") = some true
/-- a class of ours, made by an __init__ -/
structure ClsF (K : PySem.W.Frag) (x : Str) (C fI : Addr) : Prop where
  g : PySem.W.nsIn K mainGlobals x = some (some (.ref C))
  pg : PySem.W.plainGet K C Str.empty = true
  hd : PySem.W.hasDictIn K C = true
  po : PySem.W.plainOver K C = true
  sa : PySem.W.findIn K (.ref C) "__setattr__" = some (some (.builtin "object.__setattr__"))
  mkC : PySem.W.makesIn K C = true
  ini : PySem.W.findIn K (.ref C) "__init__" = some (some (.ref fI))
  ifn : PySem.W.isFn K (.ref fI) = true
  kp : PySem.W.keepIn K (.ref C) = true
theorem ClsF.cls {K : PySem.W.Frag} {x : Str} {C fI : Addr} (F : ClsF K x C fI) : Cls K C := ⟨F.pg, F.hd, F.po, F.sa⟩
theorem ClsF.mak {K : PySem.W.Frag} {x : Str} {C fI : Addr} (F : ClsF K x C fI) : Mk K C fI := ⟨F.mkC, F.ini, F.ifn, F.kp⟩
/-- a classmethod read off a class -/
structure CmF (K : PySem.W.Frag) (C : Addr) (m : Str) (p g : Addr) : Prop where
  at_ : PySem.W.findCls K (.ref C) (.type "type") m = some (.get (.builtin "classmethod.__get__") (.ref p) .none (.ref C))
  rc : ∃ rest, PySem.W.recIn K p "classmethod" = some (.ref g :: rest)
  fi : PySem.W.fnIn K g = true
structure RdF (K : PySem.W.Frag) (C : Addr) : Prop where
  rd : PySem.W.readsIn K C (.type "type") = true
  ga : PySem.W.specialIn K (.ref C) "__getattribute__" = some (some (.builtin "type.__getattribute__"))
section
variable {P : Program} {w : World} {K : PySem.W.Frag} {mg : Str → Option Value} {base h : Heap}
theorem ErrF.O {x y : Str} {C fI CS : Addr} (E : ErrF K x y C fI CS) : OexC K C := by
  obtain ⟨nm, q, N, bs, sn, sub, ab, col, dd, k0, k1, k2, k3, k5, e⟩ := E.cls
  exact ⟨⟨nm, q, N, bs, _, sn, sub, ab, col, dd, k0, k1, k2, k3, k5, e, refs5 CS⟩, E.sa, E.ex, E.ty, E.kp⟩
theorem ErrF.ec {x y : Str} {C fI CS : Addr} (E : ErrF K x y C fI CS) (B : BaseF K CS) : ExcC K C := ⟨E.ga, E.gg, E.ex, E.hd, E.cl, B.hn, B.ht, E.ob⟩
theorem ErrF.xf {x y : Str} {C fI CS : Addr} (E : ErrF K x y C fI CS) : XfC K C := ⟨E.ga, E.gg, E.ex, E.hd⟩
theorem ErrF.exm {x y : Str} {C fI CS : Addr} (E : ErrF K x y C fI CS) (B : BaseF K CS) : PySem.W.exmOne K (.ref C) (.ref CS) = some true := exm_of B.sB B.sI B.sT E.sS
theorem ErrF.ve {x y : Str} {C fI CS : Addr} (E : ErrF K x y C fI CS) : PySem.W.kitOne K (.ref C) (.type "ValueError") = some true := kit_rty (by decide +kernel) E.sV
/-- the tables of the lambdas: by the code objects of the defs that hold them -/
structure TbF (h : Heap) (K : PySem.W.Frag) (c p : Addr) : Prop where
  hd : PySem.W.CodeHd h c p
  n : K.lookup p = none
end
end NX

set_option Elab.async false
set_option linter.all false
set_option maxRecDepth 100000
set_option maxHeartbeats 4000000
/-! The head by one run in the kernel: the written part is what the end's heap holds at told addresses; what is asked of it is one Bool. -/
namespace HK
open PySem L2 LamX PySem.Spec PyProof.Rows NX
abbrev Fg := PySem.W.Frag
/-! ### addresses by names -/
/-- what the module's name x holds -/
abbrev g (x : Str) : Fg → Addr := fun K => He.ga K x
/-- what the class at C holds under m -/
abbrev m (C : Fg → Addr) (x : Str) : Fg → Addr := fun K => He.ma K (C K) x
/-- the def within a property, a classmethod -/
def inner (T : String) (p : Fg → Addr) : Fg → Addr := fun K => match PySem.W.recIn K (p K) T with
  | some (.ref a :: _) => a
  | _ => 0
/-- the classmethod object that the class at C holds under m -/
def cmO (C : Fg → Addr) (x : Str) : Fg → Addr := fun K => match PySem.W.findCls K (.ref (C K)) (.type "type") x with
  | some (.get _ (.ref p) _ _) => p
  | _ => 0
def codeAt (f : Fg → Addr) : Fg → Addr := fun K => match K.lookup (f K) with
  | some ⟨_, _, .func fd, _⟩ => (match fd.code with
    | .ref c => c
    | _ => 0)
  | _ => 0
def tabAt (f : Fg → Addr) : Fg → Addr := fun K => He.tabOf K (codeAt f K)
/-! ### defs -/
structure Df where
  at_ : Fg → Addr
  name : Str
  qual : Str
  params : Arguments
  body : List Stmt
  scope : Scope
  dfl : List He.Dv := []
  kwd : List (Str × He.Dv) := []
abbrev dOf (a : Fg → Addr) (x q : Str) (st : Stmt) : Df := ⟨a, x, q, defArgs st, defBody st, defScope st, [], []⟩
def fnW (K : Fg) (a : Addr) : He.FnW := match K.lookup a with
  | some ⟨_, _, .func fd, _⟩ => some (fd.name, fd.qualname, fd.params, fd.body, fd.scope, fd.globals, fd.closure, fd.builtins)
  | _ => none
def Df.val (d : Df) : He.FnW := some (d.name, d.qual, d.params, .stmts d.body, d.scope, mainGlobals, [], builtinsNs)
def Df.dvs (K : Fg) (d : Df) : List V := d.dfl.map (He.Dv.v K)
def Df.kws (K : Fg) (d : Df) : List (Str × V) := d.kwd.map fun q => (q.1, q.2.v K)
def Df.ok (K : Fg) (d : Df) : Bool := PySem.W.keepIn K (.ref (d.at_ K)) && (match K.lookup (d.at_ K) with
  | some ⟨_, _, .func fd, _⟩ => PySem.W.codeIn K fd.code d.qual && (He.dflB K fd.defaults (d.dvs K) && He.kwdB K fd.kwdefaults (d.kws K))
  | _ => false)
theorem Df.funD {K : Fg} {d : Df} (e : fnW K (d.at_ K) = d.val) (c : d.ok K = true) : ∃ fd, FunD K d.name d.qual d.params d.body d.scope (d.dvs K) (d.kws K) (d.at_ K) fd := by
  obtain ⟨kp, c2⟩ := He.ba c
  unfold fnW at e
  cases q : K.lookup (d.at_ K) with
  | none =>
    rw [q] at c2
    cases c2
  | some o =>
    obtain ⟨oc, od, dt, osl⟩ := o
    rw [q] at c2 e
    cases dt with
    | func fd =>
      obtain ⟨n1, n2, n3, n4, n5, n6, n7, n8, n9, n10, n11, n12, n13, n14, n15⟩ := fd
      have e2 : (some (n1, n2, n3, n4, n5, n6, n7, n15) : He.FnW) = some (d.name, d.qual, d.params, .stmts d.body, d.scope, mainGlobals, [], builtinsNs) := e
      simp only [Option.some.injEq, Prod.mk.injEq] at e2
      obtain ⟨h1, h2, h3, h4, h5, h6, h7, h8⟩ := e2
      subst h1 h2 h3 h4 h5 h6 h7 h8
      have c3 : (PySem.W.codeIn K n13 d.qual && (He.dflB K n8 (d.dvs K) && He.kwdB K n9 (d.kws K))) = true := c2
      obtain ⟨k1, k2⟩ := He.ba c3
      obtain ⟨k3, k4⟩ := He.ba k2
      exact ⟨_, ⟨oc, od, n8, n9, n10, n11, n12, n13, n14, osl, rfl, q, k1, He.dflB_ok k3, He.kwdB_ok k4⟩, kp⟩
    | _ => cases c2
/-! ### the Hook -/
/-- what is told of the written part K of the heap h -/
structure Says (fn : List Df) (tf : List (Fg → Addr)) (ex : Fg → List Bool) (h : Heap) (K : Fg) : Prop where
  fns : (fn.map fun d => fnW K (d.at_ K)) = fn.map Df.val
  fok : ∀ d ∈ fn, d.ok K = true
  more : (ex K).all id = true
  hd : ∀ f ∈ tf, PySem.W.codeHdIn K (codeAt f K) (tabAt f K) = true
  out : ∀ f ∈ tf, K.lookup (tabAt f K) = none
  empty : ∀ f ∈ tf, h.get? (tabAt f K) = some { cls := .none, data := .fields #[] }
def tabsB (gt : Addr → Option Obj) (tf : List (Fg → Addr)) (K : Fg) : Bool := tf.all fun f => PySem.W.codeHdIn K (codeAt f K) (tabAt f K) && (match gt (tabAt f K) with
  | some o => He.emptyTab o
  | none => false)
abbrev Al : Type := List He.FnW × Bool
def obsK (fn : List Df) (tf : List (Fg → Addr)) (ex : Fg → List Bool) (gt : Addr → Option Obj) (K : Fg) : Al := (fn.map fun d => fnW K (d.at_ K), (fn.all fun d => d.ok K) && ((ex K).all id && tabsB gt tf K))
/-- a list made of its items, before it is looked at -/
def frL {α β : Type} : List α → (List α → β) → β
  | [], k => k []
  | x :: r, k => frL r fun r => k (x :: r)
theorem frL_eq {α β : Type} : ∀ (l : List α) (k : List α → β), frL l k = k l
  | [], _ => rfl
  | x :: r, k => by
    show frL r (fun r => k (x :: r)) = _
    rw [frL_eq r]
def obs (as : List Addr) (fn : List Df) (tf : List (Fg → Addr)) (ex : Fg → List Bool) (gt : Addr → Option Obj) : Al := frL (He.frT gt as) fun K => obsK fn tf ex gt K
def val (fn : List Df) : Al := (fn.map Df.val, true)
theorem says_of {as : List Addr} {fn : List Df} {tf : List (Fg → Addr)} {ex : Fg → List Bool} {h : Heap} (e : obs as fn tf ex h.get? = val fn) : Says fn tf ex h (He.frT h.get? as) := by
  unfold obs at e
  rw [frL_eq] at e
  generalize hK : He.frT h.get? as = K at e
  have e1 : (fn.map fun d => fnW K (d.at_ K)) = fn.map Df.val := congrArg (fun z : Al => z.1) e
  have e2 : ((fn.all fun d => d.ok K) && ((ex K).all id && tabsB h.get? tf K)) = true := congrArg (fun z : Al => z.2) e
  obtain ⟨h1, h2⟩ := He.ba e2
  obtain ⟨h3, h4⟩ := He.ba h2
  have key : ∀ f ∈ tf, PySem.W.codeHdIn K (codeAt f K) (tabAt f K) = true ∧ ∃ o, h.get? (tabAt f K) = some o ∧ He.emptyTab o = true := fun p hp => by
    obtain ⟨h5, h6⟩ := He.ba (List.all_eq_true.mp h4 p hp)
    refine ⟨h5, ?_⟩
    cases q : h.get? (tabAt p K) with
    | none =>
      rw [q] at h6
      cases h6
    | some o =>
      rw [q] at h6
      exact ⟨o, rfl, h6⟩
  refine ⟨e1, fun d hd => List.all_eq_true.mp h1 d hd, h3, fun p hp => (key p hp).1, fun p hp => ?_, fun p hp => ?_⟩
  · obtain ⟨_, o, q, z⟩ := key p hp
    have r := He.frT_none (as := as) q z
    rw [hK] at r
    exact r
  · obtain ⟨_, o, q, z⟩ := key p hp
    rw [q, He.emptyTab_eq z]
def hook (as : List Addr) (fn : List Df) (tf : List (Fg → Addr)) (ex : Fg → List Bool) : PySem.W.Hook where
  α := Al
  obs := fun s => obs as fn tf ex s.heap.get?
  val := fun _ => val fn
  says := fun _ h => ∃ K : Fg, K.In h ∧ Says fn tf ex h K
  of := fun _ _ e => ⟨_, He.frT_in, says_of e⟩
  keeps := fun _ _ _ ⟨K, hK, c⟩ k => ⟨K, PySem.W.Frag.In.keeps hK k, ⟨c.fns, c.fok, c.more, c.hd, c.out, fun p hp => k _ _ (c.empty p hp)⟩⟩
theorem obs_eq {as : List Addr} {fn : List Df} {tf : List (Fg → Addr)} {ex : Fg → List Bool} (s : PySem.W.SharedT) : obs as fn tf ex (HandSHeadRun.getT s) = (hook as fn tf ex).obs s.abs := by
  have e : HandSHeadRun.getT s = s.abs.heap.get? := funext (HandSHeadRun.getT_eq s)
  rw [e] <;> rfl
section
variable {fn : List Df} {tf : List (Fg → Addr)} {ex : Fg → List Bool} {h : Heap} {K : Fg}
theorem Says.def_ (c : Says fn tf ex h K) (i : Nat) {d : Df} (hi : fn[i]? = some d := by rfl) : ∃ fd, FunD K d.name d.qual d.params d.body d.scope (d.dvs K) (d.kws K) (d.at_ K) fd := by
  have e2 : (fn.map fun d => fnW K (d.at_ K))[i]? = (fn.map Df.val)[i]? := by rw [c.fns]
  rw [List.getElem?_map, List.getElem?_map, hi] at e2
  exact Df.funD (Option.some.inj e2) (c.fok d (List.mem_of_getElem? hi))
/-- a def without defaults -/
theorem fnF_of {x q : Str} {st : Stmt} {f : Addr} (h : ∃ fd, FunD K x q (defArgs st) (defBody st) (defScope st) [] [] f fd) : FnF K x q st f := by
  obtain ⟨fd, F⟩ := h
  obtain ⟨oc, od, dV, kV, doc, pm, an, cdv, ct, osl, rfl, lk, hcd, hd, _⟩ := F.ex
  rcases hd with ⟨_, rfl⟩ | ⟨n, _⟩
  · exact fnF lk hcd F.kp
  · exact absurd rfl n
theorem fnT_of {x : Str} {st : Stmt} {f : Addr} (h : ∃ fd, FunD K x x (defArgs st) (defBody st) (defScope st) [] [] f fd) (a : Fg → Addr) (ha : a K = f) (hd : PySem.W.codeHdIn K (codeAt a K) (tabAt a K) = true) : FnT K x st f (codeAt a K) (tabAt a K) := by
  obtain ⟨fd, F⟩ := h
  obtain ⟨oc, od, dV, kV, doc, pm, an, cdv, ct, osl, rfl, lk, hcd, hdd, _⟩ := F.ex
  rcases hdd with ⟨_, rfl⟩ | ⟨n, _⟩
  · obtain ⟨c, rfl⟩ := He.codeIn_ref hcd
    have e : codeAt a K = c := by
      unfold codeAt
      rw [ha, lk]
    refine ⟨⟨_, ⟨oc, od, kV, doc, pm, an, ct, osl, ?_, lk, ?_⟩, F.kp⟩, hd⟩
    · rw [e]
    · rw [e]
      exact hcd
  · exact absurd rfl n
theorem Says.at_ (c : Says fn tf ex h K) (i : Nat) {b : Bool} (hi : (ex K)[i]? = some b := by rfl) : b = true := List.all_eq_true.mp c.more b (List.mem_of_getElem? hi)
end
/-! ### facts as Bools -/
section
variable {K : Fg}
def eqV (a b : Option (Option Value)) : Bool := decide (a = b)
theorem eqV_ok {a b : Option (Option Value)} (h : eqV a b = true) : a = b := of_decide_eq_true h
def eqB (a b : Option Bool) : Bool := decide (a = b)
theorem eqB_ok {a b : Option Bool} (h : eqB a b = true) : a = b := of_decide_eq_true h
def eqT (a b : Option Value) : Bool := decide (a = b)
theorem eqT_ok {a b : Option Value} (h : eqT a b = true) : a = b := of_decide_eq_true h
theorem notB_ok {b : Bool} (h : (!b) = true) : b = false := by
  cases b with
  | false => rfl
  | true => cases h
/-- a constant that is a text, an int -/
def strB (K : Fg) (x z : Str) : Bool := match PySem.W.nsIn K mainGlobals x with
  | some (some (.str y _)) => decide (y = z)
  | _ => false
theorem strB_ok {x z : Str} (h : strB K x z = true) : ∃ t, PySem.W.nsIn K mainGlobals x = some (some (.str z t)) := by
  unfold strB at h
  split at h
  · rename_i y t q
    rw [of_decide_eq_true h] at q
    exact ⟨t, q⟩
  · cases h
def intB (K : Fg) (x : Str) (i : Int) : Bool := match PySem.W.nsIn K mainGlobals x with
  | some (some (.int j _)) => decide (j = i)
  | _ => false
theorem intB_ok {x : Str} {i : Int} (h : intB K x i = true) : ∃ t, PySem.W.nsIn K mainGlobals x = some (some (.int i t)) := by
  unfold intB at h
  split at h
  · rename_i y t q
    rw [of_decide_eq_true h] at q
    exact ⟨t, q⟩
  · cases h
/-- an error class over the base CS -/
def errC (K : Fg) (C CS : Addr) : Bool := match K.lookup C with
  | some ⟨.type T, _, .cls cd, sl⟩ => decide (T = "type") && (decide (cd.mro = [.ref C, .ref CS, .type "ValueError", .type "Exception", .type "BaseException", .type "object"]) && (cd.hasDict && (!cd.hasDel && (match sl.toList with
    | [_, _, _, _, some (.builtin n), _] => decide (n = "ValueError.__new__")
    | _ => false))))
  | _ => false
theorem errC_ok {C CS : Addr} (h : errC K C CS = true) : ∃ nm q N bs sn sub ab col dd k0 k1 k2 k3 k5, K.lookup C = some (excClassObj nm q C N bs [.ref CS, .type "ValueError", .type "Exception", .type "BaseException", .type "object"] true sn sub ab col dd k0 k1 k2 k3 k5 "ValueError.__new__") := by
  unfold errC at h
  split at h
  · rename_i T dd cd sl q
    obtain ⟨h1, h⟩ := He.ba h
    obtain ⟨h2, h⟩ := He.ba h
    obtain ⟨h3, h⟩ := He.ba h
    obtain ⟨h4, h5⟩ := He.ba h
    obtain ⟨nm, bs, mro, ns, qn, hd, sn, sub, ab, col, del⟩ := cd
    have e1 : T = "type" := of_decide_eq_true h1
    have e2 : mro = [.ref C, .ref CS, .type "ValueError", .type "Exception", .type "BaseException", .type "object"] := of_decide_eq_true h2
    have e3 : hd = true := h3
    have e4 : del = false := by
      cases del with
      | false => rfl
      | true => cases h4
    subst e1 e2 e3 e4
    obtain ⟨l⟩ := sl
    split at h5
    · rename_i k0 k1 k2 k3 n k5 hl
      have e5 : n = "ValueError.__new__" := of_decide_eq_true h5
      have hl' : l = [k0, k1, k2, k3, some (.builtin n), k5] := hl
      subst e5 hl'
      exact ⟨nm, qn, ns, bs, sn, sub, ab, col, dd, k0, k1, k2, k3, k5, q⟩
    · cases h5
  · cases h
/-- an error of ours: the class x, its field y -/
def errB (K : Fg) (x y : Str) (C fI CS : Addr) : List Bool :=
  [eqV (PySem.W.nsIn K mainGlobals x) (some (some (.ref C))), eqV (PySem.W.findIn K (.ref C) "__init__") (some (some (.ref fI))), eqT (PySem.W.typeIn K (.ref fI)) (some (.type "function")), errC K C CS,
   eqV (PySem.W.findIn K (.ref C) "__setattr__") (some (some (.builtin "object.__setattr__"))), eqB (PySem.W.subIn K (.ref C) (.type "BaseException")) (some true), eqT (PySem.W.typeIn K (.ref C)) (some (.type "type")), PySem.W.keepIn K (.ref C),
   eqV (PySem.W.findIn K (.ref C) y) (some none), eqV (PySem.W.findIn K (.ref C) "__getattribute__") (some (some (.builtin "BaseException.__getattribute__"))), eqV (PySem.W.findIn K (.ref C) "__getattr__") (some none), PySem.W.hasDictIn K C,
   eqV (PySem.W.findIn K (.ref C) "__class__") (some (some (.builtin "object.__class__"))), eqB (PySem.W.mroIn K C (.type "object")) (some true), PySem.W.isClsIn K C, eqB (PySem.W.subIn K (.ref C) (.ref CS)) (some true), eqB (PySem.W.subIn K (.ref C) (.type "ValueError")) (some true)]
theorem all_at {l : List Bool} (h : l.all id = true) (i : Nat) {b : Bool} (hi : l[i]? = some b := by rfl) : b = true := List.all_eq_true.mp h b (List.mem_of_getElem? hi)
theorem errB_ok {x y : Str} {C fI CS : Addr} (h : (errB K x y C fI CS).all id = true) : ErrF K x y C fI CS :=
  ⟨eqV_ok (all_at h 0), eqV_ok (all_at h 1), eqT_ok (all_at h 2), errC_ok (all_at h 3), eqV_ok (all_at h 4), eqB_ok (all_at h 5), eqT_ok (all_at h 6), all_at h 7, eqV_ok (all_at h 8), eqV_ok (all_at h 9), eqV_ok (all_at h 10), all_at h 11, eqV_ok (all_at h 12), eqB_ok (all_at h 13), all_at h 14, eqB_ok (all_at h 15), eqB_ok (all_at h 16)⟩
def baseB (K : Fg) (CS : Addr) : List Bool :=
  [eqV (PySem.W.nsIn K mainGlobals "StowError") (some (some (.ref CS))), eqB (PySem.W.subIn K (.ref CS) (.type "BaseException")) (some true), PySem.W.isClsIn K CS, eqT (PySem.W.typeIn K (.ref CS)) (some (.type "type")),
   eqV (PySem.W.specialIn K (.builtin "object.__class__") "__get__") (some (some (.builtin "getset_descriptor.__get__"))), eqB (PySem.W.takesIn K (.builtin "object.__class__")) (some true)]
theorem baseB_ok {CS : Addr} (h : (baseB K CS).all id = true) : BaseF K CS := ⟨eqV_ok (all_at h 0), eqB_ok (all_at h 1), all_at h 2, eqT_ok (all_at h 3), eqV_ok (all_at h 4), eqB_ok (all_at h 5)⟩
def clsB (K : Fg) (x : Str) (C fI : Addr) : List Bool :=
  [eqV (PySem.W.nsIn K mainGlobals x) (some (some (.ref C))), PySem.W.plainGet K C Str.empty, PySem.W.hasDictIn K C, PySem.W.plainOver K C, eqV (PySem.W.findIn K (.ref C) "__setattr__") (some (some (.builtin "object.__setattr__"))), PySem.W.makesIn K C,
   eqV (PySem.W.findIn K (.ref C) "__init__") (some (some (.ref fI))), PySem.W.isFn K (.ref fI), PySem.W.keepIn K (.ref C)]
theorem clsB_ok {x : Str} {C fI : Addr} (h : (clsB K x C fI).all id = true) : ClsF K x C fI := ⟨eqV_ok (all_at h 0), all_at h 1, all_at h 2, all_at h 3, eqV_ok (all_at h 4), all_at h 5, eqV_ok (all_at h 6), all_at h 7, all_at h 8⟩
/-- a record's first -/
def recB (K : Fg) (p : Addr) (T : String) (gt : Addr) : Bool := match PySem.W.recIn K p T with
  | some (.ref a :: _) => decide (a = gt)
  | _ => false
theorem recB_ok {p gt : Addr} {T : String} (h : recB K p T gt = true) : ∃ rest, PySem.W.recIn K p T = some (.ref gt :: rest) := by
  unfold recB at h
  split at h
  · rename_i a r q
    rw [of_decide_eq_true h] at q
    exact ⟨r, q⟩
  · cases h
def getB (K : Fg) (C : Addr) (x : Str) (p : Addr) : Bool := match PySem.W.findCls K (.ref C) (.type "type") x with
  | some (.get gg pp ob c) => decide (gg = .builtin "classmethod.__get__") && (decide (pp = .ref p) && (decide (ob = .none) && decide (c = .ref C)))
  | _ => false
theorem getB_ok {C p : Addr} {x : Str} (h : getB K C x p = true) : PySem.W.findCls K (.ref C) (.type "type") x = some (.get (.builtin "classmethod.__get__") (.ref p) .none (.ref C)) := by
  unfold getB at h
  split at h
  · rename_i gg pp ob c q
    obtain ⟨h1, h⟩ := He.ba h
    obtain ⟨h2, h⟩ := He.ba h
    obtain ⟨h3, h4⟩ := He.ba h
    rw [q, of_decide_eq_true h1, of_decide_eq_true h2, of_decide_eq_true h3, of_decide_eq_true h4]
  · cases h
def cmB (K : Fg) (C : Addr) (x : Str) (p gt : Addr) : List Bool := [getB K C x p, recB K p "classmethod" gt, PySem.W.fnIn K gt]
theorem cmB_ok {C p gt : Addr} {x : Str} (h : (cmB K C x p gt).all id = true) : CmF K C x p gt := ⟨getB_ok (all_at h 0), recB_ok (all_at h 1), all_at h 2⟩
def rdB (K : Fg) (C : Addr) : List Bool := [PySem.W.readsIn K C (.type "type"), eqV (PySem.W.specialIn K (.ref C) "__getattribute__") (some (some (.builtin "type.__getattribute__")))]
theorem rdB_ok {C : Addr} (h : (rdB K C).all id = true) : RdF K C := ⟨all_at h 0, eqV_ok (all_at h 1)⟩
/-- a class's constant that is an int, read off the class -/
def cvalI (K : Fg) (C : Addr) (x : Str) (i : Int) : Bool := match PySem.W.findCls K (.ref C) (.type "type") x with
  | some (.val (.int j _)) => decide (j = i)
  | _ => false
theorem cvalI_ok {C : Addr} {x : Str} {i : Int} (h : cvalI K C x i = true) : ∃ t, PySem.W.findCls K (.ref C) (.type "type") x = some (.val (.int i t)) := by
  unfold cvalI at h
  split at h
  · rename_i j t q
    rw [of_decide_eq_true h] at q
    exact ⟨t, q⟩
  · cases h
end
/-! ### the end -/
theorem walkGE {l : PySem.W.OpenLaw} {n k : Nat} {q : Program} {loose : List Str} {XP : (Str → Option Value) → Heap → Prop} {YP : World → Heap → Prop} {d : DefRec} {x : Str} (hn : l.most = some n) (hn2 : n ≤ sizeLine) (hdf : d.params.defaults = []) (hr : Room k callerA) (hi : importsNone q = true)
    (G : ∀ (w : World) (mg : Str → Option Value) (fa : Addr) (h : Heap), YP w h → h.Ns mainGlobals mg → mg d.name = some (.ref fa) → ∃ K : Fg, K.In h ∧ ∃ fd cs sp, LawG l w K k n x mg fa h fd cs sp) :
    PySem.W.WalkO q loose XP YP l.row.toRowW d [] (fun f vs => PySem.call f vs) := by
  refine Att.attach_callB hn hdf fun w s₀ s₁ mg mb fa o pm cd doc a vs ns T Y ho hd hcd hmg hobj hints hlen hbits hgen => ?_
  obtain ⟨K, KX, fd, cs, sp, L⟩ := G w mg fa _ Y T.T.g hmg
  exact endG ⟨KX, L.hT, L.nT, hobj, hints, Nat.le_trans hlen hn2⟩ T.T.g T.T.b T.T.builtins T.T.nolimit hgen L.C T.T.bmain hr (by obtain ⟨mm, ⟨o, es, ep, e, d, _⟩, _⟩ := (T.T.seer hi).mods; exact ⟨o, es, ep, e, d⟩) L.F L.bind (fun H h1 h2 => L.ask H a ns hlen h1 h2)
end HK

set_option Elab.async false
set_option linter.all false
set_option maxRecDepth 100000
set_option maxHeartbeats 0
namespace K01
open PySem
def csOf (l : List Addr) (i : Nat) : Addr := l.getD i 0
def allS (K : PySem.W.Frag) (l : List Addr) (CS : Addr) : Bool := (List.range 25).all fun i => PySem.W.kitOne K (.ref (csOf l i)) (.ref CS) == some true
def allV (K : PySem.W.Frag) (l : List Addr) : Bool := (List.range 25).all fun i => PySem.W.kitOne K (.ref (csOf l i)) (.type "ValueError") == some true
def allK (K : PySem.W.Frag) (l : List Addr) : Bool := (List.range 25).all fun i => (List.range 25).all fun j => PySem.W.kitOne K (.ref (csOf l i)) (.ref (csOf l j)) == some (decide (i = j))
def allT (K : PySem.W.Frag) (l : List Addr) : Bool := (List.range 25).all fun i => PySem.W.kitAny K (.ref (csOf l i)) [.type "LookupError", .type "ArithmeticError", .type "TypeError", .type "RuntimeError", .type "AttributeError"] == some false
end K01
namespace K01H
open PySem PySem.W PySem.Calls PyProof.Rows NX K01
def top (i : Nat) : Stmt := PySem.Challenge.pw_loopstow_k01_deeds.main.body.getD i (.Pass ⟨0, 0, 0, 0⟩)
def a_CS : HK.Fg → Addr := HK.g "StowError"
def a_CD : HK.Fg → Addr := HK.g "Deed"
def a_pRd : HK.Fg → Addr := HK.cmO (HK.g "Deed") "read"
def a_pNm : HK.Fg → Addr := HK.m (HK.g "Use") "names"
def a_pRm : HK.Fg → Addr := HK.m (HK.g "Use") "room"
def a_c0 : HK.Fg → Addr := HK.g "BadName"
def a_c1 : HK.Fg → Addr := HK.g "BadDeed"
def a_c2 : HK.Fg → Addr := HK.g "BadMove"
def a_c3 : HK.Fg → Addr := HK.g "BadNumber"
def a_c4 : HK.Fg → Addr := HK.g "BadPrice"
def a_c5 : HK.Fg → Addr := HK.g "BadPlace"
def a_c6 : HK.Fg → Addr := HK.g "BadPart"
def a_c7 : HK.Fg → Addr := HK.g "BadSlots"
def a_c8 : HK.Fg → Addr := HK.g "BadStanding"
def a_c9 : HK.Fg → Addr := HK.g "BadRule"
def a_c10 : HK.Fg → Addr := HK.g "Twice"
def a_c11 : HK.Fg → Addr := HK.g "TooMany"
def a_c12 : HK.Fg → Addr := HK.g "Unmade"
def a_c13 : HK.Fg → Addr := HK.g "MadeAgain"
def a_c14 : HK.Fg → Addr := HK.g "NoRoom"
def a_c15 : HK.Fg → Addr := HK.g "Crowded"
def a_c16 : HK.Fg → Addr := HK.g "Barred"
def a_c17 : HK.Fg → Addr := HK.g "BadPlan"
def a_c18 : HK.Fg → Addr := HK.g "NoLoop"
def a_c19 : HK.Fg → Addr := HK.g "HasLoop"
def a_c20 : HK.Fg → Addr := HK.g "OneLoop"
def a_c21 : HK.Fg → Addr := HK.g "TwoLoops"
def a_c22 : HK.Fg → Addr := HK.g "Finished"
def a_c23 : HK.Fg → Addr := HK.g "BadText"
def a_c24 : HK.Fg → Addr := HK.g "BadLine"
def a_dU : HK.Fg → Addr := HK.g "Use"
def a_dM : HK.Fg → Addr := HK.g "Make"
def a_dD : HK.Fg → Addr := HK.g "Do"
def a_i0 : HK.Fg → Addr := HK.m (HK.g "BadName") "__init__"
def a_i1 : HK.Fg → Addr := HK.m (HK.g "BadDeed") "__init__"
def a_i2 : HK.Fg → Addr := HK.m (HK.g "BadMove") "__init__"
def a_i3 : HK.Fg → Addr := HK.m (HK.g "BadNumber") "__init__"
def a_i4 : HK.Fg → Addr := HK.m (HK.g "BadPrice") "__init__"
def a_i5 : HK.Fg → Addr := HK.m (HK.g "BadPlace") "__init__"
def a_i6 : HK.Fg → Addr := HK.m (HK.g "BadPart") "__init__"
def a_i7 : HK.Fg → Addr := HK.m (HK.g "BadSlots") "__init__"
def a_i8 : HK.Fg → Addr := HK.m (HK.g "BadStanding") "__init__"
def a_i9 : HK.Fg → Addr := HK.m (HK.g "BadRule") "__init__"
def a_i10 : HK.Fg → Addr := HK.m (HK.g "Twice") "__init__"
def a_i11 : HK.Fg → Addr := HK.m (HK.g "TooMany") "__init__"
def a_i12 : HK.Fg → Addr := HK.m (HK.g "Unmade") "__init__"
def a_i13 : HK.Fg → Addr := HK.m (HK.g "MadeAgain") "__init__"
def a_i14 : HK.Fg → Addr := HK.m (HK.g "NoRoom") "__init__"
def a_i15 : HK.Fg → Addr := HK.m (HK.g "Crowded") "__init__"
def a_i16 : HK.Fg → Addr := HK.m (HK.g "Barred") "__init__"
def a_i17 : HK.Fg → Addr := HK.m (HK.g "BadPlan") "__init__"
def a_i23 : HK.Fg → Addr := HK.m (HK.g "BadText") "__init__"
def a_i24 : HK.Fg → Addr := HK.m (HK.g "BadLine") "__init__"
def a_fU : HK.Fg → Addr := HK.m (HK.g "Use") "__init__"
def a_fM : HK.Fg → Addr := HK.m (HK.g "Make") "__init__"
def a_fD : HK.Fg → Addr := HK.m (HK.g "Do") "__init__"
def a_fRd : HK.Fg → Addr := HK.inner "classmethod" (HK.cmO (HK.g "Deed") "read")
def a_fNm : HK.Fg → Addr := HK.inner "property" (HK.m (HK.g "Use") "names")
def a_fRm : HK.Fg → Addr := HK.inner "property" (HK.m (HK.g "Use") "room")
def a_fStr : HK.Fg → Addr := HK.m (HK.g "Use") "__str__"
def a_fEq : HK.Fg → Addr := HK.m (HK.g "Use") "__eq__"
def a_fIs : HK.Fg → Addr := HK.g "is_name"
def a_fCns : HK.Fg → Addr := HK.g "check_names"
def a_fCun : HK.Fg → Addr := HK.g "check_unlike"
def a_fAsc : HK.Fg → Addr := HK.g "ascending"
def a_fCus : HK.Fg → Addr := HK.g "check_used"
def a_fOf : HK.Fg → Addr := HK.g "deed_of"
def a_fPen : HK.Fg → Addr := HK.g "_law_pen"
def a_fDraw : HK.Fg → Addr := HK.g "_law_draw"
def a_fPick : HK.Fg → Addr := HK.g "_law_pick"
def a_fSome : HK.Fg → Addr := HK.g "_law_some"
def a_fNames : HK.Fg → Addr := HK.g "_law_names"
def a_fReal : HK.Fg → Addr := HK.g "_law_real_deed"
def a_fLot : HK.Fg → Addr := HK.g "_law_lot"
def a_fText : HK.Fg → Addr := HK.g "_law_text"
def a_fRight : HK.Fg → Addr := HK.g "_law_right"
def a_fOdd : HK.Fg → Addr := HK.g "_law_odd"
def a_fErrs : HK.Fg → Addr := HK.g "_law_errors"
def a_fField : HK.Fg → Addr := HK.g "_law_field"
def a_fKinds : HK.Fg → Addr := HK.g "_law_kinds"
def a_fER : HK.Fg → Addr := HK.g "_law_errors_right"
def a_fLaw : HK.Fg → Addr := HK.g "law"
def fns : List HK.Df := [HK.dOf a_i0 "__init__" "BadName.__init__" (L2.inClass (top 3) 0),
  HK.dOf a_i1 "__init__" "BadDeed.__init__" (L2.inClass (top 4) 0),
  HK.dOf a_i2 "__init__" "BadMove.__init__" (L2.inClass (top 5) 0),
  HK.dOf a_i3 "__init__" "BadNumber.__init__" (L2.inClass (top 6) 0),
  HK.dOf a_i4 "__init__" "BadPrice.__init__" (L2.inClass (top 7) 0),
  HK.dOf a_i5 "__init__" "BadPlace.__init__" (L2.inClass (top 8) 0),
  HK.dOf a_i6 "__init__" "BadPart.__init__" (L2.inClass (top 9) 0),
  HK.dOf a_i7 "__init__" "BadSlots.__init__" (L2.inClass (top 10) 0),
  HK.dOf a_i8 "__init__" "BadStanding.__init__" (L2.inClass (top 11) 0),
  HK.dOf a_i9 "__init__" "BadRule.__init__" (L2.inClass (top 12) 0),
  HK.dOf a_i10 "__init__" "Twice.__init__" (L2.inClass (top 13) 0),
  HK.dOf a_i11 "__init__" "TooMany.__init__" (L2.inClass (top 14) 0),
  HK.dOf a_i12 "__init__" "Unmade.__init__" (L2.inClass (top 15) 0),
  HK.dOf a_i13 "__init__" "MadeAgain.__init__" (L2.inClass (top 16) 0),
  HK.dOf a_i14 "__init__" "NoRoom.__init__" (L2.inClass (top 17) 0),
  HK.dOf a_i15 "__init__" "Crowded.__init__" (L2.inClass (top 18) 0),
  HK.dOf a_i16 "__init__" "Barred.__init__" (L2.inClass (top 19) 0),
  HK.dOf a_i17 "__init__" "BadPlan.__init__" (L2.inClass (top 20) 0),
  HK.dOf a_i23 "__init__" "BadText.__init__" (L2.inClass (top 26) 0),
  HK.dOf a_i24 "__init__" "BadLine.__init__" (L2.inClass (top 27) 0),
  HK.dOf a_fU "__init__" "Use.__init__" (L2.inClass (top 37) 0),
  HK.dOf a_fM "__init__" "Make.__init__" (L2.inClass (top 38) 0),
  HK.dOf a_fD "__init__" "Do.__init__" (L2.inClass (top 39) 0),
  HK.dOf a_fRd "read" "Deed.read" (L2.inClass (top 36) 3),
  HK.dOf a_fNm "names" "Deed.names" (L2.inClass (top 36) 1),
  HK.dOf a_fRm "room" "Deed.room" (L2.inClass (top 36) 2),
  HK.dOf a_fStr "__str__" "Deed.__str__" (L2.inClass (top 36) 5),
  HK.dOf a_fEq "__eq__" "Deed.__eq__" (L2.inClass (top 36) 4),
  HK.dOf a_fIs "is_name" "is_name" (top 31),
  HK.dOf a_fCns "check_names" "check_names" (top 32),
  HK.dOf a_fCun "check_unlike" "check_unlike" (top 33),
  HK.dOf a_fAsc "ascending" "ascending" (top 34),
  HK.dOf a_fCus "check_used" "check_used" (top 40),
  HK.dOf a_fOf "deed_of" "deed_of" (top 41),
  HK.dOf a_fPen "_law_pen" "_law_pen" (top 43),
  HK.dOf a_fDraw "_law_draw" "_law_draw" (top 44),
  HK.dOf a_fPick "_law_pick" "_law_pick" (top 45),
  HK.dOf a_fSome "_law_some" "_law_some" (top 46),
  HK.dOf a_fNames "_law_names" "_law_names" (top 47),
  HK.dOf a_fReal "_law_real_deed" "_law_real_deed" (top 48),
  HK.dOf a_fLot "_law_lot" "_law_lot" (top 49),
  HK.dOf a_fText "_law_text" "_law_text" (top 50),
  HK.dOf a_fRight "_law_right" "_law_right" (top 51),
  HK.dOf a_fOdd "_law_odd" "_law_odd" (top 52),
  HK.dOf a_fErrs "_law_errors" "_law_errors" (top 53),
  HK.dOf a_fField "_law_field" "_law_field" (top 54),
  HK.dOf a_fKinds "_law_kinds" "_law_kinds" (top 55),
  HK.dOf a_fER "_law_errors_right" "_law_errors_right" (top 56),
  HK.dOf a_fLaw "law" "law" (top 57)]
def ex (K : HK.Fg) : List Bool := [HK.eqV (PySem.W.nsIn K mainGlobals "int") (some none),
  HK.eqV (PySem.W.nsIn K mainGlobals "len") (some none),
  HK.eqV (PySem.W.nsIn K mainGlobals "abs") (some none),
  HK.eqV (PySem.W.nsIn K mainGlobals "list") (some none),
  HK.eqV (PySem.W.nsIn K mainGlobals "str") (some none),
  HK.eqV (PySem.W.nsIn K mainGlobals "tuple") (some none),
  HK.eqV (PySem.W.nsIn K mainGlobals "isinstance") (some none),
  HK.eqV (PySem.W.nsIn K mainGlobals "repr") (some none),
  HK.eqV (PySem.W.nsIn K mainGlobals "range") (some none),
  HK.eqV (PySem.W.nsIn K mainGlobals "enumerate") (some none),
  HK.eqV (PySem.W.nsIn K mainGlobals "ValueError") (some none),
  HK.eqV (PySem.W.nsIn K mainGlobals "set") (some none),
  HK.eqV (PySem.W.nsIn K mainGlobals "sorted") (some none),
  HK.eqV (PySem.W.nsIn K mainGlobals "min") (some none),
  HK.eqV (PySem.W.nsIn K mainGlobals "LookupError") (some none),
  HK.eqV (PySem.W.nsIn K mainGlobals "ArithmeticError") (some none),
  HK.eqV (PySem.W.nsIn K mainGlobals "TypeError") (some none),
  HK.eqV (PySem.W.nsIn K mainGlobals "RuntimeError") (some none),
  HK.eqV (PySem.W.nsIn K mainGlobals "AttributeError") (some none),
  HK.strB K "LETTERS" "abcdefghijklmnopqrstuvwxyz",
  HK.intB K "MOST_LETTERS" 6,
  (HK.baseB K (a_CS K)).all id,
  (HK.errB K "BadName" "value" (a_c0 K) (a_i0 K) (a_CS K)).all id,
  (HK.errB K "BadDeed" "value" (a_c1 K) (a_i1 K) (a_CS K)).all id,
  (HK.errB K "BadMove" "value" (a_c2 K) (a_i2 K) (a_CS K)).all id,
  (HK.errB K "BadNumber" "value" (a_c3 K) (a_i3 K) (a_CS K)).all id,
  (HK.errB K "BadPrice" "value" (a_c4 K) (a_i4 K) (a_CS K)).all id,
  (HK.errB K "BadPlace" "value" (a_c5 K) (a_i5 K) (a_CS K)).all id,
  (HK.errB K "BadPart" "part" (a_c6 K) (a_i6 K) (a_CS K)).all id,
  (HK.errB K "BadSlots" "value" (a_c7 K) (a_i7 K) (a_CS K)).all id,
  (HK.errB K "BadStanding" "value" (a_c8 K) (a_i8 K) (a_CS K)).all id,
  (HK.errB K "BadRule" "value" (a_c9 K) (a_i9 K) (a_CS K)).all id,
  (HK.errB K "Twice" "name" (a_c10 K) (a_i10 K) (a_CS K)).all id,
  (HK.errB K "TooMany" "most" (a_c11 K) (a_i11 K) (a_CS K)).all id,
  (HK.errB K "Unmade" "place" (a_c12 K) (a_i12 K) (a_CS K)).all id,
  HK.eqV (PySem.W.findIn K (.ref (a_c12 K)) "name") (some none),
  (HK.errB K "MadeAgain" "place" (a_c13 K) (a_i13 K) (a_CS K)).all id,
  HK.eqV (PySem.W.findIn K (.ref (a_c13 K)) "name") (some none),
  (HK.errB K "NoRoom" "place" (a_c14 K) (a_i14 K) (a_CS K)).all id,
  (HK.errB K "Crowded" "place" (a_c15 K) (a_i15 K) (a_CS K)).all id,
  (HK.errB K "Barred" "word" (a_c16 K) (a_i16 K) (a_CS K)).all id,
  HK.eqV (PySem.W.findIn K (.ref (a_c16 K)) "name") (some none),
  (HK.errB K "BadPlan" "at" (a_c17 K) (a_i17 K) (a_CS K)).all id,
  HK.eqV (PySem.W.findIn K (.ref (a_c17 K)) "index") (some none),
  HK.eqV (PySem.W.findIn K (.ref (a_c17 K)) "word") (some none),
  HK.eqV (PySem.W.findIn K (.ref (a_c17 K)) "name") (some none),
  HK.eqV (PySem.W.nsIn K mainGlobals "NoLoop") (some (some (.ref (a_c18 K)))),
  (PySem.W.excIn K (a_c18 K) [.type "ValueError", .type "Exception", .type "BaseException", .type "object"] "ValueError.__new__"),
  (PySem.W.keepIn K (.ref (a_c18 K))),
  HK.eqV (PySem.W.findIn K (.ref (a_c18 K)) "__getattribute__") (some (some (.builtin "BaseException.__getattribute__"))),
  HK.eqV (PySem.W.findIn K (.ref (a_c18 K)) "__getattr__") (some none),
  HK.eqB (PySem.W.subIn K (.ref (a_c18 K)) (.type "BaseException")) (some true),
  (PySem.W.hasDictIn K (a_c18 K)),
  HK.eqV (PySem.W.findIn K (.ref (a_c18 K)) "__class__") (some (some (.builtin "object.__class__"))),
  HK.eqB (PySem.W.mroIn K (a_c18 K) (.type "object")) (some true),
  HK.eqV (PySem.W.nsIn K mainGlobals "HasLoop") (some (some (.ref (a_c19 K)))),
  (PySem.W.excIn K (a_c19 K) [.type "ValueError", .type "Exception", .type "BaseException", .type "object"] "ValueError.__new__"),
  (PySem.W.keepIn K (.ref (a_c19 K))),
  HK.eqV (PySem.W.findIn K (.ref (a_c19 K)) "__getattribute__") (some (some (.builtin "BaseException.__getattribute__"))),
  HK.eqV (PySem.W.findIn K (.ref (a_c19 K)) "__getattr__") (some none),
  HK.eqB (PySem.W.subIn K (.ref (a_c19 K)) (.type "BaseException")) (some true),
  (PySem.W.hasDictIn K (a_c19 K)),
  HK.eqV (PySem.W.findIn K (.ref (a_c19 K)) "__class__") (some (some (.builtin "object.__class__"))),
  HK.eqB (PySem.W.mroIn K (a_c19 K) (.type "object")) (some true),
  HK.eqV (PySem.W.nsIn K mainGlobals "OneLoop") (some (some (.ref (a_c20 K)))),
  (PySem.W.excIn K (a_c20 K) [.type "ValueError", .type "Exception", .type "BaseException", .type "object"] "ValueError.__new__"),
  (PySem.W.keepIn K (.ref (a_c20 K))),
  HK.eqV (PySem.W.findIn K (.ref (a_c20 K)) "__getattribute__") (some (some (.builtin "BaseException.__getattribute__"))),
  HK.eqV (PySem.W.findIn K (.ref (a_c20 K)) "__getattr__") (some none),
  HK.eqB (PySem.W.subIn K (.ref (a_c20 K)) (.type "BaseException")) (some true),
  (PySem.W.hasDictIn K (a_c20 K)),
  HK.eqV (PySem.W.findIn K (.ref (a_c20 K)) "__class__") (some (some (.builtin "object.__class__"))),
  HK.eqB (PySem.W.mroIn K (a_c20 K) (.type "object")) (some true),
  HK.eqV (PySem.W.nsIn K mainGlobals "TwoLoops") (some (some (.ref (a_c21 K)))),
  (PySem.W.excIn K (a_c21 K) [.type "ValueError", .type "Exception", .type "BaseException", .type "object"] "ValueError.__new__"),
  (PySem.W.keepIn K (.ref (a_c21 K))),
  HK.eqV (PySem.W.findIn K (.ref (a_c21 K)) "__getattribute__") (some (some (.builtin "BaseException.__getattribute__"))),
  HK.eqV (PySem.W.findIn K (.ref (a_c21 K)) "__getattr__") (some none),
  HK.eqB (PySem.W.subIn K (.ref (a_c21 K)) (.type "BaseException")) (some true),
  (PySem.W.hasDictIn K (a_c21 K)),
  HK.eqV (PySem.W.findIn K (.ref (a_c21 K)) "__class__") (some (some (.builtin "object.__class__"))),
  HK.eqB (PySem.W.mroIn K (a_c21 K) (.type "object")) (some true),
  HK.eqV (PySem.W.nsIn K mainGlobals "Finished") (some (some (.ref (a_c22 K)))),
  (PySem.W.excIn K (a_c22 K) [.type "ValueError", .type "Exception", .type "BaseException", .type "object"] "ValueError.__new__"),
  (PySem.W.keepIn K (.ref (a_c22 K))),
  HK.eqV (PySem.W.findIn K (.ref (a_c22 K)) "__getattribute__") (some (some (.builtin "BaseException.__getattribute__"))),
  HK.eqV (PySem.W.findIn K (.ref (a_c22 K)) "__getattr__") (some none),
  HK.eqB (PySem.W.subIn K (.ref (a_c22 K)) (.type "BaseException")) (some true),
  (PySem.W.hasDictIn K (a_c22 K)),
  HK.eqV (PySem.W.findIn K (.ref (a_c22 K)) "__class__") (some (some (.builtin "object.__class__"))),
  HK.eqB (PySem.W.mroIn K (a_c22 K) (.type "object")) (some true),
  (HK.errB K "BadText" "line" (a_c23 K) (a_i23 K) (a_CS K)).all id,
  HK.eqV (PySem.W.findIn K (.ref (a_c23 K)) "word") (some none),
  (HK.errB K "BadLine" "word" (a_c24 K) (a_i24 K) (a_CS K)).all id,
  (allS K [(a_c0 K), (a_c1 K), (a_c2 K), (a_c3 K), (a_c4 K), (a_c5 K), (a_c6 K), (a_c7 K), (a_c8 K), (a_c9 K), (a_c10 K), (a_c11 K), (a_c12 K), (a_c13 K), (a_c14 K), (a_c15 K), (a_c16 K), (a_c17 K), (a_c18 K), (a_c19 K), (a_c20 K), (a_c21 K), (a_c22 K), (a_c23 K), (a_c24 K)] (a_CS K)),
  (allV K [(a_c0 K), (a_c1 K), (a_c2 K), (a_c3 K), (a_c4 K), (a_c5 K), (a_c6 K), (a_c7 K), (a_c8 K), (a_c9 K), (a_c10 K), (a_c11 K), (a_c12 K), (a_c13 K), (a_c14 K), (a_c15 K), (a_c16 K), (a_c17 K), (a_c18 K), (a_c19 K), (a_c20 K), (a_c21 K), (a_c22 K), (a_c23 K), (a_c24 K)]),
  (allK K [(a_c0 K), (a_c1 K), (a_c2 K), (a_c3 K), (a_c4 K), (a_c5 K), (a_c6 K), (a_c7 K), (a_c8 K), (a_c9 K), (a_c10 K), (a_c11 K), (a_c12 K), (a_c13 K), (a_c14 K), (a_c15 K), (a_c16 K), (a_c17 K), (a_c18 K), (a_c19 K), (a_c20 K), (a_c21 K), (a_c22 K), (a_c23 K), (a_c24 K)]),
  (allT K [(a_c0 K), (a_c1 K), (a_c2 K), (a_c3 K), (a_c4 K), (a_c5 K), (a_c6 K), (a_c7 K), (a_c8 K), (a_c9 K), (a_c10 K), (a_c11 K), (a_c12 K), (a_c13 K), (a_c14 K), (a_c15 K), (a_c16 K), (a_c17 K), (a_c18 K), (a_c19 K), (a_c20 K), (a_c21 K), (a_c22 K), (a_c23 K), (a_c24 K)]),
  (HK.clsB K "Use" (a_dU K) (a_fU K)).all id,
  HK.eqV (PySem.W.findIn K (.ref (a_dU K)) "uses") (some none),
  HK.eqV (PySem.W.findIn K (.ref (a_dU K)) "makes") (some none),
  HK.eqV (PySem.W.findIn K (.ref (a_dU K)) "_names") (some none),
  HK.eqV (PySem.W.findIn K (.ref (a_dU K)) "__class__") (some (some (.builtin "object.__class__"))),
  HK.eqB (PySem.W.mroIn K (a_dU K) (.type "object")) (some true),
  HK.eqB (PySem.W.kitOne K (.ref (a_dU K)) (.ref (a_CD K))) (some true),
  HK.eqV (PySem.W.findIn K (.ref (a_dU K)) "__str__") (some (some (.ref (a_fStr K)))),
  HK.eqV (PySem.W.findIn K (.ref (a_dU K)) "__eq__") (some (some (.ref (a_fEq K)))),
  HK.eqV (PySem.W.findIn K (.ref (a_dU K)) "__ne__") (some (some (.builtin "object.__ne__"))),
  HK.eqV (PySem.W.findIn K (.ref (a_dU K)) "names") (some (some (.ref (a_pNm K)))),
  HK.eqV (PySem.W.findIn K (.ref (a_dU K)) "room") (some (some (.ref (a_pRm K)))),
  ((PySem.W.notFirst K (a_dU K) (.ref (a_dU K)) && PySem.W.notFirst K (a_dU K) (.type "str") && PySem.W.notFirst K (a_dU K) (.type "tuple"))),
  (HK.clsB K "Make" (a_dM K) (a_fM K)).all id,
  HK.eqV (PySem.W.findIn K (.ref (a_dM K)) "uses") (some none),
  HK.eqV (PySem.W.findIn K (.ref (a_dM K)) "makes") (some none),
  HK.eqV (PySem.W.findIn K (.ref (a_dM K)) "_names") (some none),
  HK.eqV (PySem.W.findIn K (.ref (a_dM K)) "__class__") (some (some (.builtin "object.__class__"))),
  HK.eqB (PySem.W.mroIn K (a_dM K) (.type "object")) (some true),
  HK.eqB (PySem.W.kitOne K (.ref (a_dM K)) (.ref (a_CD K))) (some true),
  HK.eqV (PySem.W.findIn K (.ref (a_dM K)) "__str__") (some (some (.ref (a_fStr K)))),
  HK.eqV (PySem.W.findIn K (.ref (a_dM K)) "__eq__") (some (some (.ref (a_fEq K)))),
  HK.eqV (PySem.W.findIn K (.ref (a_dM K)) "__ne__") (some (some (.builtin "object.__ne__"))),
  HK.eqV (PySem.W.findIn K (.ref (a_dM K)) "names") (some (some (.ref (a_pNm K)))),
  HK.eqV (PySem.W.findIn K (.ref (a_dM K)) "room") (some (some (.ref (a_pRm K)))),
  ((PySem.W.notFirst K (a_dM K) (.ref (a_dM K)) && PySem.W.notFirst K (a_dM K) (.type "str") && PySem.W.notFirst K (a_dM K) (.type "tuple"))),
  (HK.clsB K "Do" (a_dD K) (a_fD K)).all id,
  HK.eqV (PySem.W.findIn K (.ref (a_dD K)) "uses") (some none),
  HK.eqV (PySem.W.findIn K (.ref (a_dD K)) "makes") (some none),
  HK.eqV (PySem.W.findIn K (.ref (a_dD K)) "_names") (some none),
  HK.eqV (PySem.W.findIn K (.ref (a_dD K)) "__class__") (some (some (.builtin "object.__class__"))),
  HK.eqB (PySem.W.mroIn K (a_dD K) (.type "object")) (some true),
  HK.eqB (PySem.W.kitOne K (.ref (a_dD K)) (.ref (a_CD K))) (some true),
  HK.eqV (PySem.W.findIn K (.ref (a_dD K)) "__str__") (some (some (.ref (a_fStr K)))),
  HK.eqV (PySem.W.findIn K (.ref (a_dD K)) "__eq__") (some (some (.ref (a_fEq K)))),
  HK.eqV (PySem.W.findIn K (.ref (a_dD K)) "__ne__") (some (some (.builtin "object.__ne__"))),
  HK.eqV (PySem.W.findIn K (.ref (a_dD K)) "names") (some (some (.ref (a_pNm K)))),
  HK.eqV (PySem.W.findIn K (.ref (a_dD K)) "room") (some (some (.ref (a_pRm K)))),
  ((PySem.W.notFirst K (a_dD K) (.ref (a_dD K)) && PySem.W.notFirst K (a_dD K) (.type "str") && PySem.W.notFirst K (a_dD K) (.type "tuple"))),
  (PySem.W.isFn K (.ref (a_fStr K))),
  (PySem.W.isFn K (.ref (a_fEq K))),
  HK.eqV (PySem.W.specialIn K (.ref (a_pNm K)) "__get__") (some (some (.builtin "property.__get__"))),
  HK.eqB (PySem.W.takesIn K (.ref (a_pNm K))) (some true),
  HK.recB K (a_pNm K) "property" (a_fNm K),
  HK.eqV (PySem.W.specialIn K (.ref (a_pRm K)) "__get__") (some (some (.builtin "property.__get__"))),
  HK.eqB (PySem.W.takesIn K (.ref (a_pRm K))) (some true),
  HK.recB K (a_pRm K) "property" (a_fRm K),
  ((PySem.W.notFirst K (a_dU K) (.ref (a_dM K)) && PySem.W.notFirst K (a_dM K) (.ref (a_dU K)) && PySem.W.notFirst K (a_dD K) (.ref (a_dU K)) && PySem.W.notFirst K (a_dD K) (.ref (a_dM K)))),
  HK.eqB (PySem.W.kitOne K (.type "str") (.ref (a_CD K))) (some false),
  HK.eqB (PySem.W.kitOne K (.type "tuple") (.ref (a_CD K))) (some false),
  HK.eqB (PySem.W.kitOne K (.ref (a_dU K)) (.ref (a_dU K))) (some true),
  HK.eqB (PySem.W.kitOne K (.ref (a_dU K)) (.ref (a_dM K))) (some false),
  HK.eqB (PySem.W.kitOne K (.ref (a_dU K)) (.ref (a_dD K))) (some false),
  HK.eqB (PySem.W.kitOne K (.ref (a_dM K)) (.ref (a_dU K))) (some false),
  HK.eqB (PySem.W.kitOne K (.ref (a_dM K)) (.ref (a_dM K))) (some true),
  HK.eqB (PySem.W.kitOne K (.ref (a_dM K)) (.ref (a_dD K))) (some false),
  HK.eqB (PySem.W.kitOne K (.ref (a_dD K)) (.ref (a_dU K))) (some true),
  HK.eqB (PySem.W.kitOne K (.ref (a_dD K)) (.ref (a_dM K))) (some true),
  HK.eqB (PySem.W.kitOne K (.ref (a_dD K)) (.ref (a_dD K))) (some true),
  HK.eqB (PySem.W.subIn K (.ref (a_dD K)) (.ref (a_dU K))) (some true),
  HK.eqB (PySem.W.subIn K (.ref (a_dD K)) (.ref (a_dM K))) (some true),
  (!decide ((a_dU K) = (a_dD K))),
  (!decide ((a_dM K) = (a_dD K))),
  HK.eqV (PySem.W.nsIn K mainGlobals "Deed") (some (some (.ref (a_CD K)))),
  (HK.rdB K (a_CD K)).all id,
  HK.cvalI K (a_CD K) "MOST" 3,
  (HK.rdB K (a_dU K)).all id,
  HK.cvalI K (a_dU K) "MOST" 3,
  (HK.rdB K (a_dM K)).all id,
  HK.cvalI K (a_dM K) "MOST" 3,
  (HK.rdB K (a_dD K)).all id,
  HK.cvalI K (a_dD K) "MOST" 3,
  (HK.cmB K (a_CD K) "read" (a_pRd K) (a_fRd K)).all id,
  HK.eqV (PySem.W.nsIn K mainGlobals "is_name") (some (some (.ref (a_fIs K)))),
  HK.eqV (PySem.W.nsIn K mainGlobals "check_names") (some (some (.ref (a_fCns K)))),
  HK.eqV (PySem.W.nsIn K mainGlobals "check_unlike") (some (some (.ref (a_fCun K)))),
  HK.eqV (PySem.W.nsIn K mainGlobals "ascending") (some (some (.ref (a_fAsc K)))),
  HK.eqV (PySem.W.nsIn K mainGlobals "check_used") (some (some (.ref (a_fCus K)))),
  HK.eqV (PySem.W.nsIn K mainGlobals "deed_of") (some (some (.ref (a_fOf K)))),
  HK.eqV (PySem.W.nsIn K mainGlobals "_law_pen") (some (some (.ref (a_fPen K)))),
  HK.eqV (PySem.W.nsIn K mainGlobals "_law_draw") (some (some (.ref (a_fDraw K)))),
  HK.eqV (PySem.W.nsIn K mainGlobals "_law_pick") (some (some (.ref (a_fPick K)))),
  HK.eqV (PySem.W.nsIn K mainGlobals "_law_some") (some (some (.ref (a_fSome K)))),
  HK.eqV (PySem.W.nsIn K mainGlobals "_law_names") (some (some (.ref (a_fNames K)))),
  HK.eqV (PySem.W.nsIn K mainGlobals "_law_real_deed") (some (some (.ref (a_fReal K)))),
  HK.eqV (PySem.W.nsIn K mainGlobals "_law_lot") (some (some (.ref (a_fLot K)))),
  HK.eqV (PySem.W.nsIn K mainGlobals "_law_text") (some (some (.ref (a_fText K)))),
  HK.eqV (PySem.W.nsIn K mainGlobals "_law_right") (some (some (.ref (a_fRight K)))),
  HK.eqV (PySem.W.nsIn K mainGlobals "_law_odd") (some (some (.ref (a_fOdd K)))),
  HK.eqV (PySem.W.nsIn K mainGlobals "_law_errors") (some (some (.ref (a_fErrs K)))),
  HK.eqV (PySem.W.nsIn K mainGlobals "_law_field") (some (some (.ref (a_fField K)))),
  HK.eqV (PySem.W.nsIn K mainGlobals "_law_kinds") (some (some (.ref (a_fKinds K)))),
  HK.eqV (PySem.W.nsIn K mainGlobals "_law_errors_right") (some (some (.ref (a_fER K)))),
  HK.eqV (PySem.W.nsIn K mainGlobals "law") (some (some (.ref (a_fLaw K))))]
def as_ : List Addr := [3, 2, 6, 4, 21, 38, 58, 77, 96, 115, 134, 153, 172, 191, 210, 229, 248, 267, 286, 305, 324, 343, 362, 381, 393, 405, 417, 429, 441, 460, 479, 488, 495, 502, 509, 559, 580, 599, 618, 627, 634, 641, 648, 655, 660, 667, 674, 681, 688, 693, 700, 707, 714, 719, 724, 729, 0, 20, 37, 57, 76, 95, 114, 133, 152, 171, 190, 209, 228, 247, 266, 285, 304, 323, 342, 361, 380, 392, 404, 416, 428, 440, 459, 478, 487, 494, 501, 508, 558, 579, 598, 617, 626, 633, 640, 647, 654, 659, 666, 673, 680, 687, 692, 699, 706, 713, 718, 723, 728, 15, 16, 17, 18, 19, 35, 36, 39, 55, 56, 74, 75, 93, 94, 112, 113, 131, 132, 150, 151, 169, 170, 188, 189, 207, 208, 226, 227, 245, 246, 264, 265, 283, 284, 302, 303, 321, 322, 340, 341, 359, 360, 378, 379, 391, 403, 415, 427, 439, 457, 458, 476, 477, 482, 483, 484, 485, 486, 489, 490, 491, 492, 493, 496, 497, 498, 499, 500, 503, 504, 505, 506, 507, 524, 532, 541, 549, 556, 557, 560, 561, 577, 578, 596, 597, 615, 616, 621, 622, 623, 624, 625, 628, 629, 630, 631, 632, 635, 636, 637, 638, 639, 642, 643, 644, 645, 646, 649, 650, 651, 652, 653, 656, 657, 658, 661, 662, 663, 664, 665, 668, 669, 670, 671, 672, 675, 676, 677, 678, 679, 682, 683, 684, 685, 686, 689, 690, 691, 694, 695, 696, 697, 698, 701, 702, 703, 704, 705, 708, 709, 710, 711, 712, 715, 716, 717, 720, 721, 722, 725, 726, 727, 34, 54, 73, 92, 111, 130, 149, 168, 187, 206, 225, 244, 263, 282, 301, 320, 339, 358, 377, 456, 475, 523, 531, 539, 540, 548, 555, 576, 595, 614, 29, 30, 31, 32, 33, 49, 50, 51, 52, 53, 68, 69, 70, 71, 72, 87, 88, 89, 90, 91, 106, 107, 108, 109, 110, 125, 126, 127, 128, 129, 144, 145, 146, 147, 148, 163, 164, 165, 166, 167, 182, 183, 184, 185, 186, 201, 202, 203, 204, 205, 220, 221, 222, 223, 224, 239, 240, 241, 242, 243, 258, 259, 260, 261, 262, 277, 278, 279, 280, 281, 296, 297, 298, 299, 300, 315, 316, 317, 318, 319, 334, 335, 336, 337, 338, 353, 354, 355, 356, 357, 372, 373, 374, 375, 376, 451, 452, 453, 454, 455, 470, 471, 472, 473, 474, 522, 530, 538, 542, 543, 544, 545, 546, 547, 550, 551, 552, 553, 554, 571, 572, 573, 574, 575, 590, 591, 592, 593, 594, 609, 610, 611, 612, 613, 517, 518, 519, 520, 521, 525, 526, 527, 528, 529, 533, 534, 535, 536, 537]
abbrev R : OpenRow := OpenLaw.row PySem.Challenge.rw_loopstow_k01_deeds
def loose : List PySem.Str := (["_wall", "StowError", "BadName", "BadDeed", "BadMove", "BadNumber", "BadPrice", "BadPlace", "BadPart", "BadSlots", "BadStanding", "BadRule", "Twice", "TooMany", "Unmade", "MadeAgain", "NoRoom", "Crowded", "Barred", "BadPlan", "NoLoop", "HasLoop", "OneLoop", "TwoLoops", "Finished", "BadText", "BadLine", "LETTERS", "MOST_LETTERS", "is_name"] : List PySem.Str) ++ (["check_names", "check_unlike", "ascending", "Deed", "Use", "Make", "Do", "check_used", "deed_of", "_law_pen", "_law_draw", "_law_pick", "_law_some", "_law_names", "_law_real_deed", "_law_lot", "_law_text", "_law_right", "_law_odd", "_law_errors", "_law_field", "_law_kinds", "_law_errors_right"] : List PySem.Str)
abbrev hk : Hook := HK.hook as_ fns [] ex
def ob (s : SharedT) : HK.Al := HK.obs as_ fns [] ex (HandSHeadRun.getT s)
theorem run (w : World) : HandSHeadRun.RunEq R (view R.prog [57]) hk ob 20000 loose w := by
  intro os
  kernel_rfl
end K01H
set_option Elab.async false
set_option linter.all false
set_option maxRecDepth 100000
set_option maxHeartbeats 4000000
namespace K01
open PySem L2
def top (i : Nat) : Stmt := PySem.Challenge.pw_loopstow_k01_deeds.main.body.getD i (.Pass ⟨0, 0, 0, 0⟩)
abbrev sPen : Stmt := top 43
abbrev sDraw : Stmt := top 44
abbrev sPick : Stmt := top 45
/-- the pen at p: its cells at c, how many cells are read, what is left of a great cell -/
structure Pen (H : Hp) (p c : Addr) (ns : List Int) (at_ rest : Int) : Prop where
  hp : H p = some (.lst [.ref c, .int at_, .int rest])
  hc : H c = some (.lst (ns.map V.int))
  la : 0 ≤ at_
  lr : 0 ≤ rest
theorem Pen.ne {H : Hp} {p c : Addr} {ns : List Int} {at_ rest : Int} (P : Pen H p c ns at_ rest) : c ≠ p := fun e => by
  have h1 := P.hp
  rw [← e, P.hc] at h1
  have h2 : ns.map V.int = [.ref c, .int at_, .int rest] := by injection h1 with h; injection h
  cases ns with
  | nil => cases h2
  | cons a r => simp at h2
/-- all but what stands at p is as it was -/
def But (p : Addr) (H H' : Hp) : Prop := ∀ b o, H b = some o → b ≠ p → H' b = some o
/-- what a draw leaves -/
def Drawn (H : Hp) (p c : Addr) (ns : List Int) (m : Int) (H' : Hp) : Prop := ∃ at' rest', Pen H' p c ns at' rest' ∧ at' ≤ m ∧ But p H H'
def spDraw : Sp := fun vs H Q _ => ∃ (p c : Addr) (ns : List Int) (at_ rest many : Int), vs = [.ref p, .int many] ∧ Pen H p c ns at_ rest ∧ at_ ≤ 1000000 ∧ 1 ≤ many ∧ many < 1073741824 ∧
  ∀ d H', 0 ≤ d → d < many → Drawn H p c ns (at_ + 1) H' → Q (.int d) H'
theorem scDraw : FnScope ["_law_pen_here", "_law_many", "_law_digit", "_law_at", "_law_cell", "_law_great", "_law_mixed"] ["_law_pen_here", "_law_many"] (defScope sDraw) := ⟨rfl, rfl, rfl, by decide +kernel, rfl, by decide +kernel, by decide +kernel⟩
theorem dpInts {K : PySem.W.Frag} {H : Hp} : ∀ ns : List Int, DpAll K H (ns.map V.int) (ns.map PyData.int)
  | [] => .nil
  | n :: r => .cons (.int n) (dpInts r)
structure TxtB (mg : Str → Option Value) : Prop where
  bint : mg "int" = none
  blen : mg "len" = none
  babs : mg "abs" = none
  blist : mg "list" = none
  bstr : mg "str" = none
  btuple : mg "tuple" = none
  bisinstance : mg "isinstance" = none
  brepr : mg "repr" = none
  brange : mg "range" = none
  benumerate : mg "enumerate" = none
  bVE : mg "ValueError" = none
section
variable {P : Program} {w : World} {K : PySem.W.Frag} {mg : Str → Option Value} {base : Heap}
theorem ok_draw {f : Addr} {fd : FuncData} (F : Fun K "_law_draw" "_law_draw" sDraw f fd) (T : TxtB mg) : FnOk P w K mg base CX0 1 f fd ["_law_pen_here", "_law_many"] spDraw := by
  refine F.ok scDraw (fun vs H Q E h => ?_) (fun cdv A outer s H vs Q E hr h => ?_)
  · obtain ⟨p, c, ns, a, r, m, rfl, _⟩ := h
    rfl
  · obtain ⟨p, c, ns, at_, rest, many, rfl, Pn, ha, hm1, hm2, k⟩ := h
    have hu := hu_of hr
    refine ⟨_, (pss_cons (ps_if (pt_cmpR op_gt (pe_ix ix_list (pv 0) pe_int (fun _ _ => rfl)) pe_int (nomark _)) (pss_cons (ps_set (i := 2) scDraw.nd rfl (Or.inl rfl) (pe_op op_mod (pe_callTy call_int1 (by rfl) T.bint (by decide +kernel) (pa_cons (pe_ix ix_list (pv 0) pe_int (fun _ _ => rfl)) pa_nil)) (pv 1)))
      (pss_cons (ps_asg (pe_op op_fdiv (pe_callTy call_int1 (by rfl) T.bint (by decide +kernel) (pa_cons (pe_ix ix_list (pv 0) pe_int (fun _ _ => rfl)) pa_nil)) (pv 1)) (pg_sub (pv 0) pe_int set_list))
      (pss_one (ps_ret (pv 2))))) pss_nil)
      (pss_cons (ps_set (i := 3) scDraw.nd rfl (Or.inl rfl) (pe_ix ix_list (pv 0) pe_int (fun _ _ => rfl)))
      (pss_cons (ps_asg (pe_op op_add (pv 3) pe_int) (pg_sub (pv 0) pe_int set_list))
      (pss_cons (ps_set (i := 4) scDraw.nd rfl (Or.inl rfl) (pe_op op_add (pe_op op_mul pe_int (pv 3)) pe_int))
      (C8.pss_cut (ps_if (pt_cmpR (op_neD hr.units) (pe_ix ix_list (pv 0) pe_int (fun _ _ => rfl)) (pe_lst pa_nil) (nomark _)) (pss_one (ps_set (i := 4) scDraw.nd rfl (Or.inl rfl) (pe_ix ix_list (pe_ix ix_list (pv 0) pe_int (fun _ _ => rfl)) (pe_op op_mod (pe_callTy call_int1 (by rfl) T.bint (by decide +kernel) (pa_cons (pv 3) pa_nil)) (pe_callB call_len_seq (by rfl) T.blen (by decide +kernel) (pa_cons (pe_ix ix_list (pv 0) pe_int (fun _ _ => rfl)) pa_nil))) (fun _ _ => rfl)))) pss_nil)
      (C8.pss_cut (ps_if (PW.pt (pw_and (pt_cmpR op_lt (pv 3) (pe_callB call_len_seq (by rfl) T.blen (by decide +kernel) (pa_cons (pe_ix ix_list (pv 0) pe_int (fun _ _ => rfl)) pa_nil)) (nomark _)) (pw_and1 (pt_cmpR op_ge (pe_callB call_abs (by rfl) T.babs (by decide +kernel) (pa_cons (pv 4) pa_nil)) (pe_op op_pow pe_int pe_int) (nomark _))))) (pss_cons (ps_set (i := 5) scDraw.nd rfl (Or.inl rfl) (pe_op op_add (pe_op op_mul pe_int (pe_op op_sub (pe_callB call_abs (by rfl) T.babs (by decide +kernel) (pa_cons (pv 4) pa_nil)) (pe_op op_pow pe_int pe_int))) (pe_callTy call_int1 (by rfl) T.bint (by decide +kernel) (pa_cons (pe_cmpR op_lt (pv 4) pe_int (nomark _)) pa_nil))))
      (pss_cons (ps_asg (pe_op op_fdiv (pe_callTy call_int1 (by rfl) T.bint (by decide +kernel) (pa_cons (pv 5) pa_nil)) (pv 1)) (pg_sub (pv 0) pe_int set_list))
      (pss_one (ps_ret (pe_op op_mod (pe_callTy call_int1 (by rfl) T.bint (by decide +kernel) (pa_cons (pv 5) pa_nil)) (pv 1)))))) pss_nil)
      (pss_cons (ps_set (i := 6) scDraw.nd rfl (Or.inl rfl) (pe_op op_mod (pe_callTy call_int1 (by rfl) T.bint (by decide +kernel) (pa_cons (pe_op op_pow (pe_op op_add (pe_op op_add (pe_op op_mod (pe_callTy call_int1 (by rfl) T.bint (by decide +kernel) (pa_cons (pv 4) pa_nil)) pe_int) (pe_op op_mul pe_int (pv 3))) pe_int) pe_int) pa_nil)) pe_int))
      (pss_cons (ps_set (i := 6) scDraw.nd rfl (Or.inl rfl) (pe_op op_mod (pe_callTy call_int1 (by rfl) T.bint (by decide +kernel) (pa_cons (pe_op op_pow (pe_op op_add (pe_op op_add (pe_op op_mul (pv 6) (pe_op op_add (pe_op op_mul pe_int (pv 3)) pe_int)) (pe_op op_mul (pe_op op_mul pe_int (pv 3)) (pv 3))) pe_int) pe_int) pa_nil)) pe_int))
      (pss_one (ps_ret (pe_op op_mod (pe_callTy call_int1 (by rfl) T.bint (by decide +kernel) (pa_cons (pe_op op_fdiv (pv 6) pe_int) pa_nil)) (pv 1)))))))))))), ?_⟩
    -- pen[2] > 0
    refine ⟨_, rfl, p, _, _, _, rfl, rfl, SqL.of Pn.hp, rfl, rest, 0, rfl, rfl, _, rfl, ite2 (fun h0 => ?_) (fun h0 => ?_)⟩
    · have hr0 : 0 < rest := of_decide_eq_true h0
      refine ⟨_, rfl, p, _, _, _, rfl, rfl, SqL.of Pn.hp, rfl, .inl ⟨rest, rfl, _, rfl, rest, many, rfl, rfl, (by show 0 < many; omega), ?_⟩⟩
      refine ⟨_, rfl, p, _, _, _, rfl, rfl, SqL.of Pn.hp, rfl, .inl ⟨rest, rfl, _, rfl, rest, many, rfl, rfl, ⟨by omega, by omega⟩, ?_⟩⟩
      refine ⟨_, rfl, p, _, _, _, rfl, rfl, Pn.hp, rfl, _, rfl, ?_⟩
      refine k _ _ (Int.emod_nonneg _ (by omega)) (Int.emod_lt_of_pos _ (by omega)) ⟨at_, rest / many, ⟨upd_same, by rw [upd_ne Pn.ne]; exact Pn.hc, Pn.la, Int.ediv_nonneg Pn.lr (by omega)⟩, by omega, fun b o hb hn => by rw [upd_ne hn]; exact hb⟩
    · -- at = pen[1]; pen[1] = at + 1
      refine ⟨_, rfl, p, _, _, _, rfl, rfl, SqL.of Pn.hp, rfl, ?_⟩
      refine ⟨_, rfl, at_, 1, rfl, rfl, _, rfl, p, _, _, _, rfl, rfl, Pn.hp, rfl, ?_⟩
      have P1 : Pen (upd H p (.lst [.ref c, .int (at_ + 1), .int rest])) p c ns (at_ + 1) rest := ⟨upd_same, by rw [upd_ne Pn.ne]; exact Pn.hc, by have := Pn.la; omega, Pn.lr⟩
      have B1 : But p H (upd H p (.lst [.ref c, .int (at_ + 1), .int rest])) := fun b o hb hn => by rw [upd_ne hn]; exact hb
      -- cell = ..
      refine ⟨_, rfl, _, at_, rfl, rfl, .inl ⟨by decide, by decide⟩, _, _, rfl, rfl, ?_⟩
      refine ⟨fun σ H' => ∃ (cell : Int) (v2 v5 v6 : Option V), σ = [some (.ref p), some (.int many), v2, some (.int at_), some (.int cell), v5, v6] ∧ Pen H' p c ns (at_ + 1) rest ∧ But p H H', ?_, ?_⟩
      · -- if pen[0] != []
        refine ⟨_, rfl, p, _, _, _, rfl, rfl, SqL.of P1.hp, rfl, by decide, fun l hl => ?_⟩
        have npl : p ≠ l := ne_of_none P1.hp hl
        have ncl : c ≠ l := ne_of_none P1.hc hl
        have P2 : Pen (upd (upd H p (.lst [.ref c, .int (at_ + 1), .int rest])) l (.lst [])) p c ns (at_ + 1) rest := ⟨by rw [upd_ne npl]; exact P1.hp, by rw [upd_ne ncl]; exact P1.hc, P1.la, P1.lr⟩
        have B2 : But p H (upd (upd H p (.lst [.ref c, .int (at_ + 1), .int rest])) l (.lst [])) := fun b o hb hn => by
          rw [upd_ne (ne_of_none (B1 b o hb hn) hl)]
          exact B1 b o hb hn
        refine ⟨_, _, .lst (SqL.of P2.hc) (dpInts ns), .lst (SqL.of upd_same) .nil, PySem.W.ke_shaped_ints ns, by decide +kernel, _, rfl, ?_⟩
        cases ns with
        | nil => exact iteF ⟨_, none, none, none, rfl, P2, B2⟩
        | cons n0 nr =>
          refine iteT ?_
          refine ⟨_, rfl, p, _, _, _, rfl, rfl, SqL.of P2.hp, rfl, _, rfl, .inl ⟨at_, rfl, _, rfl, p, _, _, _, rfl, rfl, SqL.of P2.hp, rfl, c, _, rfl, .inl (SqL.of P2.hc), at_, _, rfl, rfl, (by simp), ?_⟩⟩
          have hpos : (0 : Int) < (((n0 :: nr).map V.int).length : Int) := by simp
          have h1 := Int.emod_nonneg at_ (Int.ne_of_gt hpos)
          have h2 := Int.emod_lt_of_pos at_ hpos
          obtain ⟨j, hj⟩ := Int.eq_ofNat_of_zero_le h1
          have hjl : j < (n0 :: nr).length := by rw [hj] at h2; simp at h2 ⊢; omega
          refine ⟨c, _, _, .int ((n0 :: nr)[j]'hjl), rfl, rfl, SqL.of P2.hc, ?_, ?_⟩
          · rw [hj]
            exact atI_nat (by rw [List.getElem?_map, List.getElem?_eq_getElem hjl]; rfl)
          · exact ⟨_, none, none, none, rfl, P2, B2⟩
      · rintro σ' H' ⟨cell, v2, v5, v6, rfl, P2, B2⟩
        have hla := Pn.la
        have fin : ∀ (H2 : Hp) (x : Int), Drawn H p c ns (at_ + 1) H2 → Q (.int (x % many)) H2 := fun H2 x hd => k _ _ (Int.emod_nonneg _ (by omega)) (Int.emod_lt_of_pos _ (by omega)) hd
        have D2 : Drawn H p c ns (at_ + 1) H' := ⟨_, _, P2, by omega, B2⟩
        have m1 := Int.emod_nonneg cell (show (2147483579 : Int) ≠ 0 by decide)
        have m2 := Int.emod_lt_of_pos cell (show (0 : Int) < 2147483579 by decide)
        refine ⟨fun σ H2 => σ = [some (.ref p), some (.int many), v2, some (.int at_), some (.int cell), v5, v6] ∧ H2 = H', ?_, ?_⟩
        · -- at < len(pen[0]) and abs(cell) >= 10 ** 18
          refine ⟨_, rfl, _, rfl, p, _, _, _, rfl, rfl, SqL.of P2.hp, rfl, c, _, rfl, .inl (SqL.of P2.hc), at_, _, rfl, rfl, _, rfl, ?_⟩
          refine ite2 (fun hlt => ?_) (fun hlt => iteF ⟨rfl, rfl⟩)
          refine ⟨_, rfl, cell, rfl, 10, 18, rfl, rfl, ⟨by decide, by decide, by decide⟩, _, _, rfl, rfl, _, rfl, ?_⟩
          refine ite2 (fun hge => ?_) (fun hge => ⟨rfl, rfl⟩)
          have hge := of_decide_eq_true hge
          have h3 : (1000000000000000000 : Int) ≤ if cell < 0 then -cell else cell := hge
          refine ⟨_, rfl, cell, rfl, 10, 18, rfl, rfl, ⟨by decide, by decide, by decide⟩, _, _, rfl, rfl, 2, _, rfl, rfl, .inl ⟨by decide, by decide⟩, _, rfl, cell, 0, rfl, rfl, .inr ⟨_, rfl, _, _, rfl, rfl, ?_⟩⟩
          refine ⟨_, rfl, .inl ⟨_, rfl, _, rfl, _, many, rfl, rfl, ⟨by omega, by omega⟩, _, rfl, p, _, _, _, rfl, rfl, P2.hp, rfl, ?_⟩⟩
          refine ⟨_, rfl, .inl ⟨_, rfl, _, rfl, _, many, rfl, rfl, (by show 0 < many; omega), ?_⟩⟩
          refine fin _ _ ⟨at_ + 1, _, ⟨upd_same, by rw [upd_ne Pn.ne]; exact P2.hc, P2.la, Int.ediv_nonneg ?_ (by omega)⟩, by omega, fun b o hb hn => by rw [upd_ne hn]; exact B2 b o hb hn⟩
          have h4 : (0 : Int) ≤ if decide (cell < 0) = true then 1 else 0 := by split <;> omega
          show (0 : Int) ≤ 2 * ((if cell < 0 then -cell else cell) - 1000000000000000000) + (if decide (cell < 0) = true then 1 else 0)
          omega
        · rintro σ2 H2 ⟨rfl, rfl⟩
          -- mixed, twice
          refine ⟨_, rfl, .inl ⟨cell, rfl, cell, _, rfl, rfl, (by show (0 : Int) < 2147483579; decide), _, rfl, _, at_, rfl, rfl, .inl ⟨by decide, by decide⟩, _, _, rfl, rfl, _, _, rfl, rfl, _, 3, rfl, rfl, ⟨by decide, by decide, ?_⟩, .inl ⟨_, rfl, _, _, rfl, rfl, (by show (0 : Int) < 2147483629; decide), ?_⟩⟩⟩
          · show (cell % 2147483579 + 50051 * at_ + 67).natAbs < 2 ^ 64
            omega
          obtain ⟨M, hM⟩ : ∃ M : Int, M = (cell % 2147483579 + 50051 * at_ + 67) ^ (3 : Int).toNat % 2147483629 := ⟨_, rfl⟩
          have m3 : 0 ≤ M := by rw [hM]; exact Int.emod_nonneg _ (by decide)
          have m4 : M < 2147483629 := by rw [hM]; exact Int.emod_lt_of_pos _ (by decide)
          have m5 : 0 ≤ M * (2 * at_ + 71) := Int.mul_nonneg m3 (by omega)
          have m6 : M * (2 * at_ + 71) ≤ 2147483629 * 2000071 := Int.mul_le_mul (by omega) (by omega) (by omega) (by decide)
          have m7 : 0 ≤ 61091 * at_ * at_ := Int.mul_nonneg (by omega) (by omega)
          have m8 : 61091 * at_ * at_ ≤ 61091 * 1000000 * 1000000 := Int.mul_le_mul (by omega) (by omega) (by omega) (by decide)
          refine ⟨V.int M, by rw [hM]; rfl, _, rfl, 2, at_, rfl, rfl, .inl ⟨by decide, by decide⟩, _, _, rfl, rfl, M, _, rfl, rfl, .inl ⟨by omega, by omega⟩, ?_⟩
          refine ⟨_, rfl, 61091, at_, rfl, rfl, .inl ⟨by decide, by decide⟩, _, rfl, _, at_, rfl, rfl, .inr ⟨by omega, by omega⟩, _, _, rfl, rfl, _, _, rfl, rfl, _, 5, rfl, rfl, ⟨by decide, by decide, ?_⟩, ?_⟩
          · show (M * (2 * at_ + 71) + 61091 * at_ * at_ + 19).natAbs < 2 ^ 64
            omega
          refine .inl ⟨_, rfl, _, _, rfl, rfl, (by show (0 : Int) < 2147483587; decide), ?_⟩
          exact ⟨_, rfl, _, 16, rfl, rfl, ⟨by decide, by decide⟩, .inl ⟨_, rfl, _, rfl, _, many, rfl, rfl, (by show 0 < many; omega), fin _ _ D2⟩⟩
end
end K01

set_option Elab.async false
set_option linter.all false
set_option maxRecDepth 100000
set_option maxHeartbeats 4000000
namespace K01
open PySem L2
theorem But.seq {K : PySem.W.Frag} {H H' : Hp} {p a : Addr} {xs : List V} (B : But p H H') (n : a ≠ p) (h : SqL K H a xs) : SqL K H' a xs := by
  rcases h with (h | ⟨o, h⟩) | h
  · exact .inl (.inl (B _ _ h n))
  · exact .inl (.inr ⟨o, B _ _ h n⟩)
  · exact .inr h
theorem But.trans {p : Addr} {H H1 H2 : Hp} (a : But p H H1) (b : But p H1 H2) : But p H H2 := fun c o h n => b c o (a c o h n) n
theorem But.refl {p : Addr} {H : Hp} : But p H H := fun _ _ h _ => h
theorem But.new {p a : Addr} {H : Hp} {o : HO} (h : H a = none) : But p H (upd H a o) := fun b u e _ => by rw [upd_ne (ne_of_none e h)]; exact e
theorem But.same {p : Addr} {H H1 : Hp} (s : Same H H1) : But p H H1 := fun b o h _ => s b o h
theorem Same.new {a : Addr} {H : Hp} {o : HO} (h : H a = none) : Same H (upd H a o) := fun b u e => by rw [upd_ne (ne_of_none e h)]; exact e
theorem Pen.same {H H' : Hp} {p c : Addr} {ns : List Int} {at_ rest : Int} (P : Pen H p c ns at_ rest) (s : Same H H') : Pen H' p c ns at_ rest := ⟨s _ _ P.hp, s _ _ P.hc, P.la, P.lr⟩
def spPen (K : PySem.W.Frag) : Sp := fun vs H Q _ => ∃ (a : Addr) (ns : List Int), vs = [.ref a] ∧ SqL K H a (ns.map V.int) ∧ ∀ (p c : Addr) (ms : List Int) (H' : Hp), H p = none → Pen H' p c ms 0 0 → Same H H' → Q (.ref p) H'
theorem scPen : FnScope ["_law_script"] ["_law_script"] (defScope sPen) := ⟨rfl, rfl, rfl, by decide +kernel, rfl, by decide +kernel, by decide +kernel⟩
def spPick (K : PySem.W.Frag) : Sp := fun vs H Q _ => ∃ (p c : Addr) (ns : List Int) (at_ rest : Int) (x : V), vs = [.ref p, x] ∧ Pen H p c ns at_ rest ∧ at_ ≤ 1000000 ∧
  ((∃ (a : Addr) (xs : List V), x = .ref a ∧ SqL K H a xs ∧ a ≠ p ∧ 0 < xs.length ∧ xs.length < 1000 ∧ ∀ v H', v ∈ xs → Drawn H p c ns (at_ + 1) H' → Q v H') ∨
   (∃ (z : Str), x = .str z ∧ 0 < z.length ∧ z.length < 1000 ∧ ∀ (ch : Nat) H', ch ∈ z.cps.toList → Drawn H p c ns (at_ + 1) H' → Q (.str ⟨#[ch]⟩) H'))
theorem scPick : FnScope ["_law_pen_here", "_law_some_here"] ["_law_pen_here", "_law_some_here"] (defScope sPick) := ⟨rfl, rfl, rfl, by decide +kernel, rfl, by decide +kernel, by decide +kernel⟩
def cutM (ns : List Int) : List Int := (ns.drop (HT.sIx ns.length 0 none)).take (HT.sIx ns.length ns.length (some 63) - HT.sIx ns.length 0 none)
section
variable {P : Program} {w : World} {K : PySem.W.Frag} {mg : Str → Option Value} {base : Heap}
theorem ok_pen {f : Addr} {fd : FuncData} (F : Fun K "_law_pen" "_law_pen" sPen f fd) (T : TxtB mg) : FnOk P w K mg base CX0 1 f fd ["_law_script"] (spPen K) := by
  refine F.ok scPen (fun vs H Q E h => ?_) (fun cdv A outer s H vs Q E hr h => ?_)
  · obtain ⟨a, ns, rfl, _⟩ := h
    rfl
  · obtain ⟨a, ns, rfl, hS, k⟩ := h
    refine ⟨_, (pss_one (ps_ret (pe_lst (pa_cons (pe_callTy call_list_of (by rfl) T.blist (by decide +kernel) (pa_cons (pe_slice sl_list (pv 0) po_none (po_some pe_int)) pa_nil)) (pa_cons pe_int (pa_cons pe_int pa_nil)))))), ?_⟩
    refine ⟨_, rfl, _, rfl, a, _, rfl, hS, fun d hd => ?_⟩
    refine ⟨d, _, rfl, .inl (SqL.of upd_same), fun c hc => ⟨by show 3 ≤ sizeLine; decide, fun p hp => ?_⟩⟩
    have n1 : d ≠ c := ne_of_none upd_same hc
    have n2 : c ≠ p := ne_of_none upd_same hp
    have s1 : Same H (upd H d (.lst (cutV (ns.map V.int) none (some 63)))) := Same.new hd
    have s2 : Same (upd H d (.lst (cutV (ns.map V.int) none (some 63)))) (upd (upd H d (.lst (cutV (ns.map V.int) none (some 63)))) c (.lst (cutV (ns.map V.int) none (some 63)))) := Same.new hc
    have e : cutV (ns.map V.int) none (some 63) = (cutM ns).map V.int := by
      unfold cutV cutM
      rw [← List.map_drop, ← List.map_take, List.length_map]
    refine k p c (cutM ns) _ ((s1.trans s2).free hp) ⟨upd_same, ?_, Int.le_refl _, Int.le_refl _⟩ ((s1.trans s2).trans (Same.new hp))
    rw [upd_ne n2, upd_same, e]
theorem ok_pick {f : Addr} {fd : FuncData} (F : Fun K "_law_pick" "_law_pick" sPick f fd) (T : TxtB mg) (cDraw : C8.Cal P w K mg base 1 "_law_draw" spDraw []) : FnOk P w K mg base CX0 2 f fd ["_law_pen_here", "_law_some_here"] (spPick K) := by
  refine F.ok scPick (fun vs H Q E h => ?_) (fun cdv A outer s H vs Q E hr h => ?_)
  · obtain ⟨p, c, ns, at_, rest, x, rfl, _⟩ := h
    rfl
  · obtain ⟨p, c, ns, at_, rest, x, rfl, Pn, ha, h⟩ := h
    refine ⟨_, (pss_one (ps_ret (pe_ix ix_seq (pv 1) (C8.pe_c cDraw hr (by decide) rfl (pa_cons (pv 0) (pa_cons (pe_callB (CallR.or call_len_seq call_len_str) (by rfl) T.blen (by decide +kernel) (pa_cons (pv 1) pa_nil)) pa_nil))) (fun _ _ => rfl)))), ?_⟩
    rcases h with ⟨a, xs, rfl, hS, hne, h0, h1, k⟩ | ⟨z, rfl, h0, h1, k⟩
    · refine ⟨_, rfl, _, rfl, _, rfl, .inl ⟨a, xs, rfl, .inl hS, ?_⟩⟩
      refine ⟨p, c, ns, at_, rest, _, rfl, Pn, ha, by omega, by omega, fun d H' d0 d1 hD => ?_⟩
      obtain ⟨at', rest', _, _, hB⟩ := id hD
      obtain ⟨j, rfl⟩ := Int.eq_ofNat_of_zero_le d0
      have hj : j < xs.length := by omega
      refine .inl ⟨a, xs, _, xs[j], rfl, rfl, hB.seq hne hS, atI_nat (List.getElem?_eq_getElem hj), k _ _ (List.getElem_mem hj) hD⟩
    · refine ⟨_, rfl, _, rfl, _, rfl, .inr ⟨z, rfl, Nat.le_of_lt (small1000 (by omega)), ?_⟩⟩
      refine ⟨p, c, ns, at_, rest, _, rfl, Pn, ha, by omega, by omega, fun d H' d0 d1 hD => ?_⟩
      obtain ⟨j, rfl⟩ := Int.eq_ofNat_of_zero_le d0
      have hj : j < z.cps.toList.length := by show j < z.cps.toList.length; rw [Array.length_toList]; exact Int.ofNat_lt.mp d1
      refine .inr (.inr ⟨z, _, z.cps.toList[j], rfl, rfl, Nat.le_of_lt (small1000 (by omega)), atI_nat (List.getElem?_eq_getElem hj), k _ _ (List.getElem_mem hj) hD⟩)
end
end K01

set_option linter.all false
namespace NX
open PySem PySem.Builtin PySem.Builtin.Str
theorem tw_all {p : Nat → Bool} : ∀ {l : List Nat}, l.all p = true → l.takeWhile p = l
  | [], _ => rfl
  | c :: r, h => by
    rw [List.all_cons, Bool.and_eq_true] at h
    rw [List.takeWhile_cons, if_pos h.1, tw_all h.2]
theorem tw_lt {p : Nat → Bool} {l : List Nat} (h : l.all p = false) : (l.takeWhile p).length < l.length := by
  induction l with
  | nil => simp at h
  | cons c r ih =>
    rw [List.all_cons] at h
    rw [List.takeWhile_cons]
    by_cases hc : p c = true
    · rw [if_pos hc, List.length_cons, List.length_cons]
      rw [hc, Bool.true_and] at h
      have := ih h
      omega
    · rw [if_neg hc]
      simp
theorem drop_all {p : Nat → Bool} {l : List Nat} (h : l.all p = false) : (l.drop (l.takeWhile p).length).all p = false := by
  induction l with
  | nil => simp at h
  | cons c r ih =>
    rw [List.all_cons] at h
    rw [List.takeWhile_cons]
    by_cases hc : p c = true
    · rw [if_pos hc, List.length_cons, List.drop_succ_cons]
      rw [hc, Bool.true_and] at h
      exact ih h
    · rw [if_neg hc]
      simp [hc]
theorem strip_empty (x y : Str) : (Txt.stripChars x y = ("" : Str)) ↔ x.cps.toList.all y.cps.contains = true := by
  have len : x.length = x.cps.toList.length := by show x.cps.size = _; simp
  have empty : ∀ {z : Str}, z = ("" : Str) ↔ z.cps.toList = [] := fun {z} => by
    constructor
    · intro e
      rw [e]
      decide +kernel
    · intro e
      obtain ⟨⟨l⟩⟩ := z
      have e' : l = [] := e
      subst e'
      decide +kernel
  unfold Txt.stripChars Txt.stripBy stripSame stripped stripLo stripHi
  simp only [if_true]
  cases ha : x.cps.toList.all y.cps.contains with
  | true =>
    rw [tw_all ha]
    refine ⟨fun _ => rfl, fun _ => ?_⟩
    split
    · rename_i q
      rw [Bool.and_eq_true, beq_iff_eq] at q
      exact empty.mpr (List.length_eq_zero_iff.mp q.1)
    · refine empty.mpr ?_
      simp [strSub, len]
  | false =>
    refine ⟨fun e => ?_, fun e => by cases e⟩
    exfalso
    have h1 := tw_lt ha
    have h2 : (((x.cps.toList.drop (x.cps.toList.takeWhile y.cps.contains).length).reverse).takeWhile y.cps.contains).length < (x.cps.toList.drop (x.cps.toList.takeWhile y.cps.contains).length).length := by
      have := tw_lt (p := y.cps.contains) (l := (x.cps.toList.drop (x.cps.toList.takeWhile y.cps.contains).length).reverse) (by rw [List.all_reverse]; exact drop_all ha)
      rwa [List.length_reverse] at this
    rw [List.length_drop] at h2
    split at e
    · rw [empty] at e
      rw [e] at ha
      cases ha
    · rw [empty] at e
      have q := congrArg List.length e
      simp [strSub] at q
      rw [len] at q
      simp at q h1 h2
      omega
/-- a small letter -/
def lett (c : Nat) : Bool := decide (97 ≤ c) && decide (c ≤ 122)
theorem letters_list : ("abcdefghijklmnopqrstuvwxyz" : Str).cps.toList = List.range' 97 26 := by decide +kernel
theorem letters_mem (c : Nat) : c ∈ ("abcdefghijklmnopqrstuvwxyz" : Str).cps.toList ↔ lett c = true := by
  rw [letters_list, List.mem_range'_1]
  unfold lett
  rw [Bool.and_eq_true, decide_eq_true_eq, decide_eq_true_eq]
  omega
theorem letters_has (c : Nat) : ("abcdefghijklmnopqrstuvwxyz" : Str).cps.contains c = lett c := by
  rw [Bool.eq_iff_iff, Array.contains_iff_mem, ← Array.mem_toList_iff]
  exact letters_mem c
/-- is it a name -/
def nm (z : Str) : Bool := decide (1 ≤ z.length) && (decide (z.length ≤ 6) && z.cps.toList.all lett)
theorem strip_nm (z : Str) : decide (Txt.stripChars z ("abcdefghijklmnopqrstuvwxyz" : Str) = ("" : Str)) = z.cps.toList.all lett := by
  rw [Bool.eq_iff_iff, decide_eq_true_eq, strip_empty]
  have e : ("abcdefghijklmnopqrstuvwxyz" : Str).cps.contains = lett := funext letters_has
  rw [e]
end NX

set_option Elab.async false
set_option linter.all false
set_option maxRecDepth 100000
set_option maxHeartbeats 4000000
/-! A rule of my own: «a, *b = xs», xs a list. -/
namespace NX
open PySem PySem.Spec PyProof.Rows L2
def gStar (K : PySem.W.Frag) (t : TGs) : TG := fun v σ H Q => ∃ (a : Addr) (x : V) (rest : List V), v = .ref a ∧ SqL K H a (x :: rest) ∧ rest.length < 16384 ∧ ∀ D, H D = none → t [x, .ref D] σ (upd H D (.lst rest)) Q
section
variable {X : Cx} {e1 e2 : Expr} {k : Nat} {pos sp : Pos} {t : TGs}
theorem pg_star (hc : X.calm = true) (h : PGs X [e1, e2] t) (hm : (assignEach [e1, .Starred e2 sp] X.env).map (·.2) = (assignEach [e1, e2] X.env).map (·.2) := by rfl) (hl : (assignEach [e1, .Starred e2 sp] X.env).length = 2 := by rfl)
    (hi : (assignEach [e1, .Starred e2 sp] X.env).findIdx? (·.1) = some 1 := by rfl) : PG X (.Tuple [e1, .Starred e2 sp] k pos) (gStar X.K t) := by
  refine ⟨fun pins s σ H v u Q I r hw => ?_⟩
  obtain ⟨a, x, rest, rfl, hq, hz, hw⟩ := hw
  cases r
  obtain ⟨its, rv, pl, _⟩ := I.list hq
  cases rv with
  | @cons _ u1 _ us ra rr =>
    have hlen : rest.length = us.length := Paired.length rr
    have ll := pl.isList
    have hlt : a ≠ s.heap.objs.size := by
      obtain ⟨o, ho, _⟩ := id ll
      exact Nat.ne_of_lt (Heap.lt_size ho)
    rw [PyProof.Rows.assign_Tuple]
    refine wpAny_bind (wpAny_standAt ?_)
    unfold unpack
    rw [hl, hi, hm]
    -- one is drawn, the others are collected, a new list is made of them
    have items : ∀ {R : List Value → Shared → Prop}, (∀ (h2 : Heap) tk, (∀ b o, s.heap.get? b = some o → h2.get? b = some o) → R [u1, .ref h2.objs.size] { s with heap := h2.push { cls := .type "list", data := .seq us.toArray }, toks := tk }) →
        wpAny (model X.prog X.w) X.A (unpackItems (.ref a) 2 (some 1)) R X.xe s := fun {R} hR => by
      unfold unpackItems
      refine wpAny_bind ?_
      unfold notIterableAtAll
      refine wpAny_bind (wpAny_specialOf ll.typeIs slot_list_iter.lookup (wpAny_pure ?_))
      simp only [Bool.false_eq_true, if_false]
      refine wpAny_bind (wpAny_holding (wpAny_pyIter_list ll ?_))
      refine wpAny_bind (wpAny_holding (PySem.W.kun_draw hlt 1 0 _ _ ⟨_, Heap.get?_push_size _ rfl, rfl, rfl⟩ (ll.push _) (by simp) fun h1 it1 sb1 => ?_))
      have l1 : h1.IsList a (u1 :: us).toArray := (ll.push _).extBut sb1.extBut hlt
      obtain ⟨oi, hoi, _⟩ := id it1
      obtain ⟨ol, hol, _⟩ := id l1
      have k1 : ∀ b o, s.heap.get? b = some o → h1.get? b = some o := fun b o e => sb1.extBut b o (Nat.ne_of_lt (Heap.lt_size e)) (Heap.get?_push_of_some _ e)
      show wpAny _ _ (if [u1].length < 1 then _ else _) _ _ _
      rw [if_neg (by simp)]
      refine wpAny_bind (wpAny_holding (PySem.W.kun_collect (s := { s with heap := h1 }) (T := "list_iterator") (.inr (.inr (.inl rfl))) (Walks.list (A := X.A.in1) (I.ok.hd hc) s.heap.objs.size a hlt (u1 :: us).toArray) (fun j u st => st.1.typeIs) (k := 1) (by simp) ⟨it1, l1⟩ (Heap.lt_size hoi) (Heap.lt_size hol) (fun h2 tk k2 => ?_) (by rw [sizeLine_eq]; simp; omega)))
      have e0 : (u1 :: us).toArray.toList.drop 1 = us := by simp
      rw [e0]
      show wpAny _ _ (if us.length < 2 - 1 - 1 then _ else _) _ _ _
      rw [if_neg (by omega)]
      have e1 : us.take (us.length - (2 - 1 - 1)) = us := by simp
      have e2 : us.drop (us.length - (2 - 1 - 1)) = [] := by simp
      have K2 : ∀ b o, s.heap.get? b = some o → h2.get? b = some o := fun b o e => k2 b o (Nat.ne_of_lt (Heap.lt_size e)) (k1 b o e)
      refine wpAny_bind (wpAny_newList (s := { s with heap := h2, toks := tk }) (wpAny_pure ?_) (by rw [e1, sizeLine_eq]; omega))
      have q := hR h2 tk K2
      rw [e1, e2]
      exact q
    refine wpAny_bind (wpAny_holding (items fun h2 tk kp => ?_))
    have I2 : Inv X pins σ H { s with heap := h2, toks := tk } := I.kept kp
    have hn : H h2.objs.size = none := I2.hok.fresh (Nat.le_refl _)
    have J : Inv X pins σ (upd H h2.objs.size (.lst rest)) { s with heap := h2.push { cls := .type "list", data := .seq us.toArray }, toks := tk } :=
      I2.laid (t' := tk) (h' := h2.push { cls := .type "list", data := .seq us.toArray }) (fun b o e => Heap.get?_push_of_some _ e) (Nat.le_refl _) ⟨by rw [sizeLine_eq]; omega, us, 0, rr, Heap.get?_push_size _ rfl⟩
    exact h.run pins _ σ _ [x, .ref h2.objs.size] [u1, .ref h2.objs.size] Q J (.cons ra (.cons rfl .nil)) (hw _ hn)
end
end NX

set_option Elab.async false
set_option linter.all false
set_option maxRecDepth 100000
set_option maxHeartbeats 4000000
namespace K01
open PySem L2 NX
abbrev sIs : Stmt := top 31
theorem scIs : FnScope ["value"] ["value"] (defScope sIs) := ⟨rfl, rfl, rfl, by decide +kernel, rfl, by decide +kernel, by decide +kernel⟩
/-- no text -/
def NoStr (K : PySem.W.Frag) (H : Hp) (x : V) : Prop := ∃ t, TyX K H x t ∧ PySem.W.kitOne K t (.type "str") = some false
def spIs (K : PySem.W.Frag) : Sp := fun vs H Q _ => ∃ x, vs = [x] ∧ ((∃ z, x = .str z ∧ z.length ≤ 1000 ∧ Q (.bl (nm z)) H) ∨ (NoStr K H x ∧ Q (.bl false) H))
structure TxtN (mg : Str → Option Value) : Prop where
  gLet : ∃ t, mg "LETTERS" = some (.str "abcdefghijklmnopqrstuvwxyz" t)
  gMost : ∃ t, mg "MOST_LETTERS" = some (.int 6 t)
section
variable {P : Program} {w : World} {K : PySem.W.Frag} {mg : Str → Option Value} {base : Heap}
theorem ok_is {f : Addr} {fd : FuncData} (F : Fun K "is_name" "is_name" sIs f fd) (T : TxtB mg) (N : TxtN mg) : FnOk P w K mg base CX0 1 f fd ["value"] (spIs K) := by
  refine F.ok scIs (fun vs H Q E h => ?_) (fun cdv A outer s H vs Q E hr h => ?_)
  · obtain ⟨x, rfl, _⟩ := h
    rfl
  · obtain ⟨x, rfl, h⟩ := h
    obtain ⟨t1, gL⟩ := N.gLet
    obtain ⟨t2, gM⟩ := N.gMost
    refine ⟨_, (pss_one (ps_ret (pe_and (pe_callB call_isi (by rfl) T.bisinstance (by decide +kernel) (pa_cons (pv 0) (pa_cons (pe_bltn (v := .ty "str") (by rfl) T.bstr (by decide +kernel) rfl) pa_nil))) (pe_and (pe_chain op_le op_le pe_int (pe_callB call_len_str (by rfl) T.blen (by decide +kernel) (pa_cons (pv 0) pa_nil)) (pe_glob (v := .int 6) rfl gM ⟨_, rfl⟩)) (pe_one (pe_cmpR op_eq (pe_bm PySem.F.plainAttrs_str PySem.F.slot_str_strip PySem.F.type_str_strip mt_stripChars (pv 0) (pa_cons (pe_glob (v := .str "abcdefghijklmnopqrstuvwxyz") rfl gL ⟨_, rfl⟩) pa_nil)) pe_str (nomark _))))))), ?_⟩
    rcases h with ⟨z, rfl, hz, q⟩ | ⟨⟨t, ty, k⟩, q⟩
    · refine ⟨_, rfl, _, _, _, _, true, rfl, .ty "str", .base (.str z), kit_ty (by decide +kernel), true, rfl, iteT ?_⟩
      refine ⟨_, rfl, z, rfl, Nat.le_of_lt (small1000 hz), 1, _, rfl, rfl, _, rfl, ite2 (fun h1 => ?_) (fun h1 => ?_)⟩
      · refine ⟨_, 6, rfl, rfl, _, rfl, ite2 (fun h2 => ?_) (fun h2 => ?_)⟩
        · have e : ∀ b : Bool, b = nm z → Q (.bl b) H := fun b e => by rw [e]; exact q
          refine ⟨_, rfl, rfl, z, _, rfl, rfl, Nat.le_trans hz (by decide), by rfl, e _ ?_⟩
          have e1 := of_decide_eq_true h1
          have e2 := of_decide_eq_true h2
          have g : decide (V.str (Txt.stripChars z (Str.ofString "abcdefghijklmnopqrstuvwxyz")) = V.str (Str.ofString "")) = decide (Txt.stripChars z ("abcdefghijklmnopqrstuvwxyz" : Str) = ("" : Str)) := by
            rw [Bool.eq_iff_iff, decide_eq_true_eq, decide_eq_true_eq]
            exact ⟨fun h => by injection h, fun h => by rw [← h]⟩
          rw [g, strip_nm]
          unfold nm
          rw [decide_eq_true (by omega : 1 ≤ z.length), decide_eq_true (by omega : z.length ≤ 6)]
          rfl
        · have e1 : ¬ (z.length ≤ 6) := fun h => h2 (decide_eq_true (by omega))
          have e : nm z = false := by unfold nm; rw [decide_eq_false e1]; simp
          rw [e] at q
          exact q
      · have e1 : ¬ (1 ≤ z.length) := fun h => h1 (decide_eq_true (by omega))
        have e : nm z = false := by unfold nm; rw [decide_eq_false e1]; simp
        rw [e] at q
        exact ⟨false, rfl, iteF q⟩
    · exact ⟨_, rfl, _, _, _, _, false, rfl, .ty "str", ty, k, false, rfl, iteF q⟩
end
end K01

set_option Elab.async false
set_option linter.all false
set_option maxRecDepth 100000
set_option maxHeartbeats 4000000
/-! Sets of texts: made of a list or a tuple, their length, sorted. -/
namespace NU
open PySem PySem.Spec PyProof.Rows L2
/-- the text of a row of a set's table -/
def txOf (e : Int × Value) : Str := match e.2 with | .str x _ => x | _ => Str.empty
def Tx (wo : World) (e : Int × Value) : Prop := ∃ x u, e.2 = Value.str x u ∧ e.1 = hashStr wo x
/-- the rows of a set of the texts mem, cnt of them -/
structure Rws (wo : World) (mem : Str → Bool) (cnt : Nat) (es : Array (Int × Value)) (t : SetTable) : Prop where
  tx : ∀ e ∈ es.toList, Tx wo e
  nd : (es.toList.map txOf).Nodup
  mm : ∀ x, mem x = true ↔ x ∈ es.toList.map txOf
  few : es.size < scanBound
  fit : t.fits es.size = true
  num : es.size = cnt
  ris : Ris t.place.toList
  led : wo.params.followText "set-order" = true ∨ t.led = true
def SetT (wo : World) (h : Heap) (a : Addr) (mem : Str → Bool) (cnt : Nat) : Prop :=
  ∃ o es ep t, h.get? a = some o ∧ o.ExactSet ∧ o.data = .set es ep t ∧ Rws wo mem cnt es t
section
variable {Pg : Program} {wo : World} {h h2 : Heap} {a : Addr} {mem : Str → Bool} {cnt : Nat}
theorem SetT.mv (R : SetT wo h a mem cnt) (k : ∀ o, h.get? a = some o → h2.get? a = some o) : SetT wo h2 a mem cnt :=
  have ⟨o, es, ep, t, g, r⟩ := R
  ⟨o, es, ep, t, k o g, r⟩
theorem SetT.eqv {mem2 : Str → Bool} (R : SetT wo h a mem cnt) (e : ∀ x, mem2 x = mem x) : SetT wo h a mem2 cnt := (funext e : mem2 = mem) ▸ R
theorem tx_elems {l : List (Int × Value)} (g : ∀ e ∈ l, Tx wo e) : ElemsOf (PySem.strKind Pg wo) l := fun e he =>
  have ⟨x, u, e1, e2⟩ := g e he
  ⟨⟨x, by rw [e1]; exact PySem.strKind_is Pg wo x u, e2⟩, by rw [e1]; rfl⟩
theorem tx_is {e : Int × Value} (g : Tx wo e) (x : Str) : (PySem.strKind Pg wo).is x e.2 = true ↔ txOf e = x := by
  have ⟨y, u, e1, _⟩ := g
  unfold txOf
  rw [e1]
  constructor
  · intro z
    have ⟨u2, e2⟩ := Value.isStrOf_shape (x := x) (v := .str y u) z
    injection e2
  · intro z
    have z : y = x := z
    subst z
    exact PySem.strKind_is Pg wo y u
theorem tx_mem {l : List (Int × Value)} (g : ∀ e ∈ l, Tx wo e) (x : Str) : x ∈ l.map txOf ↔ ∃ e ∈ l, (PySem.strKind Pg wo).is x e.2 = true := by
  rw [List.mem_map]
  exact ⟨fun ⟨e, he, z⟩ => ⟨e, he, (tx_is (g e he) x).2 z⟩, fun ⟨e, he, z⟩ => ⟨e, he, (tx_is (g e he) x).1 z⟩⟩
end
section
variable {Pg : Program} {wo : World} {Ar : Around} {Er : Value → Shared → Prop} {st : Shared} {a : Addr} {mem : Str → Bool} {cnt : Nat}
/-- the rest of a set's add: the new rows are kept, or kept and laid anew -/
theorem rest_add {tell : Bool → Sem Unit} (quiet : ∀ (b : Bool) (s1 : Shared) (Q1 : Unit → Shared → Prop), Q1 () s1 → wpAny (model Pg wo) Ar (tell b) Q1 Er s1)
    {o : Obj} {es es1 : Array (Int × Value)} {ep : Nat} {t t1 : SetTable} (g : st.heap.get? a = some o) (x : o.ExactSet) (d : o.data = .set es ep t) {mem2 : Str → Bool} {c : Nat} (W : Rws wo mem2 c es1 t1)
    {was : Bool} {R : Option Bool → Shared → Prop} (out : ∀ h2, Heap.SameBut a st.heap h2 → SetT wo h2 a mem2 c → R (some true) { st with heap := h2 }) :
    wpAny (model Pg wo) Ar (storeSet a es1 t1 >>= fun _ =>
        if (!was && t1.tooFull) = true then (do tell (relayAll t1 es1 (SetTable.grown es1.size)).2.2; storeSet a (relayAll t1 es1 (SetTable.grown es1.size)).1 (relayAll t1 es1 (SetTable.grown es1.size)).2.1; pure (some true)) else pure (some true)) R Er st := by
  refine wpAny_bind (wpAny_storeSet_of g d ?_ (fits_of_scanBound W.few))
  have g1 := L2.store_at (es' := es1) (t' := t1) g d
  have b1 := Heap.SameBut.update st.heap a (Obj.putSet es1 t1)
  by_cases full : (!was && t1.tooFull) = true
  · rw [if_pos full]
    have p := relayAll_perm t1 es1 (SetTable.grown es1.size)
    have f2 := relayAll_fits t1 es1 (SetTable.grown es1.size)
    have r2 := L2.relayAll_ris t1 es1 (SetTable.grown es1.size)
    have l2 := L2.relayAll_led t1 es1 (SetTable.grown es1.size)
    revert p f2 r2 l2
    generalize relayAll t1 es1 (SetTable.grown es1.size) = Z
    obtain ⟨es2, t2, gave⟩ := Z
    intro p f2 r2 l2
    have same : es2.size = es1.size := by simpa using p.length_eq
    have few2 : es2.size < scanBound := by rw [same]; exact W.few
    refine wpAny_bind (quiet _ _ _ (wpAny_bind (wpAny_storeSet_of g1 rfl (wpAny_pure (out _ (b1.trans (Heap.SameBut.update _ a _)) ?_)) (fits_of_scanBound few2))))
    exact ⟨_, es2, _, t2, L2.store_at (es' := es2) (t' := t2) g1 rfl, x, rfl, fun e he => W.tx e (p.mem_iff.mp he), (p.map txOf).nodup_iff.mpr W.nd, fun y => (W.mm y).trans (p.map txOf).mem_iff.symm, few2, f2,
      same.trans W.num, r2, W.led.imp id fun z => l2.trans z⟩
  · rw [if_neg full]
    exact wpAny_pure (out _ b1 ⟨_, es1, _, t1, g1, x, rfl, W⟩)
theorem add_tx {x : Str} {u : Tok} {Q : Bool → Shared → Prop} (R : SetT wo st.heap a mem cnt) (room : cnt + 1 < scanBound)
    (out : ∀ h2, Heap.SameBut a st.heap h2 → SetT wo h2 a (fun y => mem y || decide (y = x)) (if mem x = true then cnt else cnt + 1) → Q (!mem x) { st with heap := h2 }) :
    wpAny (model Pg wo) Ar (setAddHashed a (.str x u) ((PySem.strKind Pg wo).hash x)) Q Er st := by
  obtain ⟨o, es, ep, t, g, ex, d, W⟩ := R
  have key : (PySem.strKind Pg wo).is x (.str x u) = true := PySem.strKind_is Pg wo x u
  have elems : ElemsOf (PySem.strKind Pg wo) es.toList := tx_elems W.tx
  have plain : (Value.str x u).scannable = true := rfl
  unfold setAddHashed setAddHashedIn
  refine wpAny_holding (wpAny_bind (wpAny_setState_of g d W.fit ?_))
  dsimp only
  rw [byScan_of plain W.few elems, if_pos rfl]
  unfold setAddByScan
  refine wpAny_bind (wpAny_bind (wpAny_rule (wpAny_bind (wpAny_setScan_of key g d W.fit elems ?_))))
  cases at_ : List.findIdx? (fun e => (PySem.strKind Pg wo).is x e.2) es.toList with
  | some j =>
    dsimp only
    obtain ⟨lt, yes, _⟩ := List.findIdx?_eq_some_iff_getElem.mp at_
    have has : mem x = true := (W.mm x).2 ((tx_mem (Pg := Pg) W.tx x).2 ⟨es.toList[j], List.getElem_mem lt, yes⟩)
    have z := out st.heap (Heap.SameBut.refl a st.heap) ⟨o, es, ep, t, g, ex, d, { W with
      mm := fun y => by
        rw [Bool.or_eq_true, decide_eq_true_eq]
        exact ⟨fun q => (W.mm y).1 (q.elim id fun e => by rw [e]; exact has), fun q => .inl ((W.mm y).2 q)⟩
      num := by rw [if_pos has]; exact W.num }⟩
    rw [has] at z
    exact wpAny_pure (wpAny_pure z)
  | none =>
    dsimp only
    have no : x ∉ es.toList.map txOf := fun z => by
      obtain ⟨e, he, q⟩ := (tx_mem (Pg := Pg) W.tx x).1 z
      rw [List.findIdx?_eq_none_iff.mp at_ e he] at q
      cases q
    have not : mem x = false := Bool.eq_false_iff.mpr fun z => no ((W.mm x).1 z)
    have hush : ∀ (b : Bool) {s1 : Shared} {Q1 : Unit → Shared → Prop}, Q1 () s1 → wpAny (model Pg wo) Ar (match b with | true => rule "set.scan.the-table-gave-way" | false => pure ()) Q1 Er s1
      | true, _, _, q => wpAny_rule q
      | false, _, _, q => wpAny_pure q
    have p := layNew_perm t es ((PySem.strKind Pg wo).hash x) (.str x u)
    have f1 := layNew_fits t es ((PySem.strKind Pg wo).hash x) (.str x u)
    have r1 := L2.layNew_ris t es ((PySem.strKind Pg wo).hash x) (.str x u) W.ris
    have l1 := L2.layNew_led t es ((PySem.strKind Pg wo).hash x) (.str x u)
    revert p f1 r1 l1
    generalize layNew t es ((PySem.strKind Pg wo).hash x) (.str x u) = Z
    obtain ⟨es1, t1, was, gave⟩ := Z
    intro p f1 r1 l1
    dsimp only at p f1 r1 l1 ⊢
    rw [Array.toList_push] at p
    have p : es1.toList.Perm (((PySem.strKind Pg wo).hash x, Value.str x u) :: es.toList) := p.trans (List.perm_append_singleton _ _)
    have pt : (es1.toList.map txOf).Perm (x :: es.toList.map txOf) := p.map txOf
    have size1 : es1.size = cnt + 1 := by rw [← W.num]; simpa using p.length_eq
    have V : ∀ t2 : SetTable, t2.fits es1.size = true → Ris t2.place.toList → (wo.params.followText "set-order" = true ∨ t2.led = true) → Rws wo (fun y => mem y || decide (y = x)) (cnt + 1) es1 t2 := fun t2 f r l =>
      { tx := fun e he => (List.mem_cons.mp (p.mem_iff.mp he)).elim (fun z => by rw [z]; exact ⟨x, u, rfl, rfl⟩) (W.tx e)
        nd := pt.nodup_iff.mpr (List.nodup_cons.mpr ⟨no, W.nd⟩)
        mm := fun y => by rw [Bool.or_eq_true, decide_eq_true_eq, W.mm y, pt.mem_iff, List.mem_cons]; exact Or.comm
        few := by rw [size1]; exact room
        fit := f
        num := size1
        ris := r
        led := l }
    have led1 : wo.params.followText "set-order" = true ∨ t1.led = true := W.led.imp id fun z => l1.trans z
    have fin : ∀ h2, Heap.SameBut a st.heap h2 → SetT wo h2 a (fun y => mem y || decide (y = x)) (cnt + 1) → Q true { st with heap := h2 } := fun h2 b r => by
      have z := out h2 b
      rw [not] at z
      exact z r
    refine wpAny_bind (hush _ ?_)
    split
    · refine wpAny_bind ?_
      rw [hashByValue_scannable 8 plain]
      refine wpAny_pure (rest_add (fun b s1 Q1 q => ?_) g ex d (V _ ?_ ?_ ?_) fun h2 b r => wpAny_pure (fin h2 b r))
      · cases b <;> first | exact wpAny_pure q | exact wpAny_rule q
      · first | (split <;> first | exact f1 | exact SetTable.fits_plain_off f1) | exact f1
      · first | (split <;> exact r1) | exact r1
      · first | (split <;> exact led1) | exact led1
    · refine wpAny_bind (wpAny_pure ?_)
      rw [if_pos rfl]
      refine rest_add (fun b s1 Q1 q => ?_) g ex d (V t1 f1 r1 led1) fun h2 b r => wpAny_pure (fin h2 b r)
      cases b <;> first | exact wpAny_pure q | exact wpAny_rule q
end

section
variable {Pg : Program} {wo : World} {Ar : Around} {Er : Value → Shared → Prop} {st : Shared}
abbrev bare (wo : World) : Obj := { cls := .type "set", dict := none, data := .set #[] 0 (.fresh 0 0 (!wo.params.followText "set-order")) }
theorem led0 (wo : World) : wo.params.followText "set-order" = true ∨ (SetTable.fresh 0 0 (!wo.params.followText "set-order")).led = true := by
  show _ ∨ (!wo.params.followText "set-order") = true
  cases wo.params.followText "set-order"
  · exact .inr rfl
  · exact .inl rfl
theorem setT_bare {h : Heap} {a : Addr} (g : h.get? a = some (bare wo)) : SetT wo h a (fun _ => false) 0 :=
  ⟨_, #[], 0, _, g, ⟨rfl, rfl, rfl⟩, rfl, { tx := nofun, nd := List.nodup_nil, mm := fun x => ⟨nofun, nofun⟩, few := by decide, fit := rfl, num := rfl, ris := List.Pairwise.nil, led := led0 wo }⟩
/-- the texts of xs that are new, from the last on: as many as the set of xs has members -/
def many : List Str → Nat
  | [] => 0
  | x :: l => if x ∈ l then many l else many l + 1
theorem many_le : ∀ l : List Str, many l ≤ l.length
  | [] => Nat.le_refl 0
  | x :: l => by
    have q := many_le l
    unfold many
    rw [List.length_cons]
    split <;> omega
theorem many_snoc (x : Str) : ∀ l : List Str, many (l ++ [x]) = if x ∈ l then many l else many l + 1
  | [] => rfl
  | y :: l => by
    have q := many_snoc x l
    show many (y :: (l ++ [x])) = _
    unfold many
    rw [q]
    by_cases e : x = y
    · subst e
      by_cases m : x ∈ l <;> simp [m]
    · have e2 : ¬ y = x := fun z => e z.symm
      by_cases m : x ∈ l <;> by_cases n : y ∈ l <;> simp [m, n, e, e2]
theorem upd_tx {I : Addr} {fp wr : List Addr} {G : Array GenState → Array GenState → Prop} {n : Nat} {Pv : Nat → Value → Prop} {St : Nat → Shared → Prop} {R : Result → Shared → Prop} (W : WalksS Pg wo Ar.in1 I fp wr G n Pv St) (D : Addr) (far : D ∉ fp)
    (xs : List Str) (len : n = xs.length) (room : xs.length + 1 < scanBound) (val : ∀ i v, Pv i v → ∃ x u, xs[i]? = some x ∧ v = .str x u) :
    ∀ (left i : Nat) (t : Shared), n - i = left → i ≤ n → St i t → SetT wo t.heap D (fun y => decide (y ∈ xs.take i)) (many (xs.take i)) →
      (∀ t2, Moved (D :: wr) G t t2 → SetT wo t2.heap D (fun y => decide (y ∈ xs)) (many xs) → R (.ok (.ret .none)) t2) → codeAny (model Pg wo) Ar (.builtin "set.update.loop" ⟨[.ref D, .ref I], []⟩) R t := by
  have off : D ∉ wr := fun z => far (W.sub _ z)
  have sub : ∀ b ∈ wr, b ∈ D :: wr := fun b z => List.mem_cons_of_mem _ z
  intro left
  induction left with
  | zero =>
    intro i t e le here S out
    obtain rfl : i = n := by omega
    refine codeAny_builtin F.entry_set_update_loop ?_
    rw [Around.under_plainId F.plain_set_update_loop _]
    refine wpAny_bind (m := pyNext (.ref I)) (W.done t _ _ here fun t2 mv => wpAny_pure (out t2 (mv.mono sub) ?_))
    have all : xs.take i = xs := List.take_of_length_le (by omega)
    rw [all] at S
    exact S.mv fun o z => mv.heap D o off z
  | succ left ih =>
    intro i t e le here S out
    have lt : i < n := by omega
    refine codeAny_builtin F.entry_set_update_loop ?_
    rw [Around.under_plainId F.plain_set_update_loop _]
    refine wpAny_bind (m := pyNext (.ref I)) (W.item i t _ _ lt here fun v t2 pv next mv => ?_)
    obtain ⟨x, u, at_, rfl⟩ := val i v pv
    have S2 : SetT wo t2.heap D (fun y => decide (y ∈ xs.take i)) (many (xs.take i)) := S.mv fun o z => mv.heap D o off z
    refine wpAny_bind (m := holding [Value.str x u] (setAdd D (.str x u))) (wpAny_holding ?_)
    unfold setAdd
    have low : many (xs.take i) ≤ i := Nat.le_trans (many_le _) (by rw [List.length_take]; omega)
    refine wpAny_holding (wpAny_bind ((PySem.strKind Pg wo).pyHash (k := x) (PySem.strKind_is _ _ _ _) (add_tx (st := { t2 with toks := t2.toks + 1 }) S2 (by omega) fun h3 but S3 => ?_)))
    have more : xs.take (i + 1) = xs.take i ++ [x] := by rw [List.take_add_one, at_]; rfl
    have S4 : SetT wo h3 D (fun y => decide (y ∈ xs.take (i + 1))) (many (xs.take (i + 1))) := by
      rw [more, many_snoc]
      have z : (fun y => decide (y ∈ xs.take i ++ [x])) = fun y => decide (y ∈ xs.take i) || decide (y = x) := funext fun y => by simp [List.mem_append]
      rw [z]
      by_cases m : x ∈ xs.take i
      · rw [if_pos m]
        rw [if_pos (decide_eq_true m)] at S3
        exact S3
      · rw [if_neg m]
        rw [if_neg (by simpa using m)] at S3
        exact S3
    have keep : ∀ b o, b ≠ D → t2.heap.get? b = some o → h3.get? b = some o := fun b o ne z => by rw [but.2 b ne]; exact z
    refine wpAny_pure ⟨plainId_quiet F.plain_set_update_loop _, ih (i + 1) _ (by omega) lt (W.frame _ t2 _ _ next (Nat.le_succ _) fun b z o q => keep b o (fun e2 => far (e2 ▸ z)) q) S4 fun t4 mv2 S5 => out t4 ?_ S5⟩
    exact Moved.trans W.gtrans ((mv.mono sub).then_heap (Nat.le_succ _) fun b o z q => keep b o (fun e2 => z (e2 ▸ List.mem_cons_self)) q) mv2
/-- set(xs), xs a list or a tuple of texts -/
theorem call_set {l : Addr} {its : Array Value} (xs : List Str) {Q : Value → Shared → Prop} (cold : Ar.handled = none) (hl : st.heap.IsList l its ∨ st.heap.IsTuple l its) (each : StrsAre its.toList xs) (room : xs.length + 1 < scanBound)
    (out : ∀ h2 tk, SetT wo h2 st.heap.objs.size (fun y => decide (y ∈ xs)) (many xs) → (∀ b o, st.heap.get? b = some o → h2.get? b = some o) → Q (.ref st.heap.objs.size) { st with heap := h2, toks := tk }) :
    wpAny (model Pg wo) Ar (call (.type "set") [.ref l]) Q Er st := by
  have len : its.size = xs.length := by simpa using each.length
  have val : ∀ (i : Nat) (v : Value), its[i]? = some v → ∃ x u, xs[i]? = some x ∧ v = .str x u := fun i v z => by
    have lt : i < xs.length := by rw [← len]; exact (Array.getElem?_eq_some_iff.mp z).1
    obtain ⟨u, e⟩ := SS.strs_at each i v (by rw [Array.getElem?_toList]; exact z)
    exact ⟨xs[i], u, List.getElem?_eq_getElem lt, by rw [e, List.getD_eq_getElem?_getD, List.getElem?_eq_getElem lt]; rfl⟩
  have lo : l < st.heap.objs.size := by
    rcases hl with ⟨o, g, _⟩ | ⟨o, g, _⟩ <;> exact Heap.lt_size g
  obtain ⟨c, tl, hmro⟩ := PySem.F.called_set.mro
  have hmade := PySem.F.called_set.made
  have hsub := PySem.F.called_set.sub
  refine wpAny_call (codeAny_of_tree ?_)
  show wpAny _ _ (callAny (.type "set") _) _ _ _
  refine wpAny_pure ⟨Code.quiet_builtin _ (by decide +kernel), codeAny_builtin PySem.F.entry_type_call ?_⟩
  rw [Around.under_plain (weight_type_call_type "set" [.ref l] []) rfl]
  have h1 := PySem.F.called_set.notType
  have h2 := PySem.F.called_set.canCreate
  have hct := PySem.F.typeCall_set_1 (.ref l)
  repeat (any_goals (first | assumption | wp_step))
  refine codeAny_mono (L2.code_set_led1 (.ref l) (E := Er) (Q₁ := fun v t => v = .ref st.heap.objs.size ∧ t = { st with heap := st.heap.push (bare wo) }) ⟨rfl, rfl⟩) fun r t z => ?_
  rcases r with e | fl
  · exact z
  cases fl with
  | ret v =>
    obtain ⟨rfl, rfl⟩ := z
    have gD : (st.heap.push (bare wo)).get? st.heap.objs.size = some (bare wo) := Heap.get?_push_size _ rfl
    have isD : Shared.TypeIs { st with heap := st.heap.push (bare wo) } (.ref st.heap.objs.size) "set" := ⟨_, gD, rfl⟩
    have sz : (st.heap.push (bare wo)).objs.size = st.heap.objs.size + 1 := Heap.size_push ..
    have hli := PySem.F.called_set.init.lookup
    have hbi := PySem.F.called_set.init.bind (.ref st.heap.objs.size)
    repeat (any_goals (first | assumption | wp_step))
    refine codeAny_mono (codeAny_call_builtin (R := wants (fun r t => r = .none ∧ ∃ h2 tk, t = { st with heap := h2, toks := tk } ∧ SetT wo h2 st.heap.objs.size (fun y => decide (y ∈ xs)) (many xs) ∧ (∀ b o, st.heap.get? b = some o → h2.get? b = some o)) Er)
      PySem.F.called_set.init.plain PySem.F.entry_set_init (check_set_init_1 isD ?_)) fun r2 t2 z2 => ?_
    · have cold3 : Ar.in1.in1.in1.handled = none := by simp [cold]
      have start : ∀ {h : Heap}, h.get? st.heap.objs.size = some (bare wo) → SetT wo h st.heap.objs.size (fun y => decide (y ∈ xs.take 0)) (many (xs.take 0)) := fun g => (setT_bare g).eqv fun y => by simp
      have neI : l ≠ (st.heap.push (bare wo)).objs.size := Nat.ne_of_lt (by rw [sz]; exact Nat.lt_succ_of_lt lo)
      have far : st.heap.objs.size ∉ [(st.heap.push (bare wo)).objs.size, l] := by
        simp only [List.mem_cons, List.not_mem_nil, or_false, not_or]
        exact ⟨Nat.ne_of_lt (by rw [sz]; exact Nat.lt_succ_self _), Nat.ne_of_gt lo⟩
      have old : ∀ b o, st.heap.get? b = some o → b ∉ [st.heap.objs.size, (st.heap.push (bare wo)).objs.size] := fun b o g => by
        have lb := Heap.lt_size g
        simp only [List.mem_cons, List.not_mem_nil, or_false, not_or]
        exact ⟨Nat.ne_of_lt lb, Nat.ne_of_lt (by rw [sz]; exact Nat.lt_succ_of_lt lb)⟩
      have ne : (Value.type "tuple" == Value.type "dict") = false := by decide
      have ne2 : (Value.type "list" == Value.type "dict") = false := by decide
      rcases hl with hl | hl
      · obtain ⟨⟨ocls, odict, odata, oslots⟩, g, hc, nl, hd⟩ := hl
        simp only at hc hd
        subst hc; subst hd
        have g2 : (st.heap.push (bare wo)).get? l = some { cls := .type "list", dict := odict, data := .seq its nl, slots := oslots } := Heap.get?_push_of_some _ g
        have s1 := PySem.F.sub_list_set
        have s2 := PySem.F.sub_list_frozenset
        have hl2 : (st.heap.push (bare wo)).IsList l its := ⟨_, g2, rfl, nl, rfl⟩
        unfold Builtin.«set.__init__» noKeywords Builtin.Frozenset.updateFrom
        generalize hPI : pyIter = PI
        wp_walk
        subst hPI
        refine wpAny_pyIter_list hl2 (wpAny_bind (wpAny_runValue ?_))
        refine upd_tx (Walks.list cold3 _ l neI its).toS st.heap.objs.size far xs len room val (its.size - 0) 0 _ rfl (Nat.zero_le _) ⟨⟨_, Heap.get?_push_size _ rfl, rfl, rfl⟩, hl2.push _⟩
          (start (Heap.get?_push_of_some _ gD)) fun t4 mv S => ?_
        obtain ⟨h4, g4, d4, k4, o4⟩ := t4
        have eg : g4 = st.gens := mv.gens
        have ed : d4 = st.drawn := mv.drawn
        have eo : o4 = st.os := mv.os
        subst eg ed eo
        refine wpAny_pure (wpAny_pure ⟨rfl, h4, k4, rfl, S, fun b o q => mv.heap b o (old b o q) (Heap.get?_push_of_some _ (Heap.get?_push_of_some _ q))⟩)
      · obtain ⟨⟨ocls, odict, odata, oslots⟩, g, hc, nl, hd⟩ := hl
        simp only at hc hd
        subst hc; subst hd
        have g2 : (st.heap.push (bare wo)).get? l = some { cls := .type "tuple", dict := odict, data := .seq its nl, slots := oslots } := Heap.get?_push_of_some _ g
        have s1 := PySem.F.sub_tuple_set
        have s2 := PySem.F.sub_tuple_frozenset
        have hl2 : (st.heap.push (bare wo)).IsTuple l its := ⟨_, g2, rfl, nl, rfl⟩
        unfold Builtin.«set.__init__» noKeywords Builtin.Frozenset.updateFrom
        generalize hPI : pyIter = PI
        wp_walk
        subst hPI
        refine wpAny_pyIter_tuple hl2 (wpAny_bind (wpAny_runValue ?_))
        refine upd_tx (Walks.tuple cold3 _ l neI its).toS st.heap.objs.size far xs len room val (its.size - 0) 0 _ rfl (Nat.zero_le _) ⟨⟨_, Heap.get?_push_size _ rfl, rfl, rfl⟩, hl2.push _⟩
          (start (Heap.get?_push_of_some _ gD)) fun t4 mv S => ?_
        obtain ⟨h4, g4, d4, k4, o4⟩ := t4
        have eg : g4 = st.gens := mv.gens
        have ed : d4 = st.drawn := mv.drawn
        have eo : o4 = st.os := mv.os
        subst eg ed eo
        refine wpAny_pure (wpAny_pure ⟨rfl, h4, k4, rfl, S, fun b o q => mv.heap b o (old b o q) (Heap.get?_push_of_some _ (Heap.get?_push_of_some _ q))⟩)
    · rcases r2 with e | fl
      · exact z2
      cases fl with
      | ret r =>
        obtain ⟨rfl, h4, tk, rfl, S, k⟩ := z2
        repeat (any_goals (first | assumption | wp_step))
        exact out _ _ S k
      | _ => exact z2.elim
  | _ => exact z.elim
end
end NU

set_option Elab.async false
set_option linter.all false
set_option maxRecDepth 100000
set_option maxHeartbeats 4000000
/-! Sets of texts under the invariant: set(xs), len(set), sorted(set). -/
namespace NU
open PySem PySem.Spec PyProof.Rows L2
section
variable {Pg : Program} {wo : World} {Ar : Around} {Er : Value → Shared → Prop} {st : Shared} {a : Addr}
/-- texts in the order of their first row are listed once: how many -/
theorem many_of : ∀ l : List Str, l.Nodup → many l = l.length
  | [], _ => rfl
  | x :: l, d => by
    have ⟨d1, d2⟩ := List.nodup_cons.mp d
    show (if x ∈ l then many l else many l + 1) = l.length + 1
    rw [if_neg d1, many_of l d2]
theorem texts_of : ∀ l : List Value, (∀ v ∈ l, ∃ x u, v = Value.str x u) → ∃ xs, StrsAre l xs ∧ xs = l.map fun v => txOf (0, v)
  | [], _ => ⟨[], .nil, rfl⟩
  | v :: l, h => by
    obtain ⟨x, u, rfl⟩ := h v List.mem_cons_self
    obtain ⟨xs, s, e⟩ := texts_of l fun z hz => h z (List.mem_cons_of_mem _ hz)
    exact ⟨x :: xs, .cons x u s, by rw [e]; rfl⟩
theorem sorted_tx {mem : Str → Bool} {cnt : Nat} {Q : Value → Shared → Prop} (R : SetT wo st.heap a mem cnt) (cold : Ar.handled = none) (small : cnt < 64)
    (out : ∀ t p (arr : Array Value) (c : Nat) (ys : List Str), (∀ b o, st.heap.get? b = some o → t.heap.get? b = some o) → t.gens = st.gens → t.os = st.os → st.heap.objs.size ≤ p →
      t.heap.get? p = some (seqObj "list" arr c) → StrsAre arr.toList ys → sortedS ys = true → ys.Nodup → (∀ y, y ∈ ys ↔ mem y = true) → ys.length = cnt → Q (.ref p) t) :
    wpAny (model Pg wo) Ar (call (.builtin "sorted") [.ref a]) Q Er st := by
  obtain ⟨o, es, ep, t, g, ex, d, W⟩ := R
  refine Calls.call_function_entry kind_sorted plain_sorted entry_sorted (args_sorted1 _) ?_
  unfold Builtin.«sorted»
  refine wpAny_bind (m := checkCount "sorted" 1 1 _) (wpAny_pure (wpAny_bind (L2.collect_set (A := Ar.in1) cold ⟨o, g, ex.1, d⟩ W.fit W.few W.ris W.led fun t1 vs k1 z1 g1 o1 pm => ?_)))
  have lv : vs.length = cnt := by rw [pm.length_eq, List.length_map, Array.length_toList]; exact W.num
  obtain ⟨xs, are, exs⟩ := texts_of vs fun v hv => by
    obtain ⟨e, he, q⟩ := List.mem_map.mp (pm.mem_iff.mp hv)
    obtain ⟨x, u, e1, _⟩ := W.tx e he
    exact ⟨x, u, q ▸ e1⟩
  have px : xs.Perm (es.toList.map txOf) := by
    have q := pm.map fun v => txOf (0, v)
    rw [List.map_map, ← exs] at q
    exact q
  refine wpAny_bind (wpAny_newList ?_ (by rw [lv, sizeLine_eq]; omega))
  have oL : (t1.heap.push (seqObj "list" vs.toArray 0)).get? t1.heap.objs.size = some (seqObj "list" vs.toArray 0) := Heap.get?_push_size _ rfl
  refine wpAny_bind (wpAny_holding (wpAny_call_entry slot_list_sort ⟨_, oL, rfl⟩ entry_list_sort (list_sort_treeK strKind_oneLt (s := { t1 with heap := t1.heap.push (seqObj "list" vs.toArray 0) }) oL are.keysOf (fun v1 v2 rest e => keyKind_strs (by rw [← e]; exact are)) (by rw [lv]; exact small)
    fun st' hp hs => ⟨_, rfl, ?_⟩) (args_list_sort _)))
  obtain ⟨ys, q1, q2, q3⟩ := sorted_out_str are hp hs
  obtain ⟨c, hc⟩ := sortedHeap_at (vs := vs) (out := (arrOf st').map (·.2)) oL
  have py := q2.trans px
  refine wpAny_pure ⟨_, rfl, out _ t1.heap.objs.size _ c ys (fun b u e => ?_) g1 o1 z1 hc q1 q3 (py.nodup_iff.mpr W.nd) (fun y => py.mem_iff.trans (W.mm y).symm) (by rw [py.length_eq, List.length_map, Array.length_toList]; exact W.num)⟩
  have q := k1 b u e
  have lb := Heap.lt_size q
  show (sortedHeap (t1.heap.push (seqObj "list" vs.toArray 0)) t1.heap.objs.size vs _).get? b = some u
  rw [sortedHeap_old (Nat.ne_of_lt lb) (by rw [size_push']; exact Nat.lt_succ_of_lt lb)]
  exact Heap.get?_push_of_some _ q
end
section
variable {X : Cx}
/-- the set of the texts xs at a -/
def SetX (wo : World) (a : Addr) (xs : List Str) : HO := .ext fun h => SetT wo h a (fun y => decide (y ∈ xs)) (many xs)
theorem setX_get {pins : List (Addr × Obj)} {σ : L2.St} {H : Hp} {s : Shared} {a : Addr} {xs : List Str} (I : Inv X pins σ H s) (g : H a = some (SetX X.w a xs)) : SetT X.w s.heap a (fun y => decide (y ∈ xs)) (many xs) := (I.hok a _ g).1
/-- set(xs), xs a list or a tuple of texts -/
def rSetX (K : PySem.W.Frag) (wo : World) : List V → Hp → VK → Prop := fun vs H Q => ∃ (l : Addr) (xs : List Str), vs = [.ref l] ∧ (SqL K H l (xs.map V.str) ∨ SqT K H l (xs.map V.str)) ∧ xs.length ≤ 1000 ∧ ∀ p, H p = none → Q (.ref p) (upd H p (SetX wo p xs))
theorem cr_setX (hc : X.calm = true) : CallR X (.type "set") (rSetX X.K X.w) := by
  intro pins s σ H vs us Q I r h
  obtain ⟨l, xs, rfl, at_, few, q⟩ := h
  rw [Vals.ref1 r]
  have room : xs.length + 1 < scanBound := Nat.lt_of_le_of_lt (Nat.succ_le_succ few) (by decide)
  have look : ∃ its : Array Value, Vals (xs.map V.str) its.toList ∧ (s.heap.IsList l its ∨ s.heap.IsTuple l its) := by
    rcases at_ with z | z
    · obtain ⟨its, rv, pl, _⟩ := I.list z
      exact ⟨its.toArray, rv, .inl pl.isList⟩
    · obtain ⟨its, rv, pl, _⟩ := I.tuple z
      exact ⟨its.toArray, rv, .inr pl⟩
  obtain ⟨its, rv, pl⟩ := look
  refine call_set xs (I.ok.hd hc) pl rv.strs room fun h2 tk R k => ?_
  refine ⟨.ref _, upd H s.heap.objs.size (SetX X.w s.heap.objs.size xs), I.laid (t' := tk) k (Nat.le_refl _) ⟨R, ?_, fun h3 h4 p k2 => SetT.mv p k2⟩, rfl, q _ (I.hok.fresh (Nat.le_refl _))⟩
  have ⟨o, _, _, _, g, _⟩ := R
  exact ⟨o, g⟩
/-- len of a set of texts -/
def rLenX (wo : World) : List V → Hp → VK → Prop := fun vs H Q => ∃ (a : Addr) (xs : List Str), vs = [.ref a] ∧ H a = some (SetX wo a xs) ∧ Q (.int ((many xs : Nat) : Int)) H
theorem cr_lenX : CallR X (.builtin "len") (rLenX X.w) := by
  intro pins s σ H vs us Q I r h
  obtain ⟨a, xs, rfl, g, q⟩ := h
  obtain ⟨o, es, ep, t, go, ex, d, W⟩ := setX_get I g
  rw [Vals.ref1 r]
  have low : es.size < 2 ^ 24 := Nat.lt_of_lt_of_le W.few (by decide)
  refine call_len_set go ex d W.fit (by omega) ?_
  rw [W.num]
  exact ⟨.int ((many xs : Nat) : Int), H, I.tok _, ⟨_, rfl⟩, q⟩
/-- sorted of a set of fewer than 64 texts -/
def rSrtX (wo : World) : List V → Hp → VK → Prop := fun vs H Q => ∃ (a : Addr) (xs : List Str), vs = [.ref a] ∧ H a = some (SetX wo a xs) ∧ xs.length < 64 ∧
  ∀ (ys : List Str) (p : Addr), sortedS ys = true → ys.Nodup → (∀ y, y ∈ ys ↔ y ∈ xs) → H p = none → Q (.ref p) (upd H p (.lst (ys.map V.str)))
theorem cr_srtX (hc : X.calm = true) : CallR X (.builtin "sorted") (rSrtX X.w) := by
  intro pins s σ H vs us Q I r h
  obtain ⟨a, xs, rfl, ga, few, q⟩ := h
  rw [Vals.ref1 r]
  have low := many_le xs
  refine sorted_tx (setX_get I ga) (I.ok.hd hc) (by omega) fun t p arr c ys k g o lp gp are srt nd mm len => ?_
  have fits : (ys.map V.str).length ≤ sizeLine := by rw [List.length_map, len, sizeLine_eq]; omega
  have new : H p = none := I.hok.fresh lp
  have J : Inv X pins σ (upd H p (.lst (ys.map V.str))) { s with heap := t.heap, gens := t.gens, drawn := t.drawn, toks := t.toks } :=
    I.call (ch := []) (Un.laid k lp new) (I.hok.laid k lp ⟨fits, arr.toList, c, vals_of_strs are, gp⟩) (by rw [g]; exact I.bare) nofun
  have same : t = { s with heap := t.heap, gens := t.gens, drawn := t.drawn, toks := t.toks } := by
    obtain ⟨_, _, _, _, _⟩ := t
    subst o
    rfl
  rw [same]
  exact ⟨.ref p, _, J, rfl, q ys p srt nd (fun y => (mm y).trans decide_eq_true_iff) new⟩
end
end NU

set_option Elab.async false
set_option linter.all false
set_option maxRecDepth 100000
set_option maxHeartbeats 4000000
/-! Defs that raise where nothing is handled, said with the context None: what they ask; the weaker promise. -/
namespace NN
open PySem PySem.Spec PyProof.Rows L2
section
variable {P : Program} {w : World} {K : PySem.W.Frag} {mg : Str → Option Value} {base : Heap} {k : Nat} {f : Addr} {fd : FuncData} {ps : List Str} {sp : Sp}
theorem cx_less {outer : List Env} {H : Hp} {s s' : Shared} {E : XK} {u : Value} (h : L2N.CX P w outer H s E u s') : L2.CX P w outer H s E u s' :=
  have ⟨a, B, H2, cls, d, e, fl, r⟩ := h
  ⟨a, B, H2, cls, d, e, L2H.flyingZ_imp (fun _ z => z.zc) fl, r⟩
theorem cr_less {outer : List Env} {H : Hp} {s s' : Shared} {Q : VK} {E : XK} {r : Result} (h : CR (L2N.CX P w) outer P w H s Q E r s') : CR (L2.CX P w) outer P w H s Q E r s' := by
  cases r with
  | error e => exact cx_less h
  | ok fl => cases fl <;> exact h
theorem fnOk_less (F : FnOk P w K mg base (L2N.CX P w) k f fd ps sp) : FnOk P w K mg base (L2.CX P w) k f fd ps sp :=
  ⟨F.len, fun A outer s H args us vs Q E hr e0 hb r h => codeAny_mono (F.run A outer s H args us vs Q E hr e0 hb r h) fun _ _ q => cr_less q⟩
theorem fnR_less (F : FnR P w K mg base (L2N.CX P w) k f sp) : FnR P w K mg base (L2.CX P w) k f sp :=
  fun A outer s H us vs Q E hr e0 r h => codeAny_mono (F A outer s H us vs Q E hr e0 r h) fun _ _ q => cr_less q
theorem upN : StX.CXUp (L2N.CX P w) := by
  intro outer s H s2 H2 E e s' un kp ho h
  obtain ⟨a, B, H3, cls, d, ea, fl, hok, ub, na, os, ag, he⟩ := h
  refine ⟨a, B, H3, cls, d, ea, fl, hok, { keep := fun b o q n hb => ?_, slot := fun b o q hb => ub.slot b o (kp b o q) hb, free := fun b o q n => ?_, there := fun b o q hb => ub.there b o (kp b o q) hb, tups := fun b xs q => ub.tups b xs (un.tups b xs q), frzs := fun b o xs q => ub.frzs b o xs (un.frzs b o xs q), tbls := fun b ts q => ?_ }, na, os.trans ho, ag, he⟩
  · exact ub.keep b o (kp b o q) (un.free b o q n (by simp)) hb
  · exact ub.free b o (kp b o q) (un.free b o q n (by simp))
  · obtain ⟨m1, e1⟩ := un.tbls b ts q
    obtain ⟨m2, e2⟩ := ub.tbls b _ e1
    exact ⟨m1 ++ m2, e2.trans (by rw [Array.append_assoc])⟩
/-- a def of the text that may raise, its exceptions with the context None -/
theorem okN {x qual : Str} {st : Stmt} {N : List Str} (F : Fun K x qual st f fd) (S : FnScope N ps (defScope st)) (len : ∀ vs H Q E, sp vs H Q E → vs.length = ps.length)
    (run : ∀ (cdv : Value) (A : Around) (outer : List Env) (s : Shared) (H : Hp) (vs : List V) (Q : VK) (E : XK), Room k (A.deeper (envOfC qual (defScope st) s.heap.objs.size f cdv)) → sp vs H Q E →
      ∃ t, PSs (cxOf (L2N.CX P w) P w K mg base N qual (defScope st) f cdv A outer s H E) (defBody st) t ∧ t { nx := fun _ H2 => Q .non H2, rt := Q } (start N vs) H) : FnOk P w K mg base (L2N.CX P w) (k + 1) f fd ps sp := by
  obtain ⟨oc, od, kV, doc, pm, an, cdv, ct, osl, e, lk, cd⟩ := F.ex
  subst e
  exact fn_of lk cd S len fun A outer s H vs Q E hr h => run cdv A outer s H vs Q E hr h
end
theorem passN {X : Cx} {E : XK} (tk : L2N.Takes X (fun cls d _ H => E cls d H)) : Passes (L2N.CX X.prog X.w) X E := fun pins σ H s e s' I h => L2N.passAt tk σ pins H s e s' I h
section
variable {X : Cx} {CX : CXT} {x : Str} {e : Expr} {es : List Expr} {ta : TA} {p pos : Pos} {C fI : Addr} {k : Nat} {fd : FuncData} {ps : List Str} {sp : Sp}
/-- C(e, ..), an exception class of ours with an __init__, where nothing is handled: made with the context None -/
theorem pmkN (T : OexC X.K C) (iC : PySem.W.findIn X.K (.ref C) "__init__" = some (some (.ref fI))) (tI : PySem.W.typeIn X.K (.ref fI) = some (.type "function"))
    (F1 : FnOk X.prog X.w X.K X.mg X.base CX k fI fd ps sp) (hr : Room (k + 1) X.A) (hb : Binds X.K fd ps []) (hx : Passes CX X (fun _ _ _ => False)) (hg : Gl X x) (hm : X.mg x = some (.ref C)) (ha : PA X (e :: es) ta)
    (hdb : (x == ("__debug__" : Str)) = false := by decide) (he : starEach (e :: es) X.env = (false, eval e X.env) :: starEach es X.env := by rfl) (hpl : (backTo pos (starEach es X.env)).any (·.1) = false := by rfl) :
    L2N.PMk X (.Call (.Name x p) (e :: es) [] pos) (tMkO C sp [] ta) := by
  intro pins s σ H Q I h
  have tc := T.cls
  obtain ⟨nm, q, N, bs, bm, sn, sub, ab, col, dd, k0, k1, k2, k3, k5, hC, hbm⟩ := tc
  refine wpAny_Call_Name_kw (ld_glob I hg hm ?_ hdb)
  refine PySem.W.callWith_K (h₀ := X.base) I.ok.mod.kin T.kC (thn (ha.run pos pins s σ H _ I h) fun us s1 ⟨vs, H1, I1, r1, few, q1⟩ => ⟨I1.kIn, ?_⟩) he hpl
  show wpAny _ _ (call (.ref C) us) _ _ _
  obtain ⟨hp, g, dr, tk, os⟩ := s1
  have up : hp.objs.size ≤ hp.objs.size + 1 := Nat.le_succ _
  have new : H1 (hp.objs.size + 1) = none := I1.hok.fresh up
  have ask := q1 (hp.objs.size + 1) new
  rw [List.append_nil] at ask
  let hp2 : Heap := (hp.push (PySem.W.kdv_tup us)).push (PySem.HandSPX.excO C hp.objs.size)
  have keeps : ∀ b o, hp.get? b = some o → hp2.get? b = some o := fun b o z => Heap.get?_push_of_some _ (Heap.get?_push_of_some _ z)
  have at_ : hp2.get? (hp.objs.size + 1) = some (PySem.HandSPX.excO C hp.objs.size) := by
    show ((hp.push (PySem.W.kdv_tup us)).push (PySem.HandSPX.excO C hp.objs.size)).get? (hp.objs.size + 1) = _
    heap_get
  have I2 : Inv X pins σ (upd H1 (hp.objs.size + 1) (exo (hp.objs.size + 1) C none)) ⟨hp2, g, dr, tk, os⟩ := I1.laid (t' := tk) (a := hp.objs.size + 1) (o := exo (hp.objs.size + 1) C none) (h' := hp2) keeps up (exo_ok at_)
  have r2 : Vals (V.ref (hp.objs.size + 1) :: vs) (Value.ref (hp.objs.size + 1) :: us) := .cons rfl r1
  have len : (Value.ref (hp.objs.size + 1) :: us ++ []).length = ps.length := by
    rw [List.append_nil]
    exact r2.length.symm.trans (F1.len _ _ _ _ ask)
  have low : us.length ≤ sizeLine := by
    rw [← Paired.length r1, sizeLine_eq]
    omega
  have bd := hb _ (Value.ref (hp.objs.size + 1) :: us) I2.kIn len
  rw [List.append_nil] at bd
  refine wpAny_call (PySem.HandSPX.call_own F.excBase_ValueError (fun Y => PySem.HandSPX.refsVE_contains Y bm hbm) (I1.kIn _ _ hC) (PySem.W.looks_findIn I1.kIn iC) (fun self => PySem.W.bind_fn I1.kIn self tI) low
    (codeAny_mono (F1.run _ X.stack _ _ ⟨Value.ref (hp.objs.size + 1) :: us, []⟩ _ _ _ (fun _ _ _ => False) (hr.make C us []) (I2.env0.make C us []) bd r2 ask) fun r s2 z => ?_))
  cases r with
  | error er => exact hx pins σ _ _ er s2 I2 z
  | ok fl =>
    cases fl with
    | ret u =>
      obtain ⟨v, H2, os2, bare2, un2, hok2, rv, ev, d, fs, ea, ed, hd1, q2⟩ := z
      subst ev
      obtain ⟨h2, g2, d2, t2, os3⟩ := s2
      obtain ⟨t0, G, J, kG, ge, hoe, na⟩ := mk_end0 (d2 := d2) (t2 := t2) I1 up keeps un2 hok2 os2 bare2 ea ed hd1
      refine ⟨rv, hp.objs.size + 1, _, _, ⟨G, g2, d2, t2, os3⟩, _, .ref C, some d, rfl, J, kG, ge, hoe, ⟨rfl, rfl, fun ws hv => ?_⟩, rfl, rfl, na, rfl, bare2, raises_own T.exC T.tyC, q2⟩
      cases hv
      rfl
    | next => exact z.elim
    | brk => exact z.elim
    | cont => exact z.elim
end
end NN

set_option Elab.async false
set_option linter.all false
set_option maxRecDepth 100000
set_option maxHeartbeats 4000000
namespace K01
open PySem L2 NX NU
abbrev sErrN : Stmt := inClass (top 3) 0
abbrev sErrD : Stmt := inClass (top 4) 0
abbrev sErrT : Stmt := inClass (top 13) 0
abbrev sErrM : Stmt := inClass (top 14) 0
abbrev sCns : Stmt := top 32
abbrev sCun : Stmt := top 33
abbrev sAsc : Stmt := top 34
abbrev sCus : Stmt := top 40
/-- what stood stands, and an error's dict at d is new, with its one field -/
def Told (H : Hp) (d : Addr) (x : Str) (v : V) (H' : Hp) : Prop := Same H H' ∧ H d = none ∧ H' d = some (.xd [(x, v)])
theorem sameNone {H H' : Hp} {d : Addr} (s : Same H H') (h : H' d = none) : H d = none := by
  cases e : H d with
  | none => rfl
  | some o =>
    rw [s d o e] at h
    cases h
theorem Told.old {H0 H H' : Hp} {d : Addr} {x : Str} {v : V} (s : Same H0 H) (t : Told H d x v H') : Told H0 d x v H' := ⟨s.trans t.1, sameNone s t.2.1, t.2.2⟩
def spErr (K : PySem.W.Frag) (x : Str) : Sp := fun vs H Q _ => ∃ (a C : Addr) (v : V), vs = [.ref a, v] ∧ OexC K C ∧ PySem.W.findIn K (.ref C) x = some none ∧ H a = some (exo a C none) ∧
  ∀ dx, H dx = none → dx ≠ a → Q .non (upd (upd H dx (exd dx [(x, v)])) a (exo a C (some dx)))
theorem scErrN : FnScope ["self", "value"] ["self", "value"] (defScope sErrN) := ⟨rfl, rfl, rfl, by decide +kernel, rfl, by decide +kernel, by decide +kernel⟩
theorem scErrD : FnScope ["self", "value"] ["self", "value"] (defScope sErrD) := ⟨rfl, rfl, rfl, by decide +kernel, rfl, by decide +kernel, by decide +kernel⟩
theorem scErrT : FnScope ["self", "name"] ["self", "name"] (defScope sErrT) := ⟨rfl, rfl, rfl, by decide +kernel, rfl, by decide +kernel, by decide +kernel⟩
theorem scErrM : FnScope ["self", "most"] ["self", "most"] (defScope sErrM) := ⟨rfl, rfl, rfl, by decide +kernel, rfl, by decide +kernel, by decide +kernel⟩
theorem scCns : FnScope ["values", "value"] ["values"] (defScope sCns) := ⟨rfl, rfl, rfl, by decide +kernel, rfl, by decide +kernel, by decide +kernel⟩
theorem scCun : FnScope ["names", "seen", "name"] ["names"] (defScope sCun) := ⟨rfl, rfl, rfl, by decide +kernel, rfl, by decide +kernel, by decide +kernel⟩
theorem scAsc : FnScope ["names"] ["names"] (defScope sAsc) := ⟨rfl, rfl, rfl, by decide +kernel, rfl, by decide +kernel, by decide +kernel⟩
theorem scCus : FnScope ["names"] ["names"] (defScope sCus) := ⟨rfl, rfl, rfl, by decide +kernel, rfl, by decide +kernel, by decide +kernel⟩
/-- a name, or something that is none -/
def IsNm (v : V) (z : Str) : Prop := v = .str z ∧ z.length ≤ 1000 ∧ nm z = true
def NoNm (K : PySem.W.Frag) (H : Hp) (v : V) : Prop := (∃ z, v = .str z ∧ z.length ≤ 1000 ∧ nm z = false) ∨ NoStr K H v
/-- the texts ws are names -/
def Nms (ws : List Str) : Prop := ∀ z ∈ ws, z.length ≤ 1000 ∧ nm z = true
/-- the first of some values that is no name, behind the names ws -/
def Bad (K : PySem.W.Frag) (H : Hp) (xs : List V) (ws : List Str) (v : V) : Prop := ∃ l, xs = ws.map V.str ++ v :: l ∧ Nms ws ∧ NoNm K H v
section
variable {P : Program} {w : World} {K : PySem.W.Frag} {mg : Str → Option Value} {base : Heap}
theorem ok_errN {f : Addr} {fd : FuncData} (F : Fun K "__init__" "BadName.__init__" sErrN f fd) : FnOk P w K mg base CX0 1 f fd ["self", "value"] (spErr K "value") := by
  refine F.ok scErrN (fun vs H Q E h => ?_) (fun cdv A outer s H vs Q E hr h => ?_)
  · obtain ⟨a, C, v, rfl, _⟩ := h
    rfl
  · obtain ⟨a, C, v, rfl, T, hf, ha, k⟩ := h
    exact ⟨_, (pss_one (ps_ost (pv 0) (pv 1))), _, rfl, _, rfl, a, C, rfl, T, hf, .inl ⟨ha, fun dx h1 h2 => k dx h1 h2⟩⟩
theorem ok_errD {f : Addr} {fd : FuncData} (F : Fun K "__init__" "BadDeed.__init__" sErrD f fd) : FnOk P w K mg base CX0 1 f fd ["self", "value"] (spErr K "value") := by
  refine F.ok scErrD (fun vs H Q E h => ?_) (fun cdv A outer s H vs Q E hr h => ?_)
  · obtain ⟨a, C, v, rfl, _⟩ := h
    rfl
  · obtain ⟨a, C, v, rfl, T, hf, ha, k⟩ := h
    exact ⟨_, (pss_one (ps_ost (pv 0) (pv 1))), _, rfl, _, rfl, a, C, rfl, T, hf, .inl ⟨ha, fun dx h1 h2 => k dx h1 h2⟩⟩
theorem ok_errT {f : Addr} {fd : FuncData} (F : Fun K "__init__" "Twice.__init__" sErrT f fd) : FnOk P w K mg base CX0 1 f fd ["self", "name"] (spErr K "name") := by
  refine F.ok scErrT (fun vs H Q E h => ?_) (fun cdv A outer s H vs Q E hr h => ?_)
  · obtain ⟨a, C, v, rfl, _⟩ := h
    rfl
  · obtain ⟨a, C, v, rfl, T, hf, ha, k⟩ := h
    exact ⟨_, (pss_one (ps_ost (pv 0) (pv 1))), _, rfl, _, rfl, a, C, rfl, T, hf, .inl ⟨ha, fun dx h1 h2 => k dx h1 h2⟩⟩
theorem ok_errM {f : Addr} {fd : FuncData} (F : Fun K "__init__" "TooMany.__init__" sErrM f fd) : FnOk P w K mg base CX0 1 f fd ["self", "most"] (spErr K "most") := by
  refine F.ok scErrM (fun vs H Q E h => ?_) (fun cdv A outer s H vs Q E hr h => ?_)
  · obtain ⟨a, C, v, rfl, _⟩ := h
    rfl
  · obtain ⟨a, C, v, rfl, T, hf, ha, k⟩ := h
    exact ⟨_, (pss_one (ps_ost (pv 0) (pv 1))), _, rfl, _, rfl, a, C, rfl, T, hf, .inl ⟨ha, fun dx h1 h2 => k dx h1 h2⟩⟩
/-- an error class x of ours with its __init__, which keeps the field y -/
structure ErrC (P : Program) (w : World) (K : PySem.W.Frag) (mg : Str → Option Value) (base : Heap) (x y : Str) (C fI : Addr) : Prop where
  O : OexC K C
  i : PySem.W.findIn K (.ref C) "__init__" = some (some (.ref fI))
  t : PySem.W.typeIn K (.ref fI) = some (.type "function")
  ok : ∃ fd, FnOk P w K mg base CX0 1 fI fd ["self", y] (spErr K y) ∧ Binds K fd ["self", y] []
  g : mg x = some (.ref C)
  v : PySem.W.findIn K (.ref C) y = some none
/-- what making an error of ours asks -/
theorem mkO_of {H : Hp} {C : Addr} {y : Str} {v : V} {Q : XK} (O : OexC K C) (hv : PySem.W.findIn K (.ref C) y = some none) (k : ∀ d H', Told H d y v H' → Q (.ref C) (some d) H') :
    [v].length ≤ 1000 ∧ ∀ a : Addr, H a = none → spErr K y (.ref a :: ([v] ++ [])) (upd H a (exo a C none)) (fun x H2 => x = .non ∧ ∃ (d : Addr) (fs : List (Str × V)), H2 a = some (exo a C (some d)) ∧ H2 d = some (exd d fs) ∧ H d = none ∧ Q (.ref C) (some d) (upd (L2.del H2 a) d (.xd fs))) (fun _ _ _ => False) := by
  refine ⟨by show 1 ≤ 1000; decide, fun a ha => ⟨a, C, v, rfl, O, hv, upd_same, fun d hd hne => ?_⟩⟩
  have hd' : H d = none := by rw [upd_ne hne] at hd; exact hd
  refine ⟨rfl, d, [(y, v)], upd_same, by rw [upd_ne hne]; exact upd_same, hd', k d _ ⟨fun b o hb => ?_, hd', upd_same⟩⟩
  have n1 : b ≠ d := fun e => by rw [e, hd'] at hb; cases hb
  have n2 : b ≠ a := fun e => by rw [e, ha] at hb; cases hb
  rw [upd_ne n1]
  unfold L2.del
  rw [if_neg n2, upd_ne n2, upd_ne n1, upd_ne n2]
  exact hb
/-- check_names(values) -/
def spCns (K : PySem.W.Frag) (CN : Addr) : Sp := fun vs H Q E => ∃ (p : Addr) (xs : List V), vs = [.ref p] ∧ SqT K H p xs ∧
  ((∃ ws, xs = ws.map V.str ∧ Nms ws ∧ Q .non H) ∨ ∃ ws v, Bad K H xs ws v ∧ ∀ d H', Told H d "value" v H' → E (.ref CN) (some d) H')
theorem ok_cns {CN fI f : Addr} {fd : FuncData} (F : Fun K "check_names" "check_names" sCns f fd) (cIs : C8.Cal P w K mg base 1 "is_name" (spIs K) []) (B : ErrC P w K mg base "BadName" "value" CN fI) :
    FnOk P w K mg base (L2N.CX P w) 3 f fd ["values"] (spCns K CN) := by
  obtain ⟨fde, Fe, hbe⟩ := B.ok
  refine NN.okN F scCns (fun vs H Q E h => ?_) (fun cdv A outer s H vs Q E hr h => ?_)
  · obtain ⟨p, xs, rfl, _⟩ := h
    rfl
  · obtain ⟨p, xs, rfl, hS, h⟩ := h
    refine ⟨_, (pss_one (ps_for (passes_of rfl) rfl (pi_tup (pv 0)) (pg_name (i := 1) scCns.nd rfl (Or.inl rfl)) (pss_one (ps_if (pt_not (pt_val (C8.pe_c cIs hr (by decide) rfl (pa_cons (pv 1) pa_nil))))
      (pss_one (L2N.ps_raise rfl (L2N.takes_of rfl rfl rfl rfl) (NN.pmkN B.O B.i B.t Fe hr hbe pass0 rfl B.g (pa_cons (pv 1) pa_nil)))) pss_nil)))), ?_⟩
    refine ⟨_, rfl, p, rfl, ⟨xs, hS⟩, ?_⟩
    rcases h with ⟨ws, rfl, hn, q⟩ | ⟨ws, v, ⟨l, rfl, hn, bad⟩, q⟩
    · refine for_tup (xs := ws.map V.str) (fun i σ H' => H' = H ∧ ∃ y, σ = [some (.ref p), y]) ⟨rfl, _, rfl⟩ (fun i σ H' _ ⟨e, _⟩ => by rw [e]; exact hS) (fun i x σ H' hx ⟨e, y, eσ⟩ => ?_) (fun σ H' ⟨e, _⟩ => by rw [e]; exact q)
      subst e eσ
      rw [List.getElem?_map] at hx
      obtain ⟨z, hz, rfl⟩ : ∃ z, ws[i]? = some z ∧ V.str z = x := by
        cases e : ws[i]? with
        | none => rw [e] at hx; cases hx
        | some z => rw [e] at hx; exact ⟨z, rfl, Option.some.inj hx⟩
      obtain ⟨h1, h2⟩ := hn z (List.mem_of_getElem? hz)
      refine ⟨_, rfl, _, rfl, .inl ⟨z, rfl, h1, ?_⟩⟩
      rw [h2]
      exact ⟨_, rfl, iteF ⟨rfl, _, rfl⟩⟩
    · refine for_tup (xs := ws.map V.str ++ v :: l) (fun i σ H' => i ≤ ws.length ∧ H' = H ∧ ∃ y, σ = [some (.ref p), y]) ⟨Nat.zero_le _, rfl, _, rfl⟩ (fun i σ H' _ ⟨_, e, _⟩ => by rw [e]; exact hS) (fun i x σ H' hx ⟨hi, e, y, eσ⟩ => ?_) (fun σ H' ⟨hi, _⟩ => ?_)
      · subst e eσ
        by_cases lt : i < ws.length
        · rw [List.getElem?_append_left (by rw [List.length_map]; exact lt), List.getElem?_map, List.getElem?_eq_getElem lt] at hx
          obtain rfl := Option.some.inj hx
          obtain ⟨h1, h2⟩ := hn ws[i] (List.getElem_mem lt)
          refine ⟨_, rfl, _, rfl, .inl ⟨ws[i], rfl, h1, ?_⟩⟩
          rw [h2]
          exact ⟨_, rfl, iteF ⟨lt, rfl, _, rfl⟩⟩
        · obtain rfl : i = ws.length := by omega
          rw [List.getElem?_append_right (by rw [List.length_map]; exact Nat.le_refl _), List.length_map, Nat.sub_self] at hx
          obtain rfl : v = x := Option.some.inj hx
          refine ⟨_, rfl, _, rfl, ?_⟩
          rcases bad with ⟨z, rfl, hz, hb⟩ | bad
          · refine .inl ⟨z, rfl, hz, ?_⟩
            rw [hb]
            exact ⟨_, rfl, iteT ⟨_, rfl, mkO_of B.O B.v q⟩⟩
          · exact .inr ⟨bad, _, rfl, iteT ⟨_, rfl, mkO_of B.O B.v q⟩⟩
      · rw [List.length_append, List.length_map, List.length_cons] at hi
        omega
end
end K01

set_option Elab.async false
set_option linter.all false
set_option maxRecDepth 100000
set_option maxHeartbeats 4000000
namespace K01
open PySem L2 NX NU
open PyProof.Rows (sortedS)
theorem sqT_same {K : PySem.W.Frag} {H H' : Hp} {a : Addr} {xs : List V} (s : Same H H') (h : SqT K H a xs) : SqT K H' a xs := by
  rcases h with (h | ⟨o, h⟩) | h
  · exact .inl (.inl (s _ _ h))
  · exact .inl (.inr ⟨o, s _ _ h⟩)
  · exact .inr h
/-- a def of ours that may raise, called by its name -/
structure CalL (P : Program) (w : World) (K : PySem.W.Frag) (mg : Str → Option Value) (base : Heap) (k : Nat) (x : Str) (sp : Sp) : Prop where
  ex : ∃ (f : Addr) (fd : FuncData) (ps : List Str), FnOk P w K mg base (L2N.CX P w) k f fd ps sp ∧ mg x = some (.ref f) ∧ PySem.W.keepIn K (.ref f) = true ∧ Binds K fd ps []
theorem pe_cL {X : Cx} {k j : Nat} {x : Str} {sp : Sp} {E : XK} {e : Expr} {es : List Expr} {t : TA} {p pos : Pos} (c : CalL X.prog X.w X.K X.mg X.base k x sp) (hr : Room j X.A) (hk : k ≤ j) (hg : Gl X x) (hx : Passes (L2N.CX X.prog X.w) X E) (ha : PA X (e :: es) t)
    (hdb : (x == ("__debug__" : Str)) = false := by decide) (he : starEach (e :: es) X.env = (false, eval e X.env) :: starEach es X.env := by rfl) (hpl : (backTo pos (starEach es X.env)).any (·.1) = false := by rfl) :
    PE X (.Call (.Name x p) (e :: es) [] pos) (tCall sp [] E t) := by
  obtain ⟨f, fd, ps, F, hm, kp, b⟩ := c.ex
  exact pe_call F (hr.mono hk) hg hm kp b .nil hx ha hdb he hpl
/-- no text stands twice; the first that does, at place i -/
def NoRep (ws : List Str) : Prop := ∀ i z, ws[i]? = some z → z ∉ ws.take i
def Rep (ws : List Str) (i : Nat) (z : Str) : Prop := ws[i]? = some z ∧ z ∈ ws.take i ∧ ∀ j, j < i → ∀ y, ws[j]? = some y → y ∉ ws.take j
theorem rep_or (ws : List Str) : NoRep ws ∨ ∃ i z, Rep ws i z := by
  suffices h : ∀ n, n ≤ ws.length → (∀ j, j < n → ∀ y, ws[j]? = some y → y ∉ ws.take j) ∨ ∃ i z, Rep ws i z by
    rcases h ws.length (Nat.le_refl _) with h | h
    · exact .inl fun i z e => h i (List.getElem?_eq_some_iff.mp e).1 z e
    · exact .inr h
  intro n
  induction n with
  | zero => exact fun _ => .inl nofun
  | succ n ih =>
    intro hn
    rcases ih (by omega) with h | h
    · have at_ : ws[n]? = some ws[n] := List.getElem?_eq_getElem (by omega)
      by_cases m : ws[n] ∈ ws.take n
      · exact .inr ⟨n, _, at_, m, h⟩
      · refine .inl fun j hj y e => ?_
        by_cases e2 : j = n
        · subst e2
          rw [at_] at e
          exact Option.some.inj e ▸ m
        · exact h j (by omega) y e
    · exact .inr h
/-- check_unlike(names), the names texts -/
def spCun (K : PySem.W.Frag) (CT : Addr) : Sp := fun vs H Q E => ∃ (p : Addr) (ws : List Str), vs = [.ref p] ∧ SqT K H p (ws.map V.str) ∧ ws.length ≤ 1000 ∧
  ((NoRep ws ∧ ∀ H', Same H H' → Q .non H') ∨ ∃ i z, Rep ws i z ∧ ∀ d H', Told H d "name" (.str z) H' → E (.ref CT) (some d) H')
/-- ascending(names) -/
structure TxtA (mg : Str → Option Value) : Prop where
  bset : mg "set" = none
  bsorted : mg "sorted" = none
  btuple : mg "tuple" = none
def spAsc (K : PySem.W.Frag) : Sp := fun vs H Q _ => ∃ (p : Addr) (ws : List Str), vs = [.ref p] ∧ (SqL K H p (ws.map V.str) ∨ SqT K H p (ws.map V.str)) ∧ ws.length < 64 ∧
  ∀ (ys : List Str) q H', sortedS ys = true → ys.Nodup → (∀ y, y ∈ ys ↔ y ∈ ws) → Same H H' → H q = none → H' q = some (.tup (ys.map V.str)) → Q (.ref q) H'
section
variable {P : Program} {w : World} {K : PySem.W.Frag} {mg : Str → Option Value} {base : Heap}
theorem ok_cun {CT fI f : Addr} {fd : FuncData} (F : Fun K "check_unlike" "check_unlike" sCun f fd) (B : ErrC P w K mg base "Twice" "name" CT fI) :
    FnOk P w K mg base (L2N.CX P w) 3 f fd ["names"] (spCun K CT) := by
  obtain ⟨fde, Fe, hbe⟩ := B.ok
  refine NN.okN F scCun (fun vs H Q E h => ?_) (fun cdv A outer s H vs Q E hr h => ?_)
  · obtain ⟨p, ws, rfl, _⟩ := h
    rfl
  · obtain ⟨p, ws, rfl, hS, few, h⟩ := h
    have hu := hu_of hr
    refine ⟨_, (pss_cons (ps_set (i := 1) scCun.nd rfl (Or.inl rfl) pe_dnewK) (pss_one (ps_for (passes_of rfl) rfl (pi_tup (pv 0)) (pg_name (i := 2) scCun.nd rfl (Or.inl rfl))
      (pss_cons (ps_if (pt_cmp (pc_din hu (pv 2) (pv 1))) (pss_one (L2N.ps_raise rfl (L2N.takes_of rfl rfl rfl rfl) (NN.pmkN B.O B.i B.t Fe hr hbe pass0 rfl B.g (pa_cons (pv 2) pa_nil)))) pss_nil)
        (pss_one (ps_dput hu (pv 1) (pv 2) pe_bl rfl)))))), ?_⟩
    intro d hd
    refine ⟨_, rfl, p, rfl, ⟨_, sqT_same (Same.new hd) hS⟩, ?_⟩
    have step : ∀ (i : Nat) (z : Str) (H' : Hp) (kvs : List (Key × V)), ws[i]? = some z → (∀ b o, H b = some o → H' b = some o) → H' d = some (.dK kvs) → kvs.length ≤ i → (∀ y : Str, (valV kvs (.inr y)).isSome = decide (y ∈ ws.take i)) →
        z ∉ ws.take i → (∀ b o, H b = some o → upd H' d (.dK (putK kvs (.inr z) (.bl true))) b = some o) ∧ (putK kvs (.inr z) (.bl true)).length ≤ i + 1 ∧ ∀ y : Str, (valV (putK kvs (.inr z) (.bl true)) (.inr y)).isSome = decide (y ∈ ws.take (i + 1)) := fun i z H' kvs hz s g l k no => by
      refine ⟨fun b o hb => ?_, Nat.le_trans (length_putK kvs _ _) (by omega), fun y => ?_⟩
      · have ne : b ≠ d := fun e => by rw [e, hd] at hb; cases hb
        rw [upd_ne ne]
        exact s b o hb
      · rw [valV_put, List.take_add_one, hz]
        by_cases e : y = z
        · subst e
          rw [if_pos rfl]
          simp
        · rw [if_neg (fun q => e (Sum.inr.inj q)), k y]
          simp [e]
    let Iv : Nat → L2.St → Hp → Prop := fun i σ H' => (∀ b o, H b = some o → H' b = some o) ∧ (∃ kvs, H' d = some (.dK kvs) ∧ kvs.length ≤ i ∧ ∀ y : Str, (valV kvs (.inr y)).isSome = decide (y ∈ ws.take i)) ∧ ∃ y, σ = [some (.ref p), some (.ref d), y]
    have base0 : Iv 0 [some (.ref p), some (.ref d), none] (upd H d (.dK [])) := ⟨Same.new hd, ⟨[], upd_same, Nat.le_refl _, fun y => by simp [valV]⟩, _, rfl⟩
    rcases h with ⟨nr, q⟩ | ⟨n, zn, ⟨hn, hin, hfirst⟩, q⟩
    · refine for_tup (xs := ws.map V.str) Iv base0 (fun i σ H' _ ⟨s, _⟩ => sqT_same s hS) (fun i x σ H' hx ⟨s, ⟨kvs, g, l, k⟩, y, eσ⟩ => ?_) (fun σ H' ⟨s, _⟩ => q _ s)
      subst eσ
      rw [List.getElem?_map] at hx
      obtain ⟨z, hz, rfl⟩ : ∃ z, ws[i]? = some z ∧ V.str z = x := by
        cases e : ws[i]? with
        | none => rw [e] at hx; cases hx
        | some z => rw [e] at hx; exact ⟨z, rfl, Option.some.inj hx⟩
      have no := nr i z hz
      obtain ⟨a1, a2, a3⟩ := step i z H' kvs hz s g l k no
      refine ⟨_, rfl, _, rfl, _, _, rfl, DGet.k (k := .inr z) g, ?_⟩
      rw [k z, decide_eq_false no]
      exact ⟨_, rfl, iteF ⟨_, rfl, _, rfl, _, _, rfl, DPut.k (k := .inr z) g (by have := (List.getElem?_eq_some_iff.mp hz).1; rw [sizeLine_eq]; omega), a1, ⟨_, upd_same, a2, a3⟩, _, rfl⟩⟩
    · have ltn : n < ws.length := (List.getElem?_eq_some_iff.mp hn).1
      refine for_tup (xs := ws.map V.str) (fun i σ H' => i ≤ n ∧ Iv i σ H') ⟨Nat.zero_le _, base0⟩ (fun i σ H' _ ⟨_, s, _⟩ => sqT_same s hS) (fun i x σ H' hx ⟨hi, s, ⟨kvs, g, l, k⟩, y, eσ⟩ => ?_) (fun σ H' ⟨hi, _⟩ => ?_)
      · subst eσ
        rw [List.getElem?_map] at hx
        obtain ⟨z, hz, rfl⟩ : ∃ z, ws[i]? = some z ∧ V.str z = x := by
          cases e : ws[i]? with
          | none => rw [e] at hx; cases hx
          | some z => rw [e] at hx; exact ⟨z, rfl, Option.some.inj hx⟩
        refine ⟨_, rfl, _, rfl, _, _, rfl, DGet.k (k := .inr z) g, ?_⟩
        rw [k z]
        by_cases e : i = n
        · subst e
          rw [hn] at hz
          obtain rfl := Option.some.inj hz
          rw [decide_eq_true hin]
          exact ⟨_, rfl, iteT ⟨_, rfl, mkO_of B.O B.v fun d2 H2 t => q d2 H2 (t.old s)⟩⟩
        · have no := hfirst i (by omega) z hz
          obtain ⟨a1, a2, a3⟩ := step i z H' kvs hz s g l k no
          rw [decide_eq_false no]
          exact ⟨_, rfl, iteF ⟨_, rfl, _, rfl, _, _, rfl, DPut.k (k := .inr z) g (by rw [sizeLine_eq]; omega), (by omega), a1, ⟨_, upd_same, a2, a3⟩, _, rfl⟩⟩
      · rw [List.length_map] at hi
        omega
theorem ok_asc {f : Addr} {fd : FuncData} (F : Fun K "ascending" "ascending" sAsc f fd) (T : TxtA mg) : FnOk P w K mg base CX0 1 f fd ["names"] (spAsc K) := by
  refine F.ok scAsc (fun vs H Q E h => ?_) (fun cdv A outer s H vs Q E hr h => ?_)
  · obtain ⟨p, ws, rfl, _⟩ := h
    rfl
  · obtain ⟨p, ws, rfl, hS, few, q⟩ := h
    refine ⟨_, (pss_one (ps_ret (pe_callTy call_tuple_of (by rfl) T.btuple (by decide +kernel) (pa_cons (pe_callB (cr_srtX rfl) (by rfl) T.bsorted (by decide +kernel) (pa_cons (pe_callTy (cr_setX rfl) (by rfl) T.bset (by decide +kernel) (pa_cons (pv 0) pa_nil)) pa_nil)) pa_nil)))), ?_⟩
    refine ⟨_, rfl, p, ws, rfl, hS, by omega, fun a ha => ⟨a, ws, rfl, upd_same, few, fun ys b srt nd mm hb => ?_⟩⟩
    refine ⟨b, _, rfl, .inl ⟨SqL.of upd_same, fun l hl => ?_⟩⟩
    have s1 : Same H (upd H a (SetX w a ws)) := Same.new ha
    have s2 := s1.trans (Same.new (o := .lst (ys.map V.str)) hb)
    exact q ys l _ srt nd mm (s2.trans (Same.new hl)) (sameNone s2 hl) upd_same
end
end K01

set_option Elab.async false
set_option linter.all false
set_option maxRecDepth 100000
set_option maxHeartbeats 4000000
namespace K01
open PySem L2 NX NU
open PyProof.Rows (sortedS)
/-- what is refused: a value that is no name, a text that stands twice, too many, none -/
inductive Fa
  | nm (v : V)
  | tw (z : Str)
  | mn
  | em
/-- the four error classes -/
structure C4 where
  n : Addr
  t : Addr
  m : Addr
  d : Addr
def Fa.cls (c : C4) : Fa → Addr
  | .nm _ => c.n
  | .tw _ => c.t
  | .mn => c.m
  | .em => c.d
def Fa.fld : Fa → Str
  | .nm _ => "value"
  | .tw _ => "name"
  | .mn => "most"
  | .em => "value"
def Fa.val : Fa → V
  | .nm v => v
  | .tw z => .str z
  | .mn => .int 3
  | .em => .non
/-- what used names are refused with -/
inductive UsedF (ws : List Str) : Option Fa → Prop
  | tw {i : Nat} {z : Str} : Rep ws i z → UsedF ws (some (.tw z))
  | mn : NoRep ws → 3 < ws.length → UsedF ws (some .mn)
  | em : ws = [] → UsedF ws (some .em)
  | ok : NoRep ws → 0 < ws.length → ws.length ≤ 3 → UsedF ws none
/-- what values are refused with, those from place k on being used -/
inductive DueF (K : PySem.W.Frag) (H : Hp) (xs : List V) (k : Nat) : Option Fa → Prop
  | nm {ws : List Str} {v : V} : Bad K H xs ws v → DueF K H xs k (some (.nm v))
  | rest {ws : List Str} {r : Option Fa} : xs = ws.map V.str → Nms ws → UsedF (ws.drop k) r → DueF K H xs k r
/-- it is so, or the error comes -/
def Ends (c : C4) (H : Hp) (E : XK) (ok : Prop) : Option Fa → Prop
  | none => ok
  | some f => ∀ d H', Told H d f.fld f.val H' → E (.ref (f.cls c)) (some d) H'
theorem usedF_any (ws : List Str) : ∃ r, UsedF ws r := by
  rcases rep_or ws with h | ⟨i, z, h⟩
  · by_cases l0 : ws.length = 0
    · exact ⟨_, .em (List.length_eq_zero_iff.mp l0)⟩
    · by_cases l3 : ws.length ≤ 3
      · exact ⟨_, .ok h (by omega) l3⟩
      · exact ⟨_, .mn h (by omega)⟩
  · exact ⟨_, .tw h⟩
structure DeedC (K : PySem.W.Frag) (mg : Str → Option Value) (CD : Addr) : Prop where
  g : mg "Deed" = some (.ref CD)
  rd : ∃ mc u, ClX.CRead K CD mc ∧ ClX.CVal K CD mc "MOST" (.int 3) u
def spCus (K : PySem.W.Frag) (c : C4) : Sp := fun vs H Q E => ∃ (p : Addr) (ws : List Str) (r : Option Fa), vs = [.ref p] ∧ SqT K H p (ws.map V.str) ∧ ws.length ≤ 1000 ∧ UsedF ws r ∧ Ends c H E (∀ H', Same H H' → Q .non H') r
section
variable {P : Program} {w : World} {K : PySem.W.Frag} {mg : Str → Option Value} {base : Heap}
theorem ok_cus {c : C4} {CD fT fM fD f : Addr} {fd : FuncData} (F : Fun K "check_used" "check_used" sCus f fd) (T : TxtB mg) (cUn : CalL P w K mg base 3 "check_unlike" (spCun K c.t)) (D : DeedC K mg CD) (BM : ErrC P w K mg base "TooMany" "most" c.m fM) (BD : ErrC P w K mg base "BadDeed" "value" c.d fD) :
    FnOk P w K mg base (L2N.CX P w) 4 f fd ["names"] (spCus K c) := by
  obtain ⟨fdm, Fm, hbm⟩ := BM.ok
  obtain ⟨fdd, Fd, hbd⟩ := BD.ok
  obtain ⟨mc, u, rd, cv⟩ := D.rd
  refine NN.okN F scCus (fun vs H Q E h => ?_) (fun cdv A outer s H vs Q E hr h => ?_)
  · obtain ⟨p, ws, r, rfl, _⟩ := h
    rfl
  · obtain ⟨p, ws, r, rfl, hS, few, hU, h⟩ := h
    refine ⟨_, (pss_cons (ps_expr (pe_cL cUn hr (by decide) rfl (NN.passN (L2N.takes_of rfl rfl rfl rfl)) (pa_cons (pv 0) pa_nil)))
      (pss_cons (ps_if (pt_cmpR op_gt (pe_callB call_len_seq (by rfl) T.blen (by decide +kernel) (pa_cons (pv 0) pa_nil)) (ClX.pe_cval (C8.pe_gc (v := .ref CD) rfl ⟨_, D.g, rfl⟩)) (nomark _)) (pss_one (L2N.ps_raise rfl (L2N.takes_of rfl rfl rfl rfl) (NN.pmkN BM.O BM.i BM.t Fm (hr.mono (by decide)) hbm pass0 rfl BM.g (pa_cons (ClX.pe_cval (C8.pe_gc (v := .ref CD) rfl ⟨_, D.g, rfl⟩)) pa_nil)))) pss_nil)
      (pss_one (ps_if (pt_not (pt_truth (pv 0) (fun _ => rfl))) (pss_one (L2N.ps_raise rfl (L2N.takes_of rfl rfl rfl rfl) (NN.pmkN BD.O BD.i BD.t Fd (hr.mono (by decide)) hbd pass0 rfl BD.g (pa_cons pe_non pa_nil)))) pss_nil)))), ?_⟩
    refine ⟨_, rfl, p, ws, rfl, hS, few, ?_⟩
    have split : (∃ i z, Rep ws i z ∧ ∀ d H', Told H d "name" (.str z) H' → E (.ref c.t) (some d) H') ∨ (NoRep ws ∧ (∀ d H', Told H d "most" (.int 3) H' → 3 < ws.length → E (.ref c.m) (some d) H') ∧ (∀ d H', Told H d "value" .non H' → ws = [] → E (.ref c.d) (some d) H') ∧ ∀ H', Same H H' → 0 < ws.length → ws.length ≤ 3 → Q .non H') := by
      cases hU with
      | tw rp => exact .inl ⟨_, _, rp, h⟩
      | mn nr l => exact .inr ⟨nr, fun d H' t _ => h d H' t, fun d H' t e => (by rw [e] at l; cases l), fun H' s _ l3 => by omega⟩
      | em e => exact .inr ⟨(by rw [e]; exact fun i z q => by simp at q), fun d H' t l => (by rw [e] at l; cases l), fun d H' t _ => h d H' t, fun H' s l0 _ => by rw [e] at l0; cases l0⟩
      | ok nr l0 l3 => exact .inr ⟨nr, fun d H' t l => (by omega), fun d H' t e => (by rw [e] at l0; cases l0), fun H' s _ _ => h H' s⟩
    rcases split with ⟨i, z, rp, q⟩ | ⟨nr, q1, q2, q3⟩
    · exact .inr ⟨i, z, rp, q⟩
    refine .inl ⟨nr, fun H' s => ?_⟩
    refine ⟨_, rfl, p, _, rfl, .inr (sqT_same s hS), CD, mc, _, u, rfl, rd, cv, _, _, rfl, rfl, _, rfl, ite2 (fun h1 => ?_) (fun h1 => ?_)⟩
    · have h1 := of_decide_eq_true h1
      rw [List.length_map] at h1
      exact ⟨CD, mc, _, u, rfl, rd, cv, mkO_of BM.O BM.v fun d H2 t => q1 d H2 (t.old s) (by omega)⟩
    · have h1 : ¬ ((ws.map V.str).length : Int) > 3 := fun z => h1 (decide_eq_true z)
      rw [List.length_map] at h1
      refine ⟨_, rfl, !(ws.map V.str).isEmpty, .inr (.inl ⟨_, sqT_same s hS, rfl⟩), ?_⟩
      cases ws with
      | nil => exact iteT (mkO_of BD.O BD.v fun d H2 t => q2 d H2 (t.old s) rfl)
      | cons z l => exact iteF (q3 H' s (Nat.succ_pos _) (by omega))
end
end K01

set_option Elab.async false
set_option linter.all false
set_option maxRecDepth 100000
set_option maxHeartbeats 4000000
namespace K01
open PySem L2 NX NU
open PyProof.Rows (sortedS)
theorem tyOf_same {K : PySem.W.Frag} {H H' : Hp} {v : V} {t : Value} (s : Same H H') (h : TyOf K H v t) : TyOf K H' v t := by
  cases h with
  | non => exact .non
  | bl x => exact .bl x
  | int x => exact .int x
  | str x => exact .str x
  | flt x => exact .flt x
  | lst h => exact .lst (s _ _ h)
  | frz h => exact .frz (s _ _ h)
  | tup h => exact .tup (s _ _ h)
  | dK h => exact .dK (s _ _ h)
  | dT h => exact .dT (s _ _ h)
  | ins h a b c d e => exact .ins (s _ _ h) a b c d e
theorem tyX_same {K : PySem.W.Frag} {H H' : Hp} {v : V} {t : Value} (s : Same H H') (h : TyX K H v t) : TyX K H' v t := by
  cases h with
  | base h => exact .base (tyOf_same s h)
  | byt b => exact .byt b
  | set h => exact .set (s _ _ h)
  | kList a b => exact .kList a b
  | kTuple a b => exact .kTuple a b
  | kDict a b => exact .kDict a b
  | fTuple h => exact .fTuple (s _ _ h)
  | fDict h => exact .fDict (s _ _ h)
theorem NoStr.same {K : PySem.W.Frag} {H H' : Hp} {v : V} (s : Same H H') (h : NoStr K H v) : NoStr K H' v := by
  obtain ⟨t, a, b⟩ := h
  exact ⟨t, tyX_same s a, b⟩
theorem NoNm.same {K : PySem.W.Frag} {H H' : Hp} {v : V} (s : Same H H') (h : NoNm K H v) : NoNm K H' v := by
  rcases h with h | h
  · exact .inl h
  · exact .inr (NoStr.same s h)

theorem Bad.same {K : PySem.W.Frag} {H H' : Hp} {xs : List V} {ws : List Str} {v : V} (s : Same H H') (h : Bad K H xs ws v) : Bad K H' xs ws v := by
  obtain ⟨l, a, b, c⟩ := h
  exact ⟨l, a, b, c.same s⟩
theorem DueF.same {K : PySem.W.Frag} {H H' : Hp} {xs : List V} {k : Nat} {r : Option Fa} (s : Same H H') (h : DueF K H xs k r) : DueF K H' xs k r := by
  cases h with
  | nm b => exact .nm (b.same s)
  | rest a b c => exact .rest a b c
theorem Ends.old {c : C4} {H H' : Hp} {E : XK} {ok ok2 : Prop} {r : Option Fa} (s : Same H H') (h : Ends c H E ok r) (k : ok → ok2) : Ends c H' E ok2 r := by
  cases r with
  | none => exact k h
  | some f => exact fun d H2 t => h d H2 (t.old s)
abbrev sUse : Stmt := inClass (top 37) 0
abbrev sMake : Stmt := inClass (top 38) 0
abbrev sDo : Stmt := inClass (top 39) 0
theorem scUse : FnScope ["self", "names"] ["self", "names"] (defScope sUse) := ⟨rfl, rfl, rfl, by decide +kernel, rfl, by decide +kernel, by decide +kernel⟩
theorem scMake : FnScope ["self", "name"] ["self", "name"] (defScope sMake) := ⟨rfl, rfl, rfl, by decide +kernel, rfl, by decide +kernel, by decide +kernel⟩
theorem scDo : FnScope ["self", "name", "names"] ["self", "name", "names"] (defScope sDo) := ⟨rfl, rfl, rfl, by decide +kernel, rfl, by decide +kernel, by decide +kernel⟩
/-- ys: the texts of ws, ascending, each once -/
def Asc (ys ws : List Str) : Prop := sortedS ys = true ∧ ys.Nodup ∧ ∀ y, y ∈ ys ↔ y ∈ ws
/-- a deed at x, of the class at C -/
def Dd (H : Hp) (x C : Addr) (us : List Str) (mk : V) (ys : List Str) : Prop := ∃ dx p q, H x = some (.ins C dx [("uses", .ref p), ("makes", mk), ("_names", .ref q)]) ∧ H p = some (.tup (us.map V.str)) ∧ H q = some (.tup (ys.map V.str))
structure DCls (K : PySem.W.Frag) (C : Addr) : Prop where
  cl : Cls K C
  nu : NoAttr K C "uses"
  nk : NoAttr K C "makes"
  nn : NoAttr K C "_names"
/-- a Use is made of what stands in the tuple at p -/
def spUse0 (K : PySem.W.Frag) (c : C4) : Sp := fun vs H Q E => ∃ (x C dx p : Addr) (xs : List V) (r : Option Fa), vs = [.ref x, .ref p] ∧ DCls K C ∧ H x = some (.ins C dx []) ∧ H p = some (.tup xs) ∧ xs.length < 60 ∧ DueF K H xs 0 r ∧
  Ends c H E (∀ ws ys H', xs = ws.map V.str → Asc ys ws → But x H H' → Dd H' x C ws .non ys → Q .non H') r
def spMake (K : PySem.W.Frag) (c : C4) : Sp := fun vs H Q E => ∃ (x C dx : Addr) (v : V), vs = [.ref x, v] ∧ DCls K C ∧ H x = some (.ins C dx []) ∧
  ((∃ z, IsNm v z ∧ ∀ H', But x H H' → Dd H' x C [] (.str z) [z] → Q .non H') ∨ (NoNm K H v ∧ ∀ d H', Told H d "value" v H' → E (.ref c.n) (some d) H'))
def spDo0 (K : PySem.W.Frag) (c : C4) : Sp := fun vs H Q E => ∃ (x C dx p : Addr) (v : V) (xs : List V) (r : Option Fa), vs = [.ref x, v, .ref p] ∧ DCls K C ∧ H x = some (.ins C dx []) ∧ H p = some (.tup xs) ∧ xs.length < 60 ∧ DueF K H (v :: xs) 1 r ∧
  Ends c H E (∀ m ws ys H', v = .str m → xs = ws.map V.str → Asc ys (m :: ws) → But x H H' → Dd H' x C ws (.str m) ys → Q .non H') r
section
variable {P : Program} {w : World} {K : PySem.W.Frag} {mg : Str → Option Value} {base : Heap}
/-- the calls that the three inits make -/
structure Cks (P : Program) (w : World) (K : PySem.W.Frag) (mg : Str → Option Value) (base : Heap) (c : C4) : Prop where
  ns : CalL P w K mg base 3 "check_names" (spCns K c.n)
  us : CalL P w K mg base 4 "check_used" (spCus K c)
  as : C8.Cal P w K mg base 1 "ascending" (spAsc K) []
theorem body_use {c : C4} (k : Cks P w K mg base c) {f : Addr} {cdv : Value} {A : Around} {outer : List Env} {s : Shared} {H : Hp} {vs : List V} {Q : VK} {E : XK} (hr : Room 4 (A.deeper (PyProof.Rows.envOfC "Use.__init__" (defScope sUse) s.heap.objs.size f cdv))) (h : spUse0 K c vs H Q E) :
    ∃ t, PSs (cxOf (L2N.CX P w) P w K mg base ["self", "names"] "Use.__init__" (defScope sUse) f cdv A outer s H E) (defBody sUse) t ∧ t { nx := fun _ H' => Q .non H', rt := Q } (start ["self", "names"] vs) H := by
  obtain ⟨x, C, dx, p, xs, r, rfl, hC, hx, hp, few, hD, h⟩ := h
  have px : p ≠ x := fun e => by rw [e, hx] at hp; cases hp
  refine ⟨_, (pss_cons (ps_expr (pe_cL k.ns hr (by decide) rfl (NN.passN (L2N.takes_of rfl rfl rfl rfl)) (pa_cons (pv 1) pa_nil)))
    (pss_cons (ps_expr (pe_cL k.us hr (by decide) rfl (NN.passN (L2N.takes_of rfl rfl rfl rfl)) (pa_cons (pv 1) pa_nil)))
    (pss_cons (ps_fld (pv 0) (pv 1) rfl) (pss_cons (ps_fld (pv 0) pe_non rfl) (pss_one (ps_fld (pv 0) (C8.pe_c k.as hr (by decide) rfl (pa_cons (pv 1) pa_nil)) rfl)))))), ?_⟩
  cases hD with
  | nm b => exact ⟨_, rfl, p, xs, rfl, SqT.of hp, .inr ⟨_, _, b, h⟩⟩
  | rest e hn hU =>
    rename_i ws
    subst e
    rw [List.drop_zero] at hU
    rw [List.length_map] at few
    refine ⟨_, rfl, p, _, rfl, SqT.of hp, .inl ⟨ws, rfl, hn, ?_⟩⟩
    refine ⟨_, rfl, p, ws, r, rfl, SqT.of hp, by omega, hU, Ends.old (fun _ _ z => z) h fun h H1 s1 => ?_⟩
    refine ⟨_, rfl, _, rfl, x, C, dx, _, rfl, s1 _ _ hx, hC.cl, hC.nu, by decide, ?_⟩
    refine ⟨_, rfl, x, C, dx, _, rfl, upd_same, hC.cl, hC.nk, by show 1 < 1000; decide, ?_⟩
    refine ⟨_, rfl, p, ws, rfl, .inr (SqT.of (by rw [upd_ne px, upd_ne px]; exact s1 _ _ hp)), by omega, fun ys q H2 srt nd mm s2 hq gq => ?_⟩
    refine ⟨_, rfl, x, C, dx, _, rfl, s2 _ _ upd_same, hC.cl, hC.nn, by show 2 < 1000; decide, ?_⟩
    have qx : q ≠ x := fun e => by rw [e] at hq; rw [upd_same] at hq; cases hq
    refine h ws ys _ rfl ⟨srt, nd, mm⟩ (fun b o hb ne => ?_) ⟨dx, p, q, upd_same, ?_, ?_⟩
    · rw [upd_ne ne]
      exact s2 _ _ (by rw [upd_ne ne, upd_ne ne]; exact s1 _ _ hb)
    · rw [upd_ne px]
      exact s2 _ _ (by rw [upd_ne px, upd_ne px]; exact s1 _ _ hp)
    · rw [upd_ne qx]
      exact gq
theorem ok_make {c : C4} (k : Cks P w K mg base c) {f : Addr} {fd : FuncData} (F : Fun K "__init__" "Make.__init__" sMake f fd) : FnOk P w K mg base (L2N.CX P w) 4 f fd ["self", "name"] (spMake K c) := by
  refine NN.okN F scMake (fun vs H Q E h => ?_) (fun cdv A outer s H vs Q E hr h => ?_)
  · obtain ⟨x, C, dx, v, rfl, _⟩ := h
    rfl
  · obtain ⟨x, C, dx, v, rfl, hC, hx, h⟩ := h
    refine ⟨_, (pss_cons (ps_expr (pe_cL k.ns hr (by decide) rfl (NN.passN (L2N.takes_of rfl rfl rfl rfl)) (pa_cons (pe_tup (pa_cons (pv 1) pa_nil)) pa_nil)))
      (pss_cons (ps_fld (pv 0) (pe_tup pa_nil) rfl) (pss_cons (ps_fld (pv 0) (pv 1) rfl) (pss_one (ps_fld (pv 0) (pe_tup (pa_cons (pv 1) pa_nil)) rfl))))), ?_⟩
    refine ⟨_, rfl, by show 1 ≤ sizeLine; decide, fun t ht => ?_⟩
    have s1 : Same H (upd H t (.tup [v])) := Same.new ht
    refine ⟨t, [v], rfl, SqT.of upd_same, ?_⟩
    rcases h with ⟨z, ⟨rfl, hz, hn⟩, q⟩ | ⟨bad, q⟩
    · refine .inl ⟨[z], rfl, fun y hy => by rw [List.mem_singleton.mp hy]; exact ⟨hz, hn⟩, ?_⟩
      refine ⟨by show 0 ≤ sizeLine; decide, fun p hp => ?_⟩
      have s2 := s1.trans (Same.new (o := .tup []) hp)
      have px : p ≠ x := fun e => by rw [e, s1 _ _ hx] at hp; cases hp
      refine ⟨_, rfl, x, C, dx, _, rfl, s2 _ _ hx, hC.cl, hC.nu, by decide, ?_⟩
      refine ⟨_, rfl, _, rfl, x, C, dx, _, rfl, upd_same, hC.cl, hC.nk, by show 1 < 1000; decide, ?_⟩
      refine ⟨_, rfl, by show 1 ≤ sizeLine; decide, fun r hr => ?_⟩
      have rx : r ≠ x := fun e => by rw [e, upd_same] at hr; cases hr
      have hr0 := hr
      rw [upd_ne rx, upd_ne rx] at hr0
      have rp : p ≠ r := fun e => by rw [← e, upd_same] at hr0; cases hr0
      refine ⟨_, rfl, x, C, dx, _, rfl, (by rw [upd_ne (Ne.symm rx)]; exact upd_same), hC.cl, hC.nn, by show 2 < 1000; decide, ?_⟩
      refine q _ (fun b o hb ne => ?_) ⟨dx, p, r, upd_same, ?_, ?_⟩
      · have br : b ≠ r := fun e => by rw [← e, s2 _ _ hb] at hr0; cases hr0
        rw [upd_ne ne, upd_ne br, upd_ne ne, upd_ne ne]
        exact s2 _ _ hb
      · rw [upd_ne px, upd_ne rp, upd_ne px, upd_ne px]
        exact upd_same
      · rw [upd_ne rx]
        exact upd_same
    · exact .inr ⟨[], v, ⟨[], rfl, nofun, bad.same s1⟩, fun d H' t => q d H' (t.old s1)⟩
theorem body_do {c : C4} (k : Cks P w K mg base c) {f : Addr} {cdv : Value} {A : Around} {outer : List Env} {s : Shared} {H : Hp} {vs : List V} {Q : VK} {E : XK} (hr : Room 4 (A.deeper (PyProof.Rows.envOfC "Do.__init__" (defScope sDo) s.heap.objs.size f cdv))) (h : spDo0 K c vs H Q E) :
    ∃ t, PSs (cxOf (L2N.CX P w) P w K mg base ["self", "name", "names"] "Do.__init__" (defScope sDo) f cdv A outer s H E) (defBody sDo) t ∧ t { nx := fun _ H' => Q .non H', rt := Q } (start ["self", "name", "names"] vs) H := by
  obtain ⟨x, C, dx, p, v, xs, r, rfl, hC, hx, hp, few, hD, h⟩ := h
  have px : p ≠ x := fun e => by rw [e, hx] at hp; cases hp
  refine ⟨_, (pss_cons (ps_expr (pe_cL k.ns hr (by decide) rfl (NN.passN (L2N.takes_of rfl rfl rfl rfl)) (pa_cons (pe_tup (pa_cons (pv 1) (StX.pa_star (pv 2) pa_nil))) pa_nil)))
    (pss_cons (ps_expr (pe_cL k.us hr (by decide) rfl (NN.passN (L2N.takes_of rfl rfl rfl rfl)) (pa_cons (pv 2) pa_nil)))
    (pss_cons (ps_fld (pv 0) (pv 2) rfl) (pss_cons (ps_fld (pv 0) (pv 1) rfl) (pss_one (ps_fld (pv 0) (C8.pe_c k.as hr (by decide) rfl (pa_cons (pe_tup (pa_cons (pv 1) (StX.pa_star (pv 2) pa_nil))) pa_nil)) rfl)))))), ?_⟩
  have lz : 61 ≤ sizeLine := by decide
  refine ⟨_, rfl, _, rfl, p, xs, rfl, .inl (SqT.of hp), ?_⟩
  dsimp only [tNil]
  rw [List.append_nil]
  refine ⟨by show xs.length + 1 ≤ sizeLine; omega, fun t ht => ?_⟩
  have s0 : Same H (upd H t (.tup (v :: xs))) := Same.new ht
  refine ⟨t, _, rfl, SqT.of upd_same, ?_⟩
  cases hD with
  | nm b => exact .inr ⟨_, _, b.same s0, fun d H' t => h d H' (t.old s0)⟩
  | rest e hn hU =>
    rename_i ws
    cases ws with
    | nil => cases e
    | cons m ws =>
      injection e with e1 e2
      subst e1 e2
      rw [List.length_map] at few
      refine .inl ⟨m :: ws, rfl, hn, ?_⟩
      refine ⟨_, rfl, p, ws, r, rfl, SqT.of (s0 _ _ hp), by omega, hU, Ends.old s0 h fun h H1 s1 => ?_⟩
      have s1 := s0.trans s1
      refine ⟨_, rfl, _, rfl, x, C, dx, _, rfl, s1 _ _ hx, hC.cl, hC.nu, by decide, ?_⟩
      refine ⟨_, rfl, _, rfl, x, C, dx, _, rfl, upd_same, hC.cl, hC.nk, by show 1 < 1000; decide, ?_⟩
      refine ⟨_, rfl, _, rfl, p, _, rfl, .inl (SqT.of (by rw [upd_ne px, upd_ne px]; exact s1 _ _ hp)), ?_⟩
      dsimp only [tNil]
      rw [List.append_nil]
      refine ⟨by show (ws.map V.str).length + 1 ≤ sizeLine; rw [List.length_map]; omega, fun t2 ht2 => ?_⟩
      have tx : t2 ≠ x := fun e => by rw [e, upd_same] at ht2; cases ht2
      refine ⟨t2, m :: ws, rfl, .inr (SqT.of upd_same), by show ws.length + 1 < 64; omega, fun ys q H2 srt nd mm s2 hq gq => ?_⟩
      have qx : q ≠ x := fun e => by rw [e, upd_ne (Ne.symm tx), upd_same] at hq; cases hq
      have pt : p ≠ t2 := fun e => by rw [← e, upd_ne px, upd_ne px, s1 _ _ hp] at ht2; cases ht2
      refine ⟨_, rfl, x, C, dx, _, rfl, s2 _ _ (by rw [upd_ne (Ne.symm tx)]; exact upd_same), hC.cl, hC.nn, by show 2 < 1000; decide, ?_⟩
      refine h m ws ys _ rfl rfl ⟨srt, nd, mm⟩ (fun b o hb ne => ?_) ⟨dx, p, q, upd_same, ?_, ?_⟩
      · rw [upd_ne ne]
        have bt : b ≠ t2 := fun e => by rw [← e, upd_ne ne, upd_ne ne, s1 _ _ hb] at ht2; cases ht2
        exact s2 _ _ (by rw [upd_ne bt, upd_ne ne, upd_ne ne]; exact s1 _ _ hb)
      · rw [upd_ne px]
        exact s2 _ _ (by rw [upd_ne pt, upd_ne px, upd_ne px]; exact s1 _ _ hp)
      · rw [upd_ne qx]
        exact gq
/-- Use.__init__ and Do.__init__, from what is passed -/
def spUse (K : PySem.W.Frag) (c : C4) : Sp := fun vs H Q E => ∃ ws rest, vs = ws ++ rest ∧ ws.length = ["self"].length ∧ rest.length ≤ sizeLine ∧ ∀ p, H p = Option.none → spUse0 K c (ws ++ [V.ref p]) (upd H p (.tup rest)) Q E
def spDo (K : PySem.W.Frag) (c : C4) : Sp := fun vs H Q E => ∃ ws rest, vs = ws ++ rest ∧ ws.length = ["self", "name"].length ∧ rest.length ≤ sizeLine ∧ ∀ p, H p = Option.none → spDo0 K c (ws ++ [V.ref p]) (upd H p (.tup rest)) Q E
theorem ok_use {c : C4} (k : Cks P w K mg base c) {f : Addr} {fd : FuncData} (F : Fun K "__init__" "Use.__init__" sUse f fd) : FnR P w K mg base (L2N.CX P w) 5 f (spUse K c) := by
  obtain ⟨oc, od, kV, doc, pm, an, cdv, ct, osl, rfl, lk, hcd⟩ := F.ex
  exact StX.fn_star (N := ["self", "names"]) (ps := ["self"]) (pv := "names") lk hcd scUse NN.upN (StX.bind_star1 (B := fun us => bindArgs _ ⟨us, []⟩) (fun a => rfl) (fun a r rs => rfl)) fun A outer s H vs Q E hr h => body_use k hr h
theorem ok_do {c : C4} (k : Cks P w K mg base c) {f : Addr} {fd : FuncData} (F : Fun K "__init__" "Do.__init__" sDo f fd) : FnR P w K mg base (L2N.CX P w) 5 f (spDo K c) := by
  obtain ⟨oc, od, kV, doc, pm, an, cdv, ct, osl, rfl, lk, hcd⟩ := F.ex
  exact StX.fn_star (N := ["self", "name", "names"]) (ps := ["self", "name"]) (pv := "names") lk hcd scDo NN.upN (StX.bind_star2 (B := fun us => bindArgs _ ⟨us, []⟩) (fun a b => rfl) (fun a b r rs => rfl)) fun A outer s H vs Q E hr h => body_do k hr h
end
end K01

set_option Elab.async false
set_option linter.all false
set_option maxRecDepth 100000
set_option maxHeartbeats 4000000
namespace K01
open PySem L2 NX NU
open PyProof.Rows (sortedS)
section
variable {X : Cx} {CX : CXT} {k : Nat} {f C : Addr} {sp : Sp} {E : XK} {x : Str} {e : Expr} {te : TE} {p q pos : Pos}
/-- C(*e), C a class of ours whose __init__ takes what is passed by place -/
theorem pe_makeS (M : Mk X.K C f) (F : FnR X.prog X.w X.K X.mg X.base CX k f sp) (hr : Room (k + 1) X.A) (hg : Gl X x) (hm : X.mg x = some (.ref C)) (hx : Passes CX X E) (he : PE X e te) (hd : (x == ("__debug__" : Str)) = false := by decide)
    (hst : starEach [.Starred e q] X.env = [(true, eval e X.env)] := by rfl) :
    PE X (.Call (.Name x p) [.Starred e q] [] pos) (fun σ H Q => te σ H fun y H1 => ∃ a xs, y = V.ref a ∧ (SqT X.K H1 a xs ∨ SqL X.K H1 a xs) ∧
      ∀ x dx, H1 x = none → H1 dx = none → dx ≠ x → sp (V.ref x :: xs) (upd (upd H1 dx (.own x)) x (.ins C dx [])) (fun v H2 => v = .non ∧ Q (.ref x) H2) E) := by
  refine ⟨fun pins s σ H Q I h => ?_⟩
  refine wpAny_Call_Name_kw (ld_glob I hg hm ?_ hd)
  refine PySem.W.callWith_S (h₀ := X.base) I.ok.mod.kin M.kp (thn (he.run pins s σ H _ I h) fun v s1 ⟨y, H1, I1, ry, a, xs, ey, hxs, z⟩ => ?_) hst
  subst ey
  obtain rfl : v = Value.ref a := ry
  exact StX.star_any I1 hxs fun us s2 I2 rv => ⟨I2.kIn, StX.run_makeR M F hr hx I2 rv z⟩
end
/-- what makes a deed: a word and names -/
def Good (us : List Str) : Prop := NoRep us ∧ 0 < us.length ∧ us.length ≤ 3
inductive DP : Str → List Str → Option Str → List Str → Prop
  | use {us : List Str} : Nms us → Good us → DP "use" us none us
  | make {m : Str} : Nms [m] → DP "make" [m] (some m) []
  | both {m : Str} {us : List Str} : Nms (m :: us) → Good us → DP "do" (m :: us) (some m) us
/-- what is refused of texts -/
theorem dueT (K : PySem.W.Frag) (H : Hp) (k : Nat) : ∀ ws : List Str, (∀ z ∈ ws, z.length ≤ 1000) → ∃ r, DueF K H (ws.map V.str) k r ∧ (r = none → Nms ws ∧ Good (ws.drop k)) := by
  intro ws short
  have look : ∀ l : List Str, (∀ z ∈ l, z.length ≤ 1000) → Nms l ∨ ∃ us z rest, l = us ++ z :: rest ∧ Nms us ∧ nm z = false := by
    intro l
    induction l with
    | nil => exact fun _ => .inl nofun
    | cons y l ih =>
      intro sh
      cases e : nm y with
      | false => exact .inr ⟨[], y, l, rfl, nofun, e⟩
      | true =>
        have me : y.length ≤ 1000 ∧ nm y = true := ⟨sh y List.mem_cons_self, e⟩
        rcases ih fun z hz => sh z (List.mem_cons_of_mem _ hz) with h | ⟨us, z, rest, e1, e2, e3⟩
        · exact .inl fun z hz => (List.mem_cons.mp hz).elim (fun q => by rw [q]; exact me) (h z)
        · exact .inr ⟨y :: us, z, rest, by rw [e1]; rfl, fun z hz => (List.mem_cons.mp hz).elim (fun q => by rw [q]; exact me) (e2 z), e3⟩
  rcases look ws short with h | ⟨us, z, rest, e1, e2, e3⟩
  · obtain ⟨r, hr⟩ := usedF_any (ws.drop k)
    refine ⟨r, .rest rfl h hr, fun e => ?_⟩
    subst e
    cases hr with
    | ok a b c => exact ⟨h, a, b, c⟩
  · refine ⟨_, .nm ⟨rest.map V.str, by rw [e1, List.map_append]; rfl, e2, .inl ⟨z, rfl, short z (by rw [e1]; simp), e3⟩⟩, fun e => by cases e⟩
/-- the classes of deeds -/
structure D3 where
  u : Addr
  m : Addr
  d : Addr
structure Dcs (K : PySem.W.Frag) (mg : Str → Option Value) (c : D3) (fU fM fD : Addr) : Prop where
  mu : Mk K c.u fU
  mm : Mk K c.m fM
  md : Mk K c.d fD
  gu : mg "Use" = some (.ref c.u)
  gm : mg "Make" = some (.ref c.m)
  gd : mg "Do" = some (.ref c.d)
  du : DCls K c.u
  dm : DCls K c.m
  dd : DCls K c.d
def D3.of (c : D3) : Option Str → List Str → Addr
  | none, _ => c.u
  | some _, [] => c.m
  | some _, _ :: _ => c.d
def mkV : Option Str → V
  | none => .non
  | some m => .str m
/-- a new deed -/
def NewD (c : D3) (H : Hp) (x : Addr) (mk : Option Str) (us : List Str) (H' : Hp) : Prop := Same H H' ∧ H x = none ∧ ∃ ys, Asc ys (mk.toList ++ us) ∧ Dd H' x (c.of mk us) us (mkV mk) ys
def spOf (K : PySem.W.Frag) (c : C4) (d : D3) : Sp := fun vs H Q E => ∃ (wd : Str) (p : Addr) (ws : List Str), vs = [.str wd, .ref p] ∧ wd.length ≤ 1000 ∧ SqL K H p (ws.map V.str) ∧ ws.length < 60 ∧ (∀ z ∈ ws, z.length ≤ 1000) ∧
  ((∃ mk us, DP wd ws mk us ∧ ∀ x H', NewD d H x mk us H' → Q (.ref x) H') ∨ ((∀ mk us, ¬ DP wd ws mk us) ∧ ∀ C y v dd H', (C = c.n ∨ C = c.t ∨ C = c.m ∨ C = c.d) → Told H dd y v H' → E (.ref C) (some dd) H'))
end K01

set_option Elab.async false
set_option linter.all false
set_option maxRecDepth 100000
set_option maxHeartbeats 4000000
namespace K01
open PySem L2 NX NU
open PyProof.Rows (sortedS)
abbrev sOf : Stmt := top 41
theorem scOf : FnScope ["word", "names"] ["word", "names"] (defScope sOf) := ⟨rfl, rfl, rfl, by decide +kernel, rfl, by decide +kernel, by decide +kernel⟩
theorem vstr {a b : Str} : decide (V.str a = V.str b) = decide (a = b) := by
  rw [Bool.eq_iff_iff, decide_eq_true_eq, decide_eq_true_eq]
  exact ⟨fun h => by injection h, fun h => by rw [h]⟩
theorem Ends.four {c : C4} {H : Hp} {E : XK} {ok : Prop} {r : Option Fa} (g : r = none → ok) (b : r ≠ none → ∀ C y v dd H', (C = c.n ∨ C = c.t ∨ C = c.m ∨ C = c.d) → Told H dd y v H' → E (.ref C) (some dd) H') : Ends c H E ok r := by
  cases r with
  | none => exact g rfl
  | some f =>
    intro d H' t
    refine b (fun e => by cases e) _ _ _ _ _ ?_ t
    cases f with
    | nm v => exact .inl rfl
    | tw z => exact .inr (.inl rfl)
    | mn => exact .inr (.inr (.inl rfl))
    | em => exact .inr (.inr (.inr rfl))
theorem made2 {H : Hp} {x dx C : Addr} (h1 : H x = none) (h2 : H dx = none) (h3 : dx ≠ x) : Same H (upd (upd H dx (.own x)) x (.ins C dx [])) := (Same.new h2).trans (Same.new (by rw [upd_ne (Ne.symm h3)]; exact h1))
/-- behind the making of an instance, and what its __init__ lays -/
theorem new_of {H H1 H' : Hp} {x : Addr} (h1 : H x = none) (s : Same H H1) (b : But x H1 H') : Same H H' := fun a o e => b a o (s a o e) (fun z => by rw [z, h1] at e; cases e)
theorem map_str {a b : List Str} (h : a.map V.str = b.map V.str) : a = b := (List.map_inj_right fun a b q => by injection q).mp h
theorem noStr_str {K : PySem.W.Frag} {H : Hp} {z : Str} (h : NoStr K H (.str z)) : False := by
  obtain ⟨t, ty, k⟩ := h
  have e : t = .type "str" := by
    cases ty with
    | base b => cases b; rfl
  subst e
  have y : PySem.W.kitOne K (.type "str") (.type "str") = some true := kit_ty (by decide +kernel)
  rw [k] at y
  cases y
theorem rep_no {ws : List Str} {i : Nat} {z : Str} (h : NoRep ws) (r : Rep ws i z) : False := h i z r.1 r.2.1
theorem due_good {K : PySem.W.Frag} {H : Hp} {k : Nat} {ws : List Str} {r : Option Fa} (a : Nms ws) (b : Good (ws.drop k)) (h : DueF K H (ws.map V.str) k r) : r = none := by
  cases h with
  | nm bd =>
    exfalso
    obtain ⟨l, e1, e2, e3⟩ := bd
    rename_i us v
    have m : v ∈ ws.map V.str := by rw [e1]; simp
    obtain ⟨z, hz, rfl⟩ := List.mem_map.mp m
    rcases e3 with ⟨z2, e, _, n⟩ | e3
    · injection e with e
      subst e
      rw [(a z hz).2] at n
      cases n
    · exact noStr_str e3
  | rest e1 e2 e3 =>
    have e1 := map_str e1
    subst e1
    obtain ⟨n1, n2, n3⟩ := b
    cases e3 with
    | tw r => exact (rep_no n1 r).elim
    | mn _ l => omega
    | em e => rw [e] at n2; cases n2
    | ok _ _ _ => rfl
section
variable {P : Program} {w : World} {K : PySem.W.Frag} {mg : Str → Option Value} {base : Heap}
/-- Use(*names), as deed_of calls it -/
theorem use_of {c : C4} {d : D3} {fU fM fD : Addr} (D : Dcs K mg d fU fM fD) {H : Hp} {Q : VK} {E : XK} {ws : List Str} (few : ws.length < 60) (short : ∀ z ∈ ws, z.length ≤ 1000)
    (h : (∃ mk us, DP "use" ws mk us ∧ ∀ x H', NewD d H x mk us H' → Q (.ref x) H') ∨ ((∀ mk us, ¬ DP "use" ws mk us) ∧ ∀ C y v dd H', (C = c.n ∨ C = c.t ∨ C = c.m ∨ C = c.d) → Told H dd y v H' → E (.ref C) (some dd) H')) :
    ∀ x dx, H x = none → H dx = none → dx ≠ x → spUse K c (V.ref x :: ws.map V.str) (upd (upd H dx (.own x)) x (.ins d.u dx [])) (fun v H2 => v = .non ∧ Q (.ref x) H2) E := by
  intro x dx h1 h2 h3
  have s1 := made2 (C := d.u) h1 h2 h3
  have lz : 60 ≤ sizeLine := by decide
  refine ⟨[.ref x], ws.map V.str, rfl, rfl, by rw [List.length_map]; omega, fun p hp => ?_⟩
  have s2 := s1.trans (Same.new (o := .tup (ws.map V.str)) hp)
  obtain ⟨r, hr, good⟩ := dueT K (upd (upd (upd H dx (.own x)) x (.ins d.u dx [])) p (.tup (ws.map V.str))) 0 ws short
  have px : x ≠ p := fun e => by rw [← e, upd_same] at hp; cases hp
  refine ⟨x, d.u, dx, p, ws.map V.str, r, rfl, D.du, (upd_ne px).trans upd_same, upd_same, by rw [List.length_map]; exact few, hr, .four (fun e => ?_) fun ne C y v dd H' hC t => ?_⟩
  · intro ws2 ys H' e2 asc but dd
    have e2 : ws = ws2 := map_str e2
    subst e2
    obtain ⟨n1, n2⟩ := good e
    rw [List.drop_zero] at n2
    refine ⟨rfl, ?_⟩
    rcases h with ⟨mk, us, dp, q⟩ | ⟨no, _⟩
    · cases dp with
      | use a b => exact q x H' ⟨new_of h1 s2 but, h1, ys, asc, dd⟩
    · exact absurd (.use n1 n2) (no _ _)
  · rcases h with ⟨mk, us, dp, q⟩ | ⟨_, q⟩
    · cases dp with
      | use a b =>
        exact absurd (due_good a (by rw [List.drop_zero]; exact b) hr) ne
    · exact q C y v dd H' hC (t.old s2)
/-- Do(*names), as deed_of calls it -/
theorem do_of {c : C4} {d : D3} {fU fM fD : Addr} (D : Dcs K mg d fU fM fD) {H : Hp} {Q : VK} {E : XK} {m : Str} {ws : List Str} (few : ws.length < 59) (short : ∀ z ∈ m :: ws, z.length ≤ 1000)
    (h : (∃ mk us, DP "do" (m :: ws) mk us ∧ ∀ x H', NewD d H x mk us H' → Q (.ref x) H') ∨ ((∀ mk us, ¬ DP "do" (m :: ws) mk us) ∧ ∀ C y v dd H', (C = c.n ∨ C = c.t ∨ C = c.m ∨ C = c.d) → Told H dd y v H' → E (.ref C) (some dd) H')) :
    ∀ x dx, H x = none → H dx = none → dx ≠ x → spDo K c (V.ref x :: (m :: ws).map V.str) (upd (upd H dx (.own x)) x (.ins d.d dx [])) (fun v H2 => v = .non ∧ Q (.ref x) H2) E := by
  intro x dx h1 h2 h3
  have s1 := made2 (C := d.d) h1 h2 h3
  have lz : 60 ≤ sizeLine := by decide
  refine ⟨[.ref x, .str m], ws.map V.str, rfl, rfl, by rw [List.length_map]; omega, fun p hp => ?_⟩
  have s2 := s1.trans (Same.new (o := .tup (ws.map V.str)) hp)
  obtain ⟨r, hr, good⟩ := dueT K (upd (upd (upd H dx (.own x)) x (.ins d.d dx [])) p (.tup (ws.map V.str))) 1 (m :: ws) short
  have px : x ≠ p := fun e => by rw [← e, upd_same] at hp; cases hp
  refine ⟨x, d.d, dx, p, .str m, ws.map V.str, r, rfl, D.dd, (upd_ne px).trans upd_same, upd_same, by rw [List.length_map]; omega, hr, .four (fun e => ?_) fun ne C y v dd H' hC t => ?_⟩
  · intro m2 ws2 ys H' e1 e2 asc but dd
    have e2 : ws = ws2 := map_str e2
    injection e1 with e1
    subst e1 e2
    obtain ⟨n1, n2⟩ := good e
    have n2 : Good ws := n2
    refine ⟨rfl, ?_⟩
    rcases h with ⟨mk, us, dp, q⟩ | ⟨no, _⟩
    · cases dp with
      | both a b =>
        refine q x H' ⟨new_of h1 s2 but, h1, ys, asc, ?_⟩
        cases ws with
        | nil => exact absurd b.2.1 (by decide)
        | cons z l => exact dd
    · exact absurd (.both n1 n2) (no _ _)
  · rcases h with ⟨mk, us, dp, q⟩ | ⟨_, q⟩
    · cases dp with
      | both a b => exact absurd (due_good (k := 1) a b hr) ne
    · exact q C y v dd H' hC (t.old s2)
/-- Make(name), as deed_of calls it -/
theorem make_of {c : C4} {d : D3} {fU fM fD : Addr} (D : Dcs K mg d fU fM fD) {H : Hp} {Q : VK} {E : XK} {m : Str} (short : m.length ≤ 1000)
    (h : (∃ mk us, DP "make" [m] mk us ∧ ∀ x H', NewD d H x mk us H' → Q (.ref x) H') ∨ ((∀ mk us, ¬ DP "make" [m] mk us) ∧ ∀ C y v dd H', (C = c.n ∨ C = c.t ∨ C = c.m ∨ C = c.d) → Told H dd y v H' → E (.ref C) (some dd) H')) :
    ∀ x dx, H x = none → H dx = none → dx ≠ x → spMake K c (V.ref x :: ([V.str m] ++ [])) (upd (upd H dx (.own x)) x (.ins d.m dx [])) (fun v H2 => v = .non ∧ Q (.ref x) H2) E := by
  intro x dx h1 h2 h3
  have s1 := made2 (C := d.m) h1 h2 h3
  refine ⟨x, d.m, dx, .str m, rfl, D.dm, upd_same, ?_⟩
  cases e : nm m with
  | true =>
    have n : Nms [m] := fun z hz => by rw [List.mem_singleton.mp hz]; exact ⟨short, e⟩
    refine .inl ⟨m, ⟨rfl, short, e⟩, fun H' but dd => ⟨rfl, ?_⟩⟩
    rcases h with ⟨mk, us, dp, q⟩ | ⟨no, _⟩
    · cases dp with
      | make a => exact q x H' ⟨new_of h1 s1 but, h1, [m], ⟨rfl, (by simp), fun y => by simp⟩, dd⟩
    · exact absurd (.make n) (no _ _)
  | false =>
    refine .inr ⟨.inl ⟨m, rfl, short, e⟩, fun dd H' t => ?_⟩
    rcases h with ⟨mk, us, dp, q⟩ | ⟨_, q⟩
    · cases dp with
      | make a =>
        have z := (a m (List.mem_singleton.mpr rfl)).2
        rw [e] at z
        cases z
    · exact q _ _ _ dd H' (.inl rfl) (t.old s1)
theorem ok_of {c : C4} {d : D3} {fU fM fD fE f : Addr} {fd fdm : FuncData} (F : Fun K "deed_of" "deed_of" sOf f fd) (T : TxtB mg) (D : Dcs K mg d fU fM fD) (U : FnR P w K mg base (L2N.CX P w) 5 fU (spUse K c)) (M : FnOk P w K mg base (L2N.CX P w) 4 fM fdm ["self", "name"] (spMake K c)) (hbm : Binds K fdm ["self", "name"] [])
    (O : FnR P w K mg base (L2N.CX P w) 5 fD (spDo K c)) (B : ErrC P w K mg base "BadDeed" "value" c.d fE) : FnOk P w K mg base (L2N.CX P w) 7 f fd ["word", "names"] (spOf K c d) := by
  obtain ⟨fde, Fe, hbe⟩ := B.ok
  refine NN.okN F scOf (fun vs H Q E h => ?_) (fun cdv A outer s H vs Q E hr h => ?_)
  · obtain ⟨wd, p, ws, rfl, _⟩ := h
    rfl
  · obtain ⟨wd, p, ws, rfl, hw, hS, few, short, h⟩ := h
    refine ⟨_, (pss_cons (ps_if (pt_cmpR op_eq (pv 0) pe_str (nomark _)) (pss_one (ps_ret (pe_makeS D.mu U hr rfl D.gu (NN.passN (L2N.takes_of rfl rfl rfl rfl)) (pv 1)))) pss_nil)
      (pss_cons (ps_if (PW.pt (pw_and (pt_cmpR op_eq (pv 0) pe_str (nomark _)) (pw_and1 (pt_cmpR op_eq (pe_callB call_len_seq (by rfl) T.blen (by decide +kernel) (pa_cons (pv 1) pa_nil)) pe_int (nomark _))))) (pss_one (ps_ret (pe_make (ds := []) (dvs := []) D.mm M (hr.mono (by decide)) rfl D.gm hbm .nil (NN.passN (L2N.takes_of rfl rfl rfl rfl)) (pa_cons (pe_ix ix_list (pv 1) pe_int (fun _ _ => rfl)) pa_nil)))) pss_nil)
      (pss_cons (ps_if (PW.pt (pw_and (pt_cmpR op_eq (pv 0) pe_str (nomark _)) (pw_and1 (pt_truth (pv 1) (fun _ => rfl))))) (pss_one (ps_ret (pe_makeS D.md O hr rfl D.gd (NN.passN (L2N.takes_of rfl rfl rfl rfl)) (pv 1)))) pss_nil)
      (pss_one (L2N.ps_raise rfl (L2N.takes_of rfl rfl rfl rfl) (NN.pmkN B.O B.i B.t Fe (hr.mono (by decide)) hbe pass0 rfl B.g (pa_cons (pv 0) pa_nil))))))), ?_⟩
    have bad : (∀ mk us, ¬ DP wd ws mk us) → ∀ dd H', Told H dd "value" (.str wd) H' → E (.ref c.d) (some dd) H' := fun no dd H' t => by
      rcases h with ⟨mk, us, dp, _⟩ | ⟨_, q⟩
      · exact absurd dp (no _ _)
      · exact q _ _ _ dd H' (.inr (.inr (.inr rfl))) t
    refine ⟨_, rfl, rfl, _, rfl, ?_⟩
    by_cases e1 : wd = "use"
    · subst e1
      exact iteT ⟨_, rfl, p, _, rfl, .inr hS, use_of D few short h⟩
    · rw [vstr, decide_eq_false e1]
      refine iteF ⟨_, rfl, rfl, _, rfl, ?_⟩
      by_cases e2 : wd = "make"
      · subst e2
        rw [vstr, decide_eq_true rfl]
        refine iteT ⟨_, rfl, p, _, rfl, .inl hS, rfl, _, rfl, ?_⟩
        match ws, hS, short, h, bad with
        | [m], hS, short, h, bad => exact iteT ⟨_, rfl, p, _, _, _, rfl, rfl, hS, rfl, make_of D (short m (by simp)) h⟩
        | [], hS, short, h, bad => exact iteF ⟨_, rfl, rfl, _, rfl, iteF ⟨_, rfl, mkO_of B.O B.v (bad fun mk us dp => by cases dp)⟩⟩
        | m :: n :: l, hS, short, h, bad =>
          have ne : ¬ V.int (((m :: n :: l).map V.str).length : Nat) = V.int 1 := fun z => by
            injection z with z
            rw [List.length_map] at z
            simp only [List.length_cons] at z
            omega
          rw [decide_eq_false ne]
          exact iteF ⟨_, rfl, rfl, _, rfl, iteF ⟨_, rfl, mkO_of B.O B.v (bad fun mk us dp => by cases dp)⟩⟩
      · rw [vstr, decide_eq_false e2]
        refine iteF (iteF ⟨_, rfl, rfl, _, rfl, ?_⟩)
        by_cases e3 : wd = "do"
        · subst e3
          rw [vstr, decide_eq_true rfl]
          refine iteT ⟨_, rfl, !(ws.map V.str).isEmpty, .inl ⟨_, hS, rfl⟩, ?_⟩
          cases ws with
          | nil => exact iteF ⟨_, rfl, mkO_of B.O B.v (bad fun mk us dp => by cases dp)⟩
          | cons m ws => exact iteT ⟨_, rfl, p, _, rfl, .inr hS, do_of D (Nat.lt_of_succ_lt_succ few) short h⟩
        · rw [vstr, decide_eq_false e3]
          refine iteF (iteF ⟨_, rfl, mkO_of B.O B.v (bad fun mk us dp => ?_)⟩)
          cases dp with
          | use a b => exact e1 rfl
          | make a => exact e2 rfl
          | both a b => exact e3 rfl
end
end K01

set_option Elab.async false
set_option linter.all false
set_option maxRecDepth 100000
set_option maxHeartbeats 4000000
namespace K01
open PySem L2 NX NU
open PyProof.Rows (sortedS)
abbrev sRead : Stmt := inClass (top 36) 3
theorem scRead : FnScope ["cls", "text", "word", "names"] ["cls", "text"] (defScope sRead) := ⟨rfl, rfl, rfl, by decide +kernel, rfl, by decide +kernel, by decide +kernel⟩
/-- the text of a deed -/
def DT (z : Str) (mk : Option Str) (us : List Str) : Prop := ∃ wd ws, Txt.split z " " = wd :: ws ∧ DP wd ws mk us
def NoDeed (K : PySem.W.Frag) (H : Hp) (v : V) : Prop := (∃ z, v = .str z ∧ z.length ≤ 1000 ∧ (Txt.split z " ").length ≤ 60 ∧ ∀ mk us, ¬ DT z mk us) ∨ NoStr K H v
def spRd (K : PySem.W.Frag) (c : C4) (d : D3) : Sp := fun vs H Q E => ∃ (a : Addr) (v : V), vs = [.ref a, v] ∧
  ((∃ z mk us, v = .str z ∧ z.length ≤ 1000 ∧ (Txt.split z " ").length ≤ 60 ∧ DT z mk us ∧ ∀ x H', NewD d H x mk us H' → Q (.ref x) H') ∨ (NoDeed K H v ∧ ∀ dd H', Told H dd "value" v H' → E (.ref c.d) (some dd) H'))
/-- the four errors are StowErrors -/
structure Stow (K : PySem.W.Frag) (mg : Str → Option Value) (c : C4) (CS : Addr) : Prop where
  g : mg "StowError" = some (.ref CS)
  n : PySem.W.exmOne K (.ref c.n) (.ref CS) = some true
  t : PySem.W.exmOne K (.ref c.t) (.ref CS) = some true
  m : PySem.W.exmOne K (.ref c.m) (.ref CS) = some true
  d : PySem.W.exmOne K (.ref c.d) (.ref CS) = some true
section
variable {P : Program} {w : World} {K : PySem.W.Frag} {mg : Str → Option Value} {base : Heap}
theorem ok_errDH {f : Addr} {fd : FuncData} (F : Fun K "__init__" "BadDeed.__init__" sErrD f fd) : L2H.FnH P w K mg base CX0 1 f fd ["self", "value"] (spErr K "value") := by
  obtain ⟨oc, od, kV, doc, pm, an, cdv, ct, osl, rfl, lk, cd⟩ := F.ex
  refine L2H.fn_ofH lk cd scErrD (fun vs H Q E h => ?_) fun A outer s H vs Q E p hot hr h => ?_
  · obtain ⟨a, C, v, rfl, _⟩ := h
    rfl
  · obtain ⟨a, C, v, rfl, T, hf, ha, k⟩ := h
    exact ⟨_, (pss_one (ps_ost (pv 0) (pv 1))), _, rfl, _, rfl, a, C, rfl, T, hf, .inl ⟨ha, fun dx h1 h2 => k dx h1 h2⟩⟩
/-- BadDeed, made where an error is handled -/
structure ErrH (P : Program) (w : World) (K : PySem.W.Frag) (mg : Str → Option Value) (base : Heap) (C fI : Addr) : Prop where
  ok : ∃ fd, L2H.FnH P w K mg base CX0 1 fI fd ["self", "value"] (spErr K "value") ∧ Binds K fd ["self", "value"] []
theorem ok_read {c : C4} {d : D3} {CS fE f : Addr} {fd : FuncData} (F : Fun K "read" "Deed.read" sRead f fd) (T : TxtB mg) (cOf : CalL P w K mg base 7 "deed_of" (spOf K c d)) (B : ErrC P w K mg base "BadDeed" "value" c.d fE) (BH : ErrH P w K mg base c.d fE) (S : Stow K mg c CS) :
    FnOk P w K mg base (L2.CX P w) 8 f fd ["cls", "text"] (spRd K c d) := by
  obtain ⟨fde, Fe, hbe⟩ := B.ok
  obtain ⟨fdh, Fh, hbh⟩ := BH.ok
  obtain ⟨fo, fdo, pso, Fo, go, ko, bo⟩ := cOf.ex
  refine F.okX scRead (fun vs H Q E h => ?_) (fun cdv A outer s H vs Q E hr h => ?_)
  · obtain ⟨a, v, rfl, _⟩ := h
    rfl
  · obtain ⟨a, v, rfl, h⟩ := h
    refine ⟨_, (pss_cons (ps_if (pt_not (pt_val (pe_callB call_isi (by rfl) T.bisinstance (by decide +kernel) (pa_cons (pv 1) (pa_cons (pe_bltn (v := .ty "str") (by rfl) T.bstr (by decide +kernel) rfl) pa_nil))))) (pss_one (L2.ps_raise rfl (L2.takes_of rfl rfl rfl rfl) (pmk_oex (ds := []) (dvs := []) B.O B.i B.t Fe (hr.mono (by decide)) hbe .nil pass0 rfl B.g (pa_cons (pv 1) pa_nil)))) pss_nil)
      (pss_cons (ps_asg (pe_split (pv 1) pe_str) (pg_star rfl (pgs_cons (pg_name (i := 2) scRead.nd rfl (Or.inl rfl)) (pgs_cons (pg_name (i := 3) scRead.nd rfl (Or.inl rfl)) pgs_nil))))
      (pss_one (L2H.ps_try_onlyX (c := .ref CS) (tb := fun W D σ H => tRet (tCallS (spOf K c d) (WE W) (tCons (tVar 2) (tCons (tVar 3) tNil))) D σ H) (ts := fun _ _ _ D σ H => tMkO c.d (spErr K "value") [] (tCons (tVar 1) tNil) σ H fun cls dd H' => E cls dd H') (Wout := fun cls dd _ H => E cls dd H)
        rfl rfl ⟨rfl, by decide, .inl S.g⟩ (fun hd => L2H.passesAt_of rfl hd) (L2.takes_of rfl rfl rfl rfl)
        (fun W pn xe tkN _ _ => pss_one (ps_ret (pe_callS Fo hr rfl go ko bo (fun σ => L2N.passAt tkN σ) (pa_cons (pv 2) (pa_cons (pv 3) pa_nil)))))
        (fun a oe cls dd pn _ _ tkL hot => pss_one (L2H.ps_raiseHN hot tkL (L2H.pmk5_oexH B.O B.i B.t Fh (L2H.roomH_mark (hr.mono (by decide)) _) hot hbh pass0 rfl B.g (pa_cons (pv 1) pa_nil)))))))), ?_⟩
    rcases (show (∃ z, v = .str z ∧ z.length ≤ 1000 ∧ (Txt.split z " ").length ≤ 60 ∧ ((∃ mk us, DT z mk us ∧ ∀ x H', NewD d H x mk us H' → Q (.ref x) H') ∨ ((∀ mk us, ¬ DT z mk us) ∧ ∀ dd H', Told H dd "value" v H' → E (.ref c.d) (some dd) H'))) ∨ (NoStr K H v ∧ ∀ dd H', Told H dd "value" v H' → E (.ref c.d) (some dd) H') from by
      rcases h with ⟨z, mk, us, e, hz, hl, dt, q⟩ | ⟨⟨z, e, hz, hl, no⟩ | ns, q⟩
      · exact .inl ⟨z, e, hz, hl, .inl ⟨mk, us, dt, q⟩⟩
      · exact .inl ⟨z, e, hz, hl, .inr ⟨no, q⟩⟩
      · exact .inr ⟨ns, q⟩) with ⟨z, rfl, hz, hl, h⟩ | ⟨⟨t, ty, k⟩, q⟩
    · refine ⟨_, rfl, _, _, _, _, true, rfl, .ty "str", .base (.str z), kit_ty (by decide +kernel), true, rfl, iteF ?_⟩
      refine ⟨_, rfl, ⟨z, rfl⟩, z, _, rfl, rfl, by decide +kernel, Nat.le_trans (Nat.add_le_add_right hz 2) (by decide), fun p hp => ?_⟩
      have pos := PyProof.Rows.split_pos z (Str.ofString " ")
      have sh : ∀ a, a ∈ Txt.split z (Str.ofString " ") → a.length ≤ 1000 := fun a ha => Nat.le_trans (PyProof.Rows.part_short ha) hz
      have s1 : Same H (upd H p (.lst ((Txt.split z (Str.ofString " ")).map V.str))) := Same.new hp
      obtain ⟨w0, rest, el⟩ : ∃ w0 rest, Txt.split z (Str.ofString " ") = w0 :: rest := by
        cases e : Txt.split z (Str.ofString " ") with
        | nil => rw [e] at pos; cases pos
        | cons a l => exact ⟨a, l, rfl⟩
      have hl : (Txt.split z (Str.ofString " ")).length ≤ 60 := hl
      rw [el] at hl sh s1
      rw [el]
      have hl : rest.length + 1 ≤ 60 := hl
      have ls : 1000 ≤ sizeLine := by decide
      refine ⟨p, .str w0, rest.map V.str, rfl, SqL.of upd_same, by rw [List.length_map]; omega, fun D hD => ?_⟩
      have s2 : Same H (upd (upd H p (.lst ((w0 :: rest).map V.str))) D (.lst (rest.map V.str))) := s1.trans (Same.new hD)
      refine ⟨_, _, rfl, _, _, rfl, rfl, _, rfl, _, rfl, w0, D, rest, rfl, sh w0 (by simp), SqL.of upd_same, by omega, fun y hy => sh y (List.mem_cons_of_mem _ hy), ?_⟩
      rcases h with ⟨mk, us, ⟨wd, ws, e1, dp⟩, q⟩ | ⟨no, q⟩
      · have e2 := el.symm.trans e1
        injection e2 with e3 e4
        subst e3 e4
        exact .inl ⟨mk, us, dp, fun x H' nd => q x H' ⟨s2.trans nd.1, sameNone s2 nd.2.1, nd.2.2⟩⟩
      · refine .inr ⟨fun mk us dp => no mk us ⟨w0, rest, el, dp⟩, fun C y v2 dd H' hC tl => ⟨true, ?_, fun _ a ha => ?_, fun z => by cases z⟩⟩
        · rcases hC with e | e | e | e <;> subst e
          · exact S.n
          · exact S.t
          · exact S.m
          · exact S.d
        · exact ⟨_, rfl, mkO_of B.O B.v fun d2 H2 t2 => q d2 H2 (t2.old (s2.trans tl.1))⟩
    · exact ⟨_, rfl, _, _, _, _, false, rfl, .ty "str", ty, k, false, rfl, iteT ⟨_, rfl, mkO_of B.O B.v q⟩⟩
end
end K01

set_option Elab.async false
set_option linter.all false
set_option maxRecDepth 100000
set_option maxHeartbeats 4000000
/-! What a deed tells: its names, its room, its text; what it is equal to. -/
namespace NX
open PySem PySem.Spec PyProof.Rows L2
/-- e.f, a property of the object's own class, which is read off the heap -/
def tPropG (K : PySem.W.Frag) (f : Str) (g : Addr) (sp : Sp) (E : XK) (ta : TE) : TE := fun σ H Q => ta σ H fun x H1 => ∃ a C dx fs p, x = .ref a ∧ H1 a = some (.ins C dx fs) ∧ Cls K C ∧ PropOf K C f p g ∧ sp [.ref a] H1 Q E
theorem pe_propG {X : Cx} {CX : CXT} {k : Nat} {g : Addr} {f : Str} {fd : FuncData} {ps : List Str} {sp : Sp} {E : XK} {e : Expr} {pos : Pos} {ta : TE} (he : PE X e ta) (F : FnOk X.prog X.w X.K X.mg X.base CX k g fd ps sp) (hr : Room (k + 1) X.A) (hb : Binds X.K fd ps []) (hx : Passes CX X.nox E)
    (hab : attributeBase e f X.env (eval e X.env) = eval e X.env) : PE X (.Attribute e f pos) (tPropG X.K f g sp E ta) := by
  refine ⟨fun pins s σ H Q I h => ?_⟩
  refine attr_of hab (thn (he.run pins s σ H _ I h) fun u s1 ⟨x, H1, I1, rx, a, C, dx, fs, p, ex, ea, c, hp, q⟩ => ?_)
  subst ex
  obtain rfl : u = Value.ref a := rx
  exact getprop_ok (dvs := []) I1 ea c hp F hr hb .nil hx q
end NX
namespace K01
open PySem L2 NX NU
abbrev sNames : Stmt := inClass (top 36) 1
abbrev sRoom : Stmt := inClass (top 36) 2
abbrev sDEq : Stmt := inClass (top 36) 4
abbrev sDStr : Stmt := inClass (top 36) 5
theorem scNames : FnScope ["self"] ["self"] (defScope sNames) := ⟨rfl, rfl, rfl, by decide +kernel, rfl, by decide +kernel, by decide +kernel⟩
theorem scRoom : FnScope ["self"] ["self"] (defScope sRoom) := ⟨rfl, rfl, rfl, by decide +kernel, rfl, by decide +kernel, by decide +kernel⟩
theorem scDEq : FnScope ["self", "other"] ["self", "other"] (defScope sDEq) := ⟨rfl, rfl, rfl, by decide +kernel, rfl, by decide +kernel, by decide +kernel⟩
theorem scDStr : FnScope ["self", "words"] ["self"] (defScope sDStr) := ⟨rfl, rfl, rfl, by decide +kernel, rfl, by decide +kernel, by decide +kernel⟩
/-- a deed at x -/
structure IsD (c : D3) (H : Hp) (x : Addr) (mk : Option Str) (us ys : List Str) : Prop where
  dd : Dd H x (c.of mk us) us (mkV mk) ys
  nu : ∀ z ∈ us, z.length ≤ 1000 ∧ nm z = true
  nm_ : ∀ m, mk = some m → m.length ≤ 1000 ∧ nm m = true
  few : us.length ≤ 3
  asc : Asc ys (mk.toList ++ us)
theorem Dd.same {H H' : Hp} {x C : Addr} {us ys : List Str} {v : V} (s : Same H H') (h : Dd H x C us v ys) : Dd H' x C us v ys := by
  obtain ⟨dx, p, q, a, b, c⟩ := h
  exact ⟨dx, p, q, s _ _ a, s _ _ b, s _ _ c⟩
theorem IsD.same {c : D3} {H H' : Hp} {x : Addr} {mk : Option Str} {us ys : List Str} (s : Same H H') (h : IsD c H x mk us ys) : IsD c H' x mk us ys := ⟨h.dd.same s, h.nu, h.nm_, h.few, h.asc⟩
/-- what the classes of deeds say of their methods -/
structure DMeth (K : PySem.W.Frag) (C fN pN fR pR fEq fSt : Addr) : Prop where
  c : DCls K C
  nm_ : PropOf K C "names" pN fN
  rm : PropOf K C "room" pR fR
  eq : NX.EqC K C fEq
theorem of3 {c : D3} {mk : Option Str} {us : List Str} {φ : Addr → Prop} (h1 : φ c.u) (h2 : φ c.m) (h3 : φ c.d) : φ (c.of mk us) := by
  match mk, us with
  | none, _ => exact h1
  | some _, [] => exact h2
  | some _, _ :: _ => exact h3
def spNames (K : PySem.W.Frag) (c : D3) : Sp := fun vs H Q _ => ∃ x mk us ys, vs = [.ref x] ∧ IsD c H x mk us ys ∧ ∀ q, H q = some (.tup (ys.map V.str)) → Q (.ref q) H
def spRoom (K : PySem.W.Frag) (c : D3) : Sp := fun vs H Q _ => ∃ x mk us ys, vs = [.ref x] ∧ IsD c H x mk us ys ∧ Q (.int (ys.length : Nat)) H
def deedW : Option Str → List Str → List Str
  | none, us => "use" :: us
  | some m, [] => ["make", m]
  | some m, us => "do" :: m :: us
def deedT (mk : Option Str) (us : List Str) : Str := Txt.join (Str.ofString " ") (deedW mk us)
def spDStr (c : D3) : Sp := fun vs H Q _ => ∃ x mk us ys, vs = [.ref x] ∧ IsD c H x mk us ys ∧ ∀ H', Same H H' → Q (.str (deedT mk us)) H'
def spDEq (K : PySem.W.Frag) (c : D3) (CD : Addr) : Sp := fun vs H Q _ => ∃ (x : Addr) (mk : Option Str) (us ys : List Str) (y : V), vs = [.ref x, y] ∧ IsD c H x mk us ys ∧
  ((∃ x2 mk2 us2 ys2, y = .ref x2 ∧ IsD c H x2 mk2 us2 ys2 ∧ Q (.bl (decide (us = us2) && decide (mk = mk2))) H) ∨ (∃ t, TyX K H y t ∧ PySem.W.kitOne K t (.ref CD) = some false ∧ Q (.bl false) H))
section
variable {P : Program} {w : World} {K : PySem.W.Frag} {mg : Str → Option Value} {base : Heap}
structure D3C (K : PySem.W.Frag) (c : D3) : Prop where
  u : DCls K c.u
  m : DCls K c.m
  d : DCls K c.d
theorem D3C.at_ {c : D3} (k : D3C K c) (mk : Option Str) (us : List Str) : DCls K (c.of mk us) := of3 k.u k.m k.d
theorem ok_names {c : D3} {f : Addr} {fd : FuncData} (F : Fun K "names" "Deed.names" sNames f fd) (k : D3C K c) : FnOk P w K mg base CX0 1 f fd ["self"] (spNames K c) := by
  refine F.ok scNames (fun vs H Q E h => ?_) (fun cdv A outer s H vs Q E hr h => ?_)
  · obtain ⟨x, mk, us, ys, rfl, _⟩ := h
    rfl
  · obtain ⟨x, mk, us, ys, rfl, hD, q⟩ := h
    have kc := k.at_ mk us
    obtain ⟨dx, p, r, h1, h2, h3⟩ := hD.dd
    exact ⟨_, (pss_one (ps_ret (pe_fld (pv 0) rfl))), _, rfl, x, _, dx, _, _, rfl, h1, kc.cl, kc.nn, rfl, q r h3⟩
theorem ok_room {c : D3} {fN pN f : Addr} {fd fdN : FuncData} (F : Fun K "room" "Deed.room" sRoom f fd) (T : TxtB mg) (k : D3C K c) (h1 : PropOf K c.u "names" pN fN) (h2 : PropOf K c.m "names" pN fN) (h3 : PropOf K c.d "names" pN fN) (FN : FnOk P w K mg base CX0 1 fN fdN ["self"] (spNames K c)) (hb : Binds K fdN ["self"] []) :
    FnOk P w K mg base CX0 3 f fd ["self"] (spRoom K c) := by
  refine F.ok scRoom (fun vs H Q E h => ?_) (fun cdv A outer s H vs Q E hr h => ?_)
  · obtain ⟨x, mk, us, ys, rfl, _⟩ := h
    rfl
  · obtain ⟨x, mk, us, ys, rfl, hD, q⟩ := h
    have kc := k.at_ mk us
    obtain ⟨dx, p, r, g1, g2, g3⟩ := id hD.dd
    refine ⟨_, (pss_one (ps_ret (pe_callB call_len_seq (by rfl) T.blen (by decide +kernel) (pa_cons (NX.pe_propG (pv 0) FN hr hb pass0 rfl) pa_nil)))), ?_⟩
    refine ⟨_, rfl, x, _, dx, _, pN, rfl, g1, kc.cl, of3 (φ := fun C => PropOf K C "names" pN fN) h1 h2 h3, x, mk, us, ys, rfl, hD, fun r2 hr2 => ?_⟩
    refine ⟨r2, _, rfl, .inr (SqT.of hr2), ?_⟩
    rw [List.length_map]
    exact q
theorem deedW_le {mk : Option Str} {us : List Str} : (deedW mk us).length ≤ us.length + 2 := by
  match mk, us with
  | none, us => show us.length + 1 ≤ _; omega
  | some m, [] => exact Nat.le_refl _
  | some m, z :: us => exact Nat.le_refl _
theorem deedW_short {mk : Option Str} {us : List Str} (h1 : ∀ z ∈ us, z.length ≤ 6) (h2 : ∀ m, mk = some m → m.length ≤ 6) : ∀ z ∈ deedW mk us, z.length ≤ 6 := by
  have k1 : ("use" : Str).length ≤ 6 := by decide +kernel
  have k2 : ("make" : Str).length ≤ 6 := by decide +kernel
  have k3 : ("do" : Str).length ≤ 6 := by decide +kernel
  intro z hz
  match mk, us, hz with
  | none, us, hz =>
    rcases List.mem_cons.mp hz with e | e
    · rw [e]; exact k1
    · exact h1 z e
  | some m, [], hz =>
    rcases List.mem_cons.mp hz with e | e
    · rw [e]; exact k2
    · rw [List.mem_singleton.mp e]; exact h2 m rfl
  | some m, y :: us, hz =>
    rcases List.mem_cons.mp hz with e | e
    · rw [e]; exact k3
    · rcases List.mem_cons.mp e with e | e
      · rw [e]; exact h2 m rfl
      · exact h1 z e
theorem sum6 : ∀ {l : List Str}, (∀ z ∈ l, z.length ≤ 6) → (l.map (·.length)).sum ≤ 6 * l.length
  | [], _ => by simp
  | a :: r, h => by
    have h1 := h a List.mem_cons_self
    have h2 := sum6 (l := r) fun z hz => h z (List.mem_cons_of_mem _ hz)
    simp only [List.map_cons, List.sum_cons, List.length_cons] at *
    omega
theorem nm_le {z : Str} (h : nm z = true) : 1 ≤ z.length ∧ z.length ≤ 6 := by
  unfold nm at h
  rw [Bool.and_eq_true, Bool.and_eq_true, decide_eq_true_eq, decide_eq_true_eq] at h
  exact ⟨h.1, h.2.1⟩
theorem ok_dstr {c : D3} {f : Addr} {fd : FuncData} (F : Fun K "__str__" "Deed.__str__" sDStr f fd) (k : D3C K c) : FnOk P w K mg base CX0 1 f fd ["self"] (spDStr c) := by
  refine F.ok scDStr (fun vs H Q E h => ?_) (fun cdv A outer s H vs Q E hr h => ?_)
  · obtain ⟨x, mk, us, ys, rfl, _⟩ := h
    rfl
  · obtain ⟨x, mk, us, ys, rfl, hD, q⟩ := h
    have kc := k.at_ mk us
    obtain ⟨dx, p, r, g1, g2, g3⟩ := id hD.dd
    refine ⟨_, (C8.pss_cut (ps_if (pt_cmpR op_isN (pe_fld (pv 0) rfl) pe_non (nomark _)) (pss_one (ps_set (i := 1) scDStr.nd rfl (Or.inl rfl) (pe_lst (pa_cons pe_str (StX.pa_star (pe_fld (pv 0) rfl) pa_nil)))))
      (pss_one (ps_if (pt_truth (pe_fld (pv 0) rfl) (by intro _; rfl)) (pss_one (ps_set (i := 1) scDStr.nd rfl (Or.inl rfl) (pe_lst (pa_cons pe_str (pa_cons (pe_fld (pv 0) rfl) (StX.pa_star (pe_fld (pv 0) rfl) pa_nil))))))
        (pss_one (ps_set (i := 1) scDStr.nd rfl (Or.inl rfl) (pe_lst (pa_cons pe_str (pa_cons (pe_fld (pv 0) rfl) pa_nil))))))))
      (pss_one (ps_ret (pe_join pe_str (pv 1))))), ?_⟩
    have few := hD.few
    have z100 : (100 : Nat) ≤ sizeLine := by decide
    refine ⟨fun σ H' => ∃ l, σ = [some (.ref x), some (.ref l)] ∧ Same H H' ∧ H' l = some (.lst ((deedW mk us).map V.str)), ?_, ?_⟩
    · match mk, us, hD, g1, g2, few with
      | none, us, hD, g1, g2, few =>
        refine ⟨_, rfl, x, _, dx, _, _, rfl, g1, kc.cl, kc.nk, rfl, rfl, _, rfl, iteT ?_⟩
        refine ⟨_, rfl, x, _, dx, _, _, rfl, g1, kc.cl, kc.nu, rfl, p, _, rfl, .inl (SqT.of g2), ?_⟩
        dsimp only [tNil]
        rw [List.append_nil]
        refine ⟨by show (us.map V.str).length + 1 ≤ sizeLine; rw [List.length_map]; omega, fun l hl => ⟨l, rfl, Same.new hl, upd_same⟩⟩
      | some m, [], hD, g1, g2, few =>
        refine ⟨_, rfl, x, _, dx, _, _, rfl, g1, kc.cl, kc.nk, rfl, rfl, _, rfl, iteF ?_⟩
        refine ⟨_, rfl, x, _, dx, _, _, rfl, g1, kc.cl, kc.nu, rfl, false, .inr (.inl ⟨_, SqT.of g2, rfl⟩), iteF ?_⟩
        exact ⟨_, rfl, x, _, dx, _, _, rfl, g1, kc.cl, kc.nk, rfl, by show 2 ≤ sizeLine; decide, fun l hl => ⟨l, rfl, Same.new hl, upd_same⟩⟩
      | some m, z :: us, hD, g1, g2, few =>
        refine ⟨_, rfl, x, _, dx, _, _, rfl, g1, kc.cl, kc.nk, rfl, rfl, _, rfl, iteF ?_⟩
        refine ⟨_, rfl, x, _, dx, _, _, rfl, g1, kc.cl, kc.nu, rfl, true, .inr (.inl ⟨_, SqT.of g2, rfl⟩), iteT ?_⟩
        refine ⟨_, rfl, x, _, dx, _, _, rfl, g1, kc.cl, kc.nk, rfl, _, rfl, x, _, dx, _, _, rfl, g1, kc.cl, kc.nu, rfl, p, _, rfl, .inl (SqT.of g2), ?_⟩
        dsimp only [tNil]
        rw [List.append_nil]
        refine ⟨by show ((z :: us).map V.str).length + 2 ≤ sizeLine; rw [List.length_map]; omega, fun l hl => ⟨l, rfl, Same.new hl, upd_same⟩⟩
    · rintro σ H' ⟨l, rfl, s1, hl⟩
      have e1 : (Str.ofString " ").length = 1 := by decide +kernel
      have k1 := deedW_le (mk := mk) (us := us)
      have k2 := sum6 (deedW_short (mk := mk) (us := us) (fun z hz => (nm_le (hD.nu z hz).2).2) fun m e => (nm_le (hD.nm_ m e).2).2)
      exact ⟨⟨_, rfl⟩, _, rfl, _, l, deedW mk us, rfl, rfl, .inl (SqL.of hl), by rw [e1]; omega, q H' s1⟩
/-- tuples of texts, as data -/
theorem eqvTup : ∀ (us vs : List Str), PyData.eqv (.tuple (us.map PyData.str)) (.tuple (vs.map PyData.str)) = decide (us = vs)
  | [], [] => rfl
  | [], b :: vs => rfl
  | a :: us, [] => rfl
  | a :: us, b :: vs => by
    have h := eqvTup us vs
    have e : PyData.eqv (.tuple ((a :: us).map PyData.str)) (.tuple ((b :: vs).map PyData.str)) = ((a == b) && PyData.eqv (.tuple (us.map PyData.str)) (.tuple (vs.map PyData.str))) := rfl
    rw [e, h, Bool.eq_iff_iff, Bool.and_eq_true, beq_iff_eq, decide_eq_true_eq, decide_eq_true_eq, List.cons.injEq]
/-- names have small signs -/
theorem nm_okS {z : Str} (h : nm z = true) : ∀ ch ∈ z.cps.toList, ch < 256 := fun ch hc => by
  unfold nm at h
  rw [Bool.and_eq_true, Bool.and_eq_true, List.all_eq_true] at h
  have z := h.2.2 ch hc
  unfold lett at z
  rw [Bool.and_eq_true, decide_eq_true_eq, decide_eq_true_eq] at z
  omega
theorem strOk_of {a : Str} (h : ∀ ch ∈ a.cps.toList, ch < 256) : PyData.strOk a = true := by
  show a.cps.all (fun x => decide (x < 1114112)) = true
  rw [← Array.all_toList, List.all_eq_true]
  exact fun c hc => decide_eq_true (Nat.lt_trans (h c hc) (by decide))
theorem canTup : ∀ {us : List Str}, (∀ z ∈ us, nm z = true) → PyData.canLayAll0 (us.map PyData.str) = true
  | [], _ => rfl
  | a :: r, h => by
    have h1 := strOk_of (nm_okS (h a List.mem_cons_self))
    have h2 := canTup (us := r) fun z hz => h z (List.mem_cons_of_mem _ hz)
    show (PyData.strOk a && PyData.canLayAll0 (r.map PyData.str)) = true
    rw [h1, h2]
    rfl
theorem depTup : ∀ us : List Str, PyData.depthAll (us.map PyData.str) ≤ 1
  | [] => by decide
  | a :: r => by
    have h := depTup r
    show max _ _ ≤ 1
    exact Nat.max_le.mpr ⟨by show 0 ≤ 1; exact Nat.zero_le _, h⟩
theorem shapedTup {us : List Str} (h : ∀ z ∈ us, nm z = true) : SeqAt.shaped (.tuple (us.map PyData.str)) = true := by
  have h1 := canTup h
  have h2 := depTup us
  unfold SeqAt.shaped
  rw [Bool.and_eq_true, decide_eq_true_eq]
  refine ⟨h1, ?_⟩
  show _ + 1 ≤ 64
  omega
theorem dpTup {K : PySem.W.Frag} {H : Hp} : ∀ us : List Str, DpAll K H (us.map V.str) (us.map PyData.str)
  | [] => .nil
  | a :: r => .cons (.str _) (dpTup r)
theorem mkV_inj {a b : Option Str} : decide (mkV a = mkV b) = decide (a = b) := by
  rw [Bool.eq_iff_iff, decide_eq_true_eq, decide_eq_true_eq]
  refine ⟨fun h => ?_, fun h => by rw [h]⟩
  match a, b, h with
  | none, none, _ => rfl
  | some x, some y, h => injection h with h; rw [h]
  | none, some y, h => cases h
  | some x, none, h => cases h
structure DTy (K : PySem.W.Frag) (c : D3) (CD : Addr) : Prop where
  sp : PySem.W.specialIn K (.builtin "object.__class__") "__get__" = some (some (.builtin "getset_descriptor.__get__"))
  tk : PySem.W.takesIn K (.builtin "object.__class__") = some true
  cu : PySem.W.findIn K (.ref c.u) "__class__" = some (some (.builtin "object.__class__")) ∧ PySem.W.mroIn K c.u (.type "object") = some true
  cm : PySem.W.findIn K (.ref c.m) "__class__" = some (some (.builtin "object.__class__")) ∧ PySem.W.mroIn K c.m (.type "object") = some true
  cd : PySem.W.findIn K (.ref c.d) "__class__" = some (some (.builtin "object.__class__")) ∧ PySem.W.mroIn K c.d (.type "object") = some true
  ku : PySem.W.kitOne K (.ref c.u) (.ref CD) = some true
  km : PySem.W.kitOne K (.ref c.m) (.ref CD) = some true
  kd : PySem.W.kitOne K (.ref c.d) (.ref CD) = some true
theorem DTy.ty {c : D3} {CD : Addr} (t : DTy K c CD) (k : D3C K c) {H : Hp} {x : Addr} {mk : Option Str} {us ys : List Str} (h : IsD c H x mk us ys) : TyX K H (.ref x) (.ref (c.of mk us)) := by
  obtain ⟨dx, p, q, h1, h2, h3⟩ := h.dd
  have z := of3 (c := c) (mk := mk) (us := us) (φ := fun C => PySem.W.findIn K (.ref C) "__class__" = some (some (.builtin "object.__class__")) ∧ PySem.W.mroIn K C (.type "object") = some true) t.cu t.cm t.cd
  exact .base (.ins h1 (k.at_ mk us).cl z.1 t.sp t.tk z.2)
theorem ok_deq {c : D3} {CD : Addr} {f : Addr} {fd : FuncData} (F : Fun K "__eq__" "Deed.__eq__" sDEq f fd) (T : TxtB mg) (k : D3C K c) (t : DTy K c CD) (gD : mg "Deed" = some (.ref CD)) : FnOk P w K mg base CX0 1 f fd ["self", "other"] (spDEq K c CD) := by
  refine F.ok scDEq (fun vs H Q E h => ?_) (fun cdv A outer s H vs Q E hr h => ?_)
  · obtain ⟨x, mk, us, ys, y, rfl, _⟩ := h
    rfl
  · obtain ⟨x, mk, us, ys, y, rfl, hD, h⟩ := h
    have kc := k.at_ mk us
    obtain ⟨dx, p, r, g1, g2, g3⟩ := id hD.dd
    refine ⟨_, (pss_one (ps_ret (pe_and (pe_callB call_isi (by rfl) T.bisinstance (by decide +kernel) (pa_cons (pv 1) (pa_cons (C8.pe_gc (v := .ref CD) rfl ⟨_, gD, rfl⟩) pa_nil))) (pe_and (pe_cmpR (op_eqD hr.units) (pe_fld (pv 0) rfl) (pe_fld (pv 1) rfl) (nomark _)) (pe_one (pe_cmpR op_eq (pe_fld (pv 0) rfl) (pe_fld (pv 1) rfl) (nomark _))))))), ?_⟩
    rcases h with ⟨x2, mk2, us2, ys2, rfl, hD2, q⟩ | ⟨ty, hty, kt, q⟩
    · have kc2 := k.at_ mk2 us2
      obtain ⟨dx2, p2, r2, f1, f2, f3⟩ := id hD2.dd
      have kk := of3 (c := c) (mk := mk2) (us := us2) (φ := fun C => PySem.W.kitOne K (.ref C) (.ref CD) = some true) t.ku t.km t.kd
      refine ⟨_, rfl, _, _, _, _, true, rfl, .own CD, t.ty k hD2, kk, true, rfl, iteT ?_⟩
      refine ⟨_, rfl, x, _, dx, _, _, rfl, g1, kc.cl, kc.nu, rfl, _, rfl, x2, _, dx2, _, _, rfl, f1, kc2.cl, kc2.nu, rfl, _, _, .tup (SqT.of g2) (dpTup us), .tup (SqT.of f2) (dpTup us2), shapedTup (fun z hz => (hD.nu z hz).2), shapedTup (fun z hz => (hD2.nu z hz).2), ?_⟩
      rw [eqvTup]
      refine ⟨_, rfl, ite2 (fun h1 => ?_) (fun h1 => ?_)⟩
      · refine ⟨_, rfl, x, _, dx, _, _, rfl, g1, kc.cl, kc.nk, rfl, _, rfl, x2, _, dx2, _, _, rfl, f1, kc2.cl, kc2.nk, rfl, ?_⟩
        refine ⟨?_, ?_⟩
        · cases mk <;> cases mk2 <;> rfl
        · have e := mkV_inj (a := mk) (b := mk2)
          rw [h1, Bool.true_and] at q
          rw [← e] at q
          exact q
      · rw [Bool.eq_false_iff.mpr h1] at q
        exact q
    · exact ⟨_, rfl, _, _, _, _, false, rfl, .own CD, hty, kt, false, rfl, iteF q⟩
end
end K01

set_option Elab.async false
set_option linter.all false
set_option maxRecDepth 100000
set_option maxHeartbeats 4000000
/-! The law's draws: some of a pool, names. -/
namespace K01
open PySem L2 NX NU
abbrev sSome : Stmt := top 46
abbrev sLNames : Stmt := top 47
theorem scSome : FnScope ["_law_pen_here", "_law_pool", "_law_least", "_law_most", "_law_left", "_law_many", "_law_lap"] ["_law_pen_here", "_law_pool", "_law_least", "_law_most"] (defScope sSome) := ⟨rfl, rfl, rfl, by decide +kernel, rfl, by decide +kernel, by decide +kernel⟩
theorem scLNames : FnScope ["_law_pen_here", "_law_many", "_law_pools"] ["_law_pen_here", "_law_many"] (defScope sLNames) := ⟨rfl, rfl, rfl, by decide +kernel, rfl, by decide +kernel, by decide +kernel⟩
theorem sqL_same {K : PySem.W.Frag} {H H' : Hp} {a : Addr} {xs : List V} (s : Same H H') (h : SqL K H a xs) : SqL K H' a xs := by
  rcases h with (h | ⟨o, h⟩) | h
  · exact .inl (.inl (s _ _ h))
  · exact .inl (.inr ⟨o, s _ _ h⟩)
  · exact .inr h
theorem samePut {H H' : Hp} {D : Addr} {o : HO} (s : Same H H') (h : H D = none) : Same H (upd H' D o) := fun b u hb => by
  rw [upd_ne (ne_of_none hb h)]
  exact s b u hb
/-- some of ws, each once, in any order -/
def Part (ws xs : List Str) : Prop := ∃ left, (xs ++ left).Perm ws
def spSome (K : PySem.W.Frag) : Sp := fun vs H Q _ => ∃ (p c : Addr) (ns : List Int) (at_ rest : Int) (l : Addr) (ws : List Str) (least most : Nat), vs = [.ref p, .ref l, .int (least : Int), .int (most : Int)] ∧ Pen H p c ns at_ rest ∧ at_ ≤ 900000 ∧ SqL K H l (ws.map V.str) ∧ ws.length ≤ 100 ∧ least ≤ most ∧ least ≤ ws.length ∧
  ∀ r xs H', H r = none → H' r = some (.lst (xs.map V.str)) → Part ws xs → least ≤ xs.length → xs.length ≤ most → Drawn H p c ns (at_ + 1 + ws.length) H' → Q (.ref r) H'
def rLen (K : PySem.W.Frag) : List V → Hp → VK → Prop := fun xs H Q => ∃ p ys, xs = [.ref p] ∧ (SqL K H p ys ∨ SqT K H p ys) ∧ Q (.int ys.length) H
/-- what stands while some is drawn -/
structure SomeI (H H' : Hp) (p c : Addr) (ns : List Int) (m : Int) (e D : Addr) (ws xs : List Str) : Prop where
  pen : ∃ a r, Pen H' p c ns a r ∧ a ≤ m
  but : But p H H'
  ex : ∃ left : List Str, H' e = some (.lst (left.map V.str)) ∧ (xs ++ left).Perm ws
  hD : H' D = some (.lst (xs.map V.str))
theorem seqIx {j n : Nat} (h : j < n) : seqIndex? (j : Int) n = some j := by
  unfold seqIndex?
  simp
  omega
theorem erase_map : ∀ (l : List Str) (j : Nat), (l.map V.str).eraseIdx j = (l.eraseIdx j).map V.str
  | [], _ => rfl
  | a :: l, 0 => rfl
  | a :: l, j + 1 => congrArg (V.str a :: ·) (erase_map l j)
theorem perm_pop : ∀ {left : List Str} {j : Nat} (h : j < left.length), (left[j] :: left.eraseIdx j).Perm left
  | a :: l, 0, _ => List.Perm.refl _
  | a :: l, j + 1, h => by
    have hj : j < l.length := by simpa using h
    exact (List.Perm.swap a l[j] (l.eraseIdx j)).trans ((perm_pop hj).cons a)
section
variable {P : Program} {w : World} {K : PySem.W.Frag} {mg : Str → Option Value} {base : Heap}
theorem ok_some {f : Addr} {fd : FuncData} (F : Fun K "_law_some" "_law_some" sSome f fd) (T : TxtB mg) (bmin : mg "min" = none) (cDraw : C8.Cal P w K mg base 1 "_law_draw" spDraw []) : FnOk P w K mg base CX0 2 f fd ["_law_pen_here", "_law_pool", "_law_least", "_law_most"] (spSome K) := by
  refine F.ok scSome (fun vs H Q E h => ?_) (fun cdv A outer s H vs Q E hr h => ?_)
  · obtain ⟨p, c, ns, a, r, l, ws, x, y, rfl, _⟩ := h
    rfl
  · obtain ⟨p, c, ns, at_, rest, l, ws, least, most, rfl, Pn, ha, hS, h100, hlm, hlw, k⟩ := h
    refine ⟨_, (pss_cons (ps_set (i := 4) scSome.nd rfl (Or.inr rfl) (pe_callTy call_list_of (by rfl) T.blist (by decide +kernel) (pa_cons (pv 1) pa_nil)))
      (pss_cons (ps_set (i := 5) scSome.nd rfl (Or.inl rfl) (pe_op op_add (pv 2) (C8.pe_c cDraw hr (by decide) rfl (pa_cons (pv 0) (pa_cons (pe_op op_add (pe_op op_sub (pe_callB (call_min2 rfl) (by rfl) bmin (by decide +kernel) (pa_cons (pv 3) (pa_cons (pe_callB call_len_seq (by rfl) T.blen (by decide +kernel) (pa_cons (pv 1) pa_nil)) pa_nil))) (pv 2)) pe_int) pa_nil)))))
      (pss_one (ps_ret (pe_lc (own := [("_law_lap", 6)]) (g := gName 6) rfl scSome.nd (pi_range1 (by rfl) T.brange (pa_cons (pv 5) pa_nil)) (blkOk_by (own := [("_law_lap", 6)]) (N := ["_law_pen_here", "_law_pool", "_law_least", "_law_most", "_law_left", "_law_many", "_law_lap"]) (sc := defScope sSome) (by decide +kernel)) (fun _ _ _ _ _ => (pg_name (i := 6) scSome.nd rfl (Or.inl rfl))) (fun _ _ _ _ _ => pts_nil)
        (fun _ _ _ _ _ => (show PE _ _ (tBM K "list" rPopAt (tVar 4) (tCons (tCall spDraw [] C8.E0 (tCons (tVar 0) (tCons (tCB (rLen K) (tCons (tVar 4) tNil)) tNil))) tNil)) from pe_bm PySem.F.plainAttrs_list PySem.F.slot_list_pop PySem.F.type_list_pop mt_popAt (pv 4) (pa_cons (C8.pe_c cDraw hr (by decide) rfl (pa_cons (pv 0) (pa_cons (pe_callB (show CallR _ (.builtin "len") (rLen K) from call_len_seq) (by rfl) T.blen (by decide +kernel) (pa_cons (pv 4) pa_nil)) pa_nil))) pa_nil)))))))), ?_⟩
    refine ⟨_, rfl, l, _, rfl, .inl hS, fun e he => ?_⟩
    have s1 : Same H (upd H e (.lst (ws.map V.str))) := Same.new he
    have P1 := Pn.same s1
    have hl1 := sqL_same s1 hS
    have he1 : (upd H e (.lst (ws.map V.str))) e = some (.lst (ws.map V.str)) := upd_same
    have ep : e ≠ p := fun z => by rw [z, Pn.hp] at he; cases he
    have ec : e ≠ c := fun z => by rw [z, Pn.hc] at he; cases he
    generalize (upd H e (.lst (ws.map V.str))) = H1 at *
    refine ⟨_, rfl, _, rfl, _, rfl, _, rfl, l, _, rfl, .inl hl1, _, _, rfl, _, rfl, _, _, rfl, rfl, _, _, rfl, rfl, ?_⟩
    have hmn : (if ((ws.map V.str).length : Int) < (most : Int) then ((ws.map V.str).length : Int) else (most : Int)) = ((min ws.length most : Nat) : Int) := by
      rw [List.length_map]
      split <;> omega
    rw [hmn]
    refine ⟨p, c, ns, at_, rest, _, rfl, P1, by omega, by omega, by omega, fun d H2 d0 d1 hd => ?_⟩
    obtain ⟨dn, rfl⟩ := Int.eq_ofNat_of_zero_le d0
    obtain ⟨at2, rest2, P2, l2, B2⟩ := hd
    have he2 := B2 _ _ he1 ep
    have B02 : But p H H2 := (But.same s1).trans B2
    refine ⟨_, _, rfl, rfl, ?_⟩
    refine ⟨_, rfl, _, rfl, by omega, by omega, ?_⟩
    have et : ((least : Int) + (dn : Int)).toNat = least + dn := by omega
    rw [et]
    intro D hD
    have Dp : D ≠ p := fun z => by rw [z, P2.hp] at hD; cases hD
    have Dc : D ≠ c := fun z => by rw [z, P2.hc] at hD; cases hD
    have De : e ≠ D := fun z => by rw [← z, he2] at hD; cases hD
    have hle : least + dn ≤ ws.length := by omega
    have HD0 : H D = none := by
      cases q : H D with
      | none => rfl
      | some o =>
        rw [B02 _ _ q Dp] at hD
        cases hD
    have z100 : (200 : Nat) ≤ sizeLine := by decide
    refine lc_range (lo := 0) (n := least + dn) (fun i H' => ∃ xs, xs.length = i ∧ SomeI H H' p c ns (at_ + 1 + i) e D ws xs) ?_ ?_ ?_
    · refine ⟨[], rfl, ⟨at2, rest2, ⟨(upd_ne (Ne.symm Dp)).trans P2.hp, (upd_ne (Ne.symm Dc)).trans P2.hc, P2.la, P2.lr⟩, by omega⟩, fun b o hb n => ?_, ⟨ws, (upd_ne De).trans he2, List.Perm.refl _⟩, upd_same⟩
      rw [upd_ne (fun z => by rw [z, HD0] at hb; cases hb)]
      exact B02 b o hb n
    · rintro i H' hi ⟨xs, hx, ⟨⟨a, r, P3, l3⟩, B3, ⟨left, he3, pm⟩, hD3⟩⟩
      have hlen := pm.length_eq
      rw [List.length_append] at hlen
      have hpos : 0 < left.length := by omega
      refine ⟨rfl, ?_⟩
      unfold tYes
      dsimp only
      rw [if_pos rfl]
      refine ⟨_, rfl, .inl ⟨rfl, _, SqL.of he3⟩, ?_⟩
      refine ⟨_, rfl, _, rfl, e, _, rfl, .inl (SqL.of he3), ?_⟩
      rw [List.length_map]
      refine ⟨p, c, ns, a, r, _, rfl, P3, by omega, by omega, by omega, fun d H4 d0 d1 hd => ?_⟩
      obtain ⟨j, rfl⟩ := Int.eq_ofNat_of_zero_le d0
      obtain ⟨a4, r4, P4, l4, B4⟩ := hd
      have hj : j < left.length := by omega
      have he4 := B4 _ _ he3 ep
      have hD4 := B4 _ _ hD3 Dp
      refine ⟨e, _, _, j, .str left[j], rfl, rfl, he4, by omega, by omega, seqIx (by rw [List.length_map]; exact hj), by rw [List.getElem?_map, List.getElem?_eq_getElem hj]; rfl, ?_⟩
      have eE : (left.map V.str).eraseIdx j = (left.eraseIdx j).map V.str := erase_map left j
      rw [eE]
      have HE0 : ∀ b o, H b = some o → b ≠ e := fun b o hb z => by rw [z, he] at hb; cases hb
      refine ⟨_, (upd_ne (Ne.symm De)).trans hD4, by rw [List.length_map]; omega, xs ++ [left[j]], by rw [List.length_append, hx]; rfl, ⟨a4, r4, ⟨?_, ?_, P4.la, P4.lr⟩, by omega⟩, fun b o hb n => ?_, ⟨left.eraseIdx j, ?_, ?_⟩, ?_⟩
      · rw [upd_ne (Ne.symm Dp), upd_ne (Ne.symm ep)]
        exact P4.hp
      · rw [upd_ne (Ne.symm Dc), upd_ne (Ne.symm ec)]
        exact P4.hc
      · rw [upd_ne (fun z => by rw [z, HD0] at hb; cases hb), upd_ne (HE0 b o hb)]
        exact B4 b o (B3 b o hb n) n
      · rw [upd_ne De]
        exact upd_same
      · rw [List.append_assoc]
        exact (List.Perm.append_left xs (perm_pop hj)).trans pm
      · rw [upd_same, List.map_append]
        rfl
    · rintro H' ⟨xs, hx, ⟨⟨a, r, P3, l3⟩, B3, ⟨left, he3, pm⟩, hD3⟩⟩
      exact k D xs H' HD0 hD3 ⟨left, pm⟩ (by omega) (by omega) ⟨a, r, P3, by omega, B3⟩
end
end K01

set_option Elab.async false
set_option linter.all false
set_option maxRecDepth 100000
set_option maxHeartbeats 4000000
/-! The law's names. -/
namespace K01
open PySem L2 NX NU
def poolA : List Str := ["a", "b", "c", "d", "e", "f"]
def poolB : List Str := ["x", "xy", "xyz", "xyzz", "xyzzz", "xyzzzz"]
def poolC : List Str := ["use", "make", "do", "loop", "end", "given"]
def poolD : List Str := ["zzzzzz", "aaaaaa", "azazaz", "z", "again", "store"]
theorem pools_ok : [poolA, poolB, poolC, poolD].all (fun l => decide (l.length = 6) && decide l.Nodup && l.all (fun z => nm z)) = true := by decide +kernel
theorem pool_at {l : List Str} (h : l ∈ [poolA, poolB, poolC, poolD]) : l.length = 6 ∧ l.Nodup ∧ ∀ z ∈ l, nm z = true := by
  have q := List.all_eq_true.mp pools_ok l h
  rw [Bool.and_eq_true, Bool.and_eq_true, decide_eq_true_eq, decide_eq_true_eq, List.all_eq_true] at q
  exact ⟨q.1.1, q.1.2, q.2⟩
theorem Part.mem {ws xs : List Str} (h : Part ws xs) : ∀ z ∈ xs, z ∈ ws := fun z hz => by
  obtain ⟨left, pm⟩ := h
  exact pm.subset (List.mem_append_left _ hz)
theorem Part.nodup {ws xs : List Str} (h : Part ws xs) (n : ws.Nodup) : xs.Nodup := by
  obtain ⟨left, pm⟩ := h
  have := pm.nodup_iff.mpr n
  exact (List.nodup_append.mp this).1
/-- names, each once -/
def Uni (xs : List Str) : Prop := xs.Nodup ∧ ∀ z ∈ xs, nm z = true
def spLNames : Sp := fun vs H Q _ => ∃ (p c : Addr) (ns : List Int) (at_ rest : Int), vs = [.ref p, .int 6] ∧ Pen H p c ns at_ rest ∧ at_ ≤ 800000 ∧
  ∀ r xs H', H r = none → H' r = some (.lst (xs.map V.str)) → Uni xs → xs.length = 6 → Drawn H p c ns (at_ + 10) H' → Q (.ref r) H'
section
variable {P : Program} {w : World} {K : PySem.W.Frag} {mg : Str → Option Value} {base : Heap}
theorem ok_lnames {f : Addr} {fd : FuncData} (F : Fun K "_law_names" "_law_names" sLNames f fd) (cPick : C8.Cal P w K mg base 2 "_law_pick" (spPick K) []) (cSome : C8.Cal P w K mg base 2 "_law_some" (spSome K) []) : FnOk P w K mg base CX0 3 f fd ["_law_pen_here", "_law_many"] spLNames := by
  refine F.ok scLNames (fun vs H Q E h => ?_) (fun cdv A outer s H vs Q E hr h => ?_)
  · obtain ⟨p, c, ns, a, r, rfl, _⟩ := h
    rfl
  · obtain ⟨p, c, ns, at_, rest, rfl, Pn, ha, k⟩ := h
    refine ⟨_, (pss_cons (ps_set (i := 2) scLNames.nd rfl (Or.inl rfl) (pe_lst (pa_cons (pe_lst (pa_cons pe_str (pa_cons pe_str (pa_cons pe_str (pa_cons pe_str (pa_cons pe_str (pa_cons pe_str pa_nil))))))) (pa_cons (pe_lst (pa_cons pe_str (pa_cons pe_str (pa_cons pe_str (pa_cons pe_str (pa_cons pe_str (pa_cons pe_str pa_nil))))))) pa_nil))))
      (pss_cons (ps_expr (pe_bm PySem.F.plainAttrs_list PySem.F.slot_list_append PySem.F.type_list_append mt_append (pv 2) (pa_cons (pe_lst (pa_cons pe_str (pa_cons pe_str (pa_cons pe_str (pa_cons pe_str (pa_cons pe_str (pa_cons pe_str pa_nil))))))) pa_nil)))
      (pss_cons (ps_expr (pe_bm PySem.F.plainAttrs_list PySem.F.slot_list_append PySem.F.type_list_append mt_append (pv 2) (pa_cons (pe_lst (pa_cons pe_str (pa_cons pe_str (pa_cons pe_str (pa_cons pe_str (pa_cons pe_str (pa_cons pe_str pa_nil))))))) pa_nil)))
      (pss_one (ps_ret (C8.pe_c cSome hr (by decide) rfl (pa_cons (pv 0) (pa_cons (C8.pe_c cPick hr (by decide) rfl (pa_cons (pv 0) (pa_cons (pv 2) pa_nil))) (pa_cons (pv 1) (pa_cons (pv 1) pa_nil)))))))))), ?_⟩
    refine ⟨by show 6 ≤ sizeLine; decide, fun a1 h1 => ⟨by show 6 ≤ sizeLine; decide, fun a2 h2 => ⟨by show 2 ≤ sizeLine; decide, fun l h3 => ?_⟩⟩⟩
    have eA : poolA.map V.str = [V.str (Str.ofString "a"), V.str (Str.ofString "b"), V.str (Str.ofString "c"), V.str (Str.ofString "d"), V.str (Str.ofString "e"), V.str (Str.ofString "f")] := rfl
    have eB : poolB.map V.str = [V.str (Str.ofString "x"), V.str (Str.ofString "xy"), V.str (Str.ofString "xyz"), V.str (Str.ofString "xyzz"), V.str (Str.ofString "xyzzz"), V.str (Str.ofString "xyzzzz")] := rfl
    have eC : poolC.map V.str = [V.str (Str.ofString "use"), V.str (Str.ofString "make"), V.str (Str.ofString "do"), V.str (Str.ofString "loop"), V.str (Str.ofString "end"), V.str (Str.ofString "given")] := rfl
    have eD : poolD.map V.str = [V.str (Str.ofString "zzzzzz"), V.str (Str.ofString "aaaaaa"), V.str (Str.ofString "azazaz"), V.str (Str.ofString "z"), V.str (Str.ofString "again"), V.str (Str.ofString "store")] := rfl
    rw [← eA] at h2
    rw [← eA, ← eB] at h3
    rw [← eA, ← eB]
    have S1 := Same.new (o := .lst (poolA.map V.str)) h1
    have S2 := Same.new (o := .lst (poolB.map V.str)) h2
    have S3 := Same.new (o := .lst [.ref a1, .ref a2]) h3
    have g1 := (S2.trans S3) _ _ (upd_same (H := H) (a := a1) (o := .lst (poolA.map V.str)))
    have g2 := S3 _ _ (upd_same (H := upd H a1 (.lst (poolA.map V.str))) (a := a2) (o := .lst (poolB.map V.str)))
    have gl : (upd (upd (upd H a1 (.lst (poolA.map V.str))) a2 (.lst (poolB.map V.str))) l (.lst [.ref a1, .ref a2])) l = some (.lst [.ref a1, .ref a2]) := upd_same
    have SA := (S1.trans S2).trans S3
    have hl0 : H l = none := sameNone (S1.trans S2) h3
    clear S1 S2 S3 h1 h2 h3
    generalize (upd (upd (upd H a1 (.lst (poolA.map V.str))) a2 (.lst (poolB.map V.str))) l (.lst [.ref a1, .ref a2])) = G1 at *
    refine ⟨_, rfl, .inl ⟨rfl, _, SqL.of gl⟩, by show 6 ≤ sizeLine; decide, fun a3 h3 => ?_⟩
    rw [← eC]
    have S3 := Same.new (o := .lst (poolC.map V.str)) h3
    have n3 : a3 ≠ l := fun z => by rw [z, gl] at h3; cases h3
    have n1 : a1 ≠ l := fun z => by rw [z, gl] at g1; cases g1
    have n2 : a2 ≠ l := fun z => by rw [z, gl] at g2; cases g2
    have g3 : (upd G1 a3 (.lst (poolC.map V.str))) a3 = some (.lst (poolC.map V.str)) := upd_same
    have g1 := S3 _ _ g1
    have g2 := S3 _ _ g2
    have gl := S3 _ _ gl
    have SA := SA.trans S3
    clear S3 h3
    generalize (upd G1 a3 (.lst (poolC.map V.str))) = G2 at *
    refine ⟨l, _, _, rfl, rfl, gl, by show 2 < sizeLine; decide, ?_⟩
    have g1 : (upd G2 l (.lst ([.ref a1, .ref a2] ++ [.ref a3]))) a1 = some (.lst (poolA.map V.str)) := (upd_ne n1).trans g1
    have g2 : (upd G2 l (.lst ([.ref a1, .ref a2] ++ [.ref a3]))) a2 = some (.lst (poolB.map V.str)) := (upd_ne n2).trans g2
    have g3 : (upd G2 l (.lst ([.ref a1, .ref a2] ++ [.ref a3]))) a3 = some (.lst (poolC.map V.str)) := (upd_ne n3).trans g3
    have SA : Same H (upd G2 l (.lst ([.ref a1, .ref a2] ++ [.ref a3]))) := samePut SA hl0
    have gl : (upd G2 l (.lst ([.ref a1, .ref a2] ++ [.ref a3]))) l = some (.lst [.ref a1, .ref a2, .ref a3]) := upd_same
    generalize (upd G2 l (.lst ([.ref a1, .ref a2] ++ [.ref a3]))) = G3 at *
    refine ⟨_, rfl, .inl ⟨rfl, _, SqL.of gl⟩, by show 6 ≤ sizeLine; decide, fun a4 h4 => ?_⟩
    rw [← eD]
    have S4 := Same.new (o := .lst (poolD.map V.str)) h4
    have n4 : a4 ≠ l := fun z => by rw [z, gl] at h4; cases h4
    have g4 : (upd G3 a4 (.lst (poolD.map V.str))) a4 = some (.lst (poolD.map V.str)) := upd_same
    have g1 := S4 _ _ g1
    have g2 := S4 _ _ g2
    have g3 := S4 _ _ g3
    have gl := S4 _ _ gl
    have SA := SA.trans S4
    clear S4 h4
    generalize (upd G3 a4 (.lst (poolD.map V.str))) = G4 at *
    refine ⟨l, _, _, rfl, rfl, gl, by show 3 < sizeLine; decide, ?_⟩
    have g1 : (upd G4 l (.lst ([.ref a1, .ref a2, .ref a3] ++ [.ref a4]))) a1 = some (.lst (poolA.map V.str)) := (upd_ne n1).trans g1
    have g2 : (upd G4 l (.lst ([.ref a1, .ref a2, .ref a3] ++ [.ref a4]))) a2 = some (.lst (poolB.map V.str)) := (upd_ne n2).trans g2
    have g3 : (upd G4 l (.lst ([.ref a1, .ref a2, .ref a3] ++ [.ref a4]))) a3 = some (.lst (poolC.map V.str)) := (upd_ne n3).trans g3
    have g4 : (upd G4 l (.lst ([.ref a1, .ref a2, .ref a3] ++ [.ref a4]))) a4 = some (.lst (poolD.map V.str)) := (upd_ne n4).trans g4
    have SA : Same H (upd G4 l (.lst ([.ref a1, .ref a2, .ref a3] ++ [.ref a4]))) := samePut SA hl0
    have gl : (upd G4 l (.lst ([.ref a1, .ref a2, .ref a3] ++ [.ref a4]))) l = some (.lst [.ref a1, .ref a2, .ref a3, .ref a4]) := upd_same
    generalize (upd G4 l (.lst ([.ref a1, .ref a2, .ref a3] ++ [.ref a4]))) = G5 at *
    have P5 := Pn.same SA
    have lp : l ≠ p := fun z => by rw [z, Pn.hp] at hl0; cases hl0
    refine ⟨_, rfl, _, rfl, _, rfl, p, c, ns, at_, rest, .ref l, rfl, P5, by omega, .inl ⟨l, _, rfl, SqL.of gl, lp, by show 0 < 4; decide, by show 4 < 1000; decide, fun v H6 hv hd => ?_⟩⟩
    obtain ⟨ws, a, rfl, ha5, hws⟩ : ∃ ws a, v = .ref a ∧ G5 a = some (.lst (ws.map V.str)) ∧ ws ∈ [poolA, poolB, poolC, poolD] := by
      simp only [List.mem_cons, List.not_mem_nil, or_false] at hv
      rcases hv with e | e | e | e
      · exact ⟨poolA, a1, e, g1, by simp⟩
      · exact ⟨poolB, a2, e, g2, by simp⟩
      · exact ⟨poolC, a3, e, g3, by simp⟩
      · exact ⟨poolD, a4, e, g4, by simp⟩
    obtain ⟨w6, wn, wk⟩ := pool_at hws
    obtain ⟨a6, r6, P6, l6, B6⟩ := hd
    have ap : a ≠ p := fun z => by
      rw [z, P5.hp] at ha5
      injection ha5 with h
      injection h with h
      cases ws with
      | nil => cases h
      | cons y ys => injection h with h; cases h
    have ha6 := B6 _ _ ha5 ap
    refine ⟨_, rfl, _, rfl, p, c, ns, a6, r6, a, ws, 6, 6, rfl, P6, by omega, SqL.of ha6, by omega, by omega, by omega, fun r xs H7 hr0 hr7 pt h1 h2 hd7 => ?_⟩
    obtain ⟨a7, r7, P7, l7, B7⟩ := hd7
    have B06 : But p H H6 := (But.same SA).trans B6
    have hrH : H r = none := by
      cases q : H r with
      | none => rfl
      | some o =>
        have rp : r ≠ p := fun z => by rw [z, P6.hp] at hr0; cases hr0
        rw [B06 _ _ q rp] at hr0
        cases hr0
    exact k r xs H7 hrH hr7 ⟨pt.nodup wn, fun z hz => wk z (pt.mem z hz)⟩ (by omega) ⟨a7, r7, P7, by omega, B06.trans B7⟩
end
end K01

set_option Elab.async false
set_option linter.all false
set_option maxRecDepth 100000
set_option maxHeartbeats 4000000
/-! The law's deeds. -/
namespace K01
open PySem L2 NX NU
abbrev sReal : Stmt := top 48
abbrev sLot : Stmt := top 49
abbrev sText : Stmt := top 50
theorem scReal : FnScope ["_law_made", "_law_used"] ["_law_made", "_law_used"] (defScope sReal) := ⟨rfl, rfl, rfl, by decide +kernel, rfl, by decide +kernel, by decide +kernel⟩
theorem scLot : FnScope ["_law_pen_here", "_law_known", "_law_way", "_law_used", "_law_made"] ["_law_pen_here", "_law_known"] (defScope sLot) := ⟨rfl, rfl, rfl, by decide +kernel, rfl, by decide +kernel, by decide +kernel⟩
theorem scText : FnScope ["_law_made", "_law_used"] ["_law_made", "_law_used"] (defScope sText) := ⟨rfl, rfl, rfl, by decide +kernel, rfl, by decide +kernel, by decide +kernel⟩
/-- what a deed is made of -/
structure LotOk (mk : Option Str) (us : List Str) : Prop where
  u : Uni us
  few : us.length ≤ 3
  m : ∀ z, mk = some z → nm z = true
  some_ : mk = none → 0 < us.length
theorem noRep_of {us : List Str} (h : us.Nodup) : NoRep us := fun i z hz hm => by
  obtain ⟨j, hj, e⟩ := List.mem_iff_getElem.mp hm
  rw [List.getElem_take] at e
  obtain ⟨hi, ez⟩ := List.getElem?_eq_some_iff.mp hz
  have hj' : j < i := by rw [List.length_take] at hj; omega
  have := (List.pairwise_iff_getElem.mp h) j i (by omega) hi hj'
  exact this (by rw [e, ez])
theorem LotOk.nms {mk : Option Str} {us : List Str} (h : LotOk mk us) : Nms us := fun z hz => by
  have q := h.u.2 z hz
  have := nm_le q
  exact ⟨by omega, q⟩
theorem LotOk.nmM {mk : Option Str} {us : List Str} (h : LotOk mk us) {m : Str} (e : mk = some m) : m.length ≤ 1000 ∧ nm m = true := by
  have q := h.m m e
  have := nm_le q
  exact ⟨by omega, q⟩
def NewI (d : D3) (H : Hp) (x : Addr) (mk : Option Str) (us : List Str) (H' : Hp) : Prop := Same H H' ∧ H x = none ∧ ∃ ys, IsD d H' x mk us ys
def spReal (K : PySem.W.Frag) (d : D3) : Sp := fun vs H Q _ => ∃ (l : Addr) (mk : Option Str) (us : List Str), vs = [mkV mk, .ref l] ∧ SqL K H l (us.map V.str) ∧ LotOk mk us ∧ ∀ x H', NewI d H x mk us H' → Q (.ref x) H'
section
variable {P : Program} {w : World} {K : PySem.W.Frag} {mg : Str → Option Value} {base : Heap}
theorem real_use {c : C4} {d : D3} {fU fM fD : Addr} {H : Hp} {us : List Str} {Q : VK} {E : XK} (D : Dcs K mg d fU fM fD) (ok : LotOk none us) (k : ∀ x H', NewI d H x none us H' → Q (.ref x) H') :
    ∀ x dx, H x = none → H dx = none → dx ≠ x → spUse K c (V.ref x :: us.map V.str) (upd (upd H dx (.own x)) x (.ins d.u dx [])) (fun v H2 => v = .non ∧ Q (.ref x) H2) E := by
  intro x dx h1 h2 h3
  have s1 := made2 (C := d.u) h1 h2 h3
  have lz : 60 ≤ sizeLine := by decide
  have few := ok.few
  refine ⟨[.ref x], us.map V.str, rfl, rfl, by rw [List.length_map]; omega, fun p hp => ?_⟩
  have s2 := s1.trans (Same.new (o := .tup (us.map V.str)) hp)
  have px : x ≠ p := fun e => by rw [← e, upd_same] at hp; cases hp
  refine ⟨x, d.u, dx, p, us.map V.str, none, rfl, D.du, (upd_ne px).trans upd_same, upd_same, by rw [List.length_map]; omega, .rest rfl ok.nms (.ok (noRep_of ok.u.1) (ok.some_ rfl) few), fun ws ys H2 e asc but dd => ?_⟩
  have e : us = ws := map_str e
  subst e
  have s3 := new_of h1 s2 but
  exact ⟨rfl, k x H2 ⟨s3, h1, ys, dd, ok.nms, (fun m e => by cases e), few, asc⟩⟩
theorem real_do {c : C4} {d : D3} {fU fM fD : Addr} {H : Hp} {m z0 : Str} {us : List Str} {Q : VK} {E : XK} (D : Dcs K mg d fU fM fD) (ok : LotOk (some m) (z0 :: us)) (k : ∀ x H', NewI d H x (some m) (z0 :: us) H' → Q (.ref x) H') :
    ∀ x dx, H x = none → H dx = none → dx ≠ x → spDo K c (V.ref x :: V.str m :: (z0 :: us).map V.str) (upd (upd H dx (.own x)) x (.ins d.d dx [])) (fun v H2 => v = .non ∧ Q (.ref x) H2) E := by
  intro x dx h1 h2 h3
  have s1 := made2 (C := d.d) h1 h2 h3
  have lz : 60 ≤ sizeLine := by decide
  have few := ok.few
  refine ⟨[.ref x, .str m], (z0 :: us).map V.str, rfl, rfl, by rw [List.length_map]; omega, fun p hp => ?_⟩
  have s2 := s1.trans (Same.new (o := .tup ((z0 :: us).map V.str)) hp)
  have px : x ≠ p := fun e => by rw [← e, upd_same] at hp; cases hp
  refine ⟨x, d.d, dx, p, .str m, (z0 :: us).map V.str, none, rfl, D.dd, (upd_ne px).trans upd_same, upd_same, by rw [List.length_map]; omega, .rest (ws := m :: z0 :: us) rfl (fun z hz => (List.mem_cons.mp hz).elim (fun e => by rw [e]; exact ok.nmM rfl) (ok.nms z)) (.ok (noRep_of ok.u.1) (by show 0 < us.length + 1; omega) few), fun m' ws ys H2 em e asc but dd => ?_⟩
  injection em with em
  subst em
  have e : z0 :: us = ws := map_str e
  subst e
  have s3 := new_of h1 s2 but
  exact ⟨rfl, k x H2 ⟨s3, h1, ys, dd, ok.nms, (fun y e => ok.nmM e), few, asc⟩⟩
theorem real_make {c : C4} {d : D3} {fU fM fD : Addr} {H : Hp} {m : Str} {Q : VK} {E : XK} (D : Dcs K mg d fU fM fD) (ok : LotOk (some m) []) (k : ∀ x H', NewI d H x (some m) [] H' → Q (.ref x) H') :
    ∀ x dx, H x = none → H dx = none → dx ≠ x → spMake K c (V.ref x :: ([V.str m] ++ [])) (upd (upd H dx (.own x)) x (.ins d.m dx [])) (fun v H2 => v = .non ∧ Q (.ref x) H2) E := by
  intro x dx h1 h2 h3
  have s1 := made2 (C := d.m) h1 h2 h3
  have hm := ok.nmM rfl
  refine ⟨x, d.m, dx, .str m, rfl, D.dm, upd_same, .inl ⟨m, ⟨rfl, hm.1, hm.2⟩, fun H2 but dd => ?_⟩⟩
  have s3 := new_of h1 s1 but
  exact ⟨rfl, k x H2 ⟨s3, h1, [m], dd, nofun, (fun y e => ok.nmM e), by decide, ⟨rfl, by simp, by simp⟩⟩⟩
theorem upto3 {α : Type} {xs : List α} (h : xs.length ≤ 3) : xs = [] ∨ (∃ a, xs = [a]) ∨ (∃ a b, xs = [a, b]) ∨ ∃ a b c, xs = [a, b, c] := by
  cases xs with
  | nil => exact .inl rfl
  | cons a xs =>
  cases xs with
  | nil => exact .inr (.inl ⟨a, rfl⟩)
  | cons b xs =>
  cases xs with
  | nil => exact .inr (.inr (.inl ⟨a, b, rfl⟩))
  | cons c xs =>
  cases xs with
  | nil => exact .inr (.inr (.inr ⟨a, b, c, rfl⟩))
  | cons f xs =>
    simp only [List.length_cons] at h
    omega
theorem ok_real {c : C4} {d : D3} {fU fM fD : Addr} {fdM : FuncData} {f : Addr} {fd : FuncData} (F : Fun K "_law_real_deed" "_law_real_deed" sReal f fd) (T : TxtB mg) (D : Dcs K mg d fU fM fD) (FU : FnR P w K mg base (CX P w) 5 fU (spUse K c)) (FM : FnOk P w K mg base (CX P w) 4 fM fdM ["self", "name"] (spMake K c)) (hbM : Binds K fdM ["self", "name"] []) (FD : FnR P w K mg base (CX P w) 5 fD (spDo K c)) :
    FnOk P w K mg base CX0 7 f fd ["_law_made", "_law_used"] (spReal K d) := by
  refine F.ok scReal (fun vs H Q E h => ?_) (fun cdv A outer s H vs Q E hr h => ?_)
  · obtain ⟨l, mk, us, rfl, _⟩ := h
    rfl
  · obtain ⟨l, mk, us, rfl, hS, ok, k⟩ := h
    have few := ok.few
    refine ⟨_, (pss_cons (ps_if (pt_cmpR op_isN (pv 0) pe_non (nomark _)) (pss_cons (ps_if (pt_cmpR op_eq (pe_callB call_len_seq (by rfl) T.blen (by decide +kernel) (pa_cons (pv 1) pa_nil)) pe_int (nomark _)) (pss_one (ps_ret (StX.pe_makeR D.mu FU (hr.mono (by decide)) rfl D.gu passL (pa_cons (pe_ix ix_list (pv 1) pe_int (fun _ _ => rfl)) pa_nil)))) pss_nil) (pss_one (ps_ret (pe_ifExp (pt_cmpR op_eq (pe_callB call_len_seq (by rfl) T.blen (by decide +kernel) (pa_cons (pv 1) pa_nil)) pe_int (nomark _)) (StX.pe_makeR D.mu FU (hr.mono (by decide)) rfl D.gu passL (pa_cons (pe_ix ix_list (pv 1) pe_int (fun _ _ => rfl)) (pa_cons (pe_ix ix_list (pv 1) pe_int (fun _ _ => rfl)) pa_nil))) (StX.pe_makeR D.mu FU (hr.mono (by decide)) rfl D.gu passL (pa_cons (pe_ix ix_list (pv 1) pe_int (fun _ _ => rfl)) (pa_cons (pe_ix ix_list (pv 1) pe_int (fun _ _ => rfl)) (pa_cons (pe_ix ix_list (pv 1) pe_int (fun _ _ => rfl)) pa_nil)))))))) pss_nil)
      (pss_cons (ps_if (pt_cmpR (op_eqD hr.units) (pv 1) (pe_lst pa_nil) (nomark _)) (pss_one (ps_ret (pe_make D.mm FM (hr.mono (by decide)) rfl D.gm hbM .nil passL (pa_cons (pv 0) pa_nil)))) pss_nil)
      (pss_cons (ps_if (pt_cmpR op_eq (pe_callB call_len_seq (by rfl) T.blen (by decide +kernel) (pa_cons (pv 1) pa_nil)) pe_int (nomark _)) (pss_one (ps_ret (StX.pe_makeR D.md FD (hr.mono (by decide)) rfl D.gd passL (pa_cons (pv 0) (pa_cons (pe_ix ix_list (pv 1) pe_int (fun _ _ => rfl)) pa_nil))))) pss_nil)
      (pss_one (ps_ret (pe_ifExp (pt_cmpR op_eq (pe_callB call_len_seq (by rfl) T.blen (by decide +kernel) (pa_cons (pv 1) pa_nil)) pe_int (nomark _)) (StX.pe_makeR D.md FD (hr.mono (by decide)) rfl D.gd passL (pa_cons (pv 0) (pa_cons (pe_ix ix_list (pv 1) pe_int (fun _ _ => rfl)) (pa_cons (pe_ix ix_list (pv 1) pe_int (fun _ _ => rfl)) pa_nil)))) (StX.pe_makeR D.md FD (hr.mono (by decide)) rfl D.gd passL (pa_cons (pv 0) (pa_cons (pe_ix ix_list (pv 1) pe_int (fun _ _ => rfl)) (pa_cons (pe_ix ix_list (pv 1) pe_int (fun _ _ => rfl)) (pa_cons (pe_ix ix_list (pv 1) pe_int (fun _ _ => rfl)) pa_nil))))))))))), ?_⟩
    cases mk with
    | none =>
      have h0 := ok.some_ rfl
      refine ⟨_, rfl, rfl, _, rfl, iteT ?_⟩
      rcases upto3 few with rfl | ⟨z0, rfl⟩ | ⟨z0, z1, rfl⟩ | ⟨z0, z1, z2, rfl⟩
      · exact absurd h0 (by decide)
      · refine ⟨_, rfl, l, _, rfl, .inl hS, rfl, _, rfl, iteT ?_⟩
        refine ⟨_, rfl, l, _, ((0 : Nat) : Int), _, rfl, rfl, hS, atI_nat rfl, ?_⟩
        exact real_use (us := [z0]) D ok k
      · refine ⟨_, rfl, l, _, rfl, .inl hS, rfl, _, rfl, iteF ?_⟩
        refine ⟨_, rfl, l, _, rfl, .inl hS, rfl, _, rfl, iteT ?_⟩
        refine ⟨_, rfl, l, _, ((0 : Nat) : Int), _, rfl, rfl, hS, atI_nat rfl, _, rfl, l, _, ((1 : Nat) : Int), _, rfl, rfl, hS, atI_nat rfl, ?_⟩
        exact real_use (us := [z0, z1]) D ok k
      · refine ⟨_, rfl, l, _, rfl, .inl hS, rfl, _, rfl, iteF ?_⟩
        refine ⟨_, rfl, l, _, rfl, .inl hS, rfl, _, rfl, iteF ?_⟩
        refine ⟨_, rfl, l, _, ((0 : Nat) : Int), _, rfl, rfl, hS, atI_nat rfl, _, rfl, l, _, ((1 : Nat) : Int), _, rfl, rfl, hS, atI_nat rfl, _, rfl, l, _, ((2 : Nat) : Int), _, rfl, rfl, hS, atI_nat rfl, ?_⟩
        exact real_use (us := [z0, z1, z2]) D ok k
    | some m =>
      refine ⟨_, rfl, rfl, _, rfl, iteF ?_⟩
      refine ⟨_, rfl, by show 0 ≤ sizeLine; decide, fun u hu => ?_⟩
      have s1 : Same H (upd H u (.lst [])) := Same.new hu
      have hS1 := sqL_same s1 hS
      have k1 : ∀ x H', NewI d (upd H u (.lst [])) x (some m) us H' → Q (.ref x) H' := fun x H' n => k x H' ⟨s1.trans n.1, sameNone s1 n.2.1, n.2.2⟩
      refine ⟨_, _, .lst hS1 (dpTup us), .lst (SqL.of upd_same) .nil, shapedTup (fun z hz => ok.u.2 z hz), by decide +kernel, _, rfl, ?_⟩
      rcases upto3 few with rfl | ⟨z0, rfl⟩ | ⟨z0, z1, rfl⟩ | ⟨z0, z1, z2, rfl⟩
      · refine iteT ⟨_, rfl, ?_⟩
        exact real_make D ok k1
      · refine iteF ?_
        refine ⟨_, rfl, l, _, rfl, .inl hS1, rfl, _, rfl, iteT ?_⟩
        refine ⟨_, rfl, _, rfl, l, _, ((0 : Nat) : Int), _, rfl, rfl, hS1, atI_nat rfl, ?_⟩
        exact real_do (us := []) D ok k1
      · refine iteF ?_
        refine ⟨_, rfl, l, _, rfl, .inl hS1, rfl, _, rfl, iteF ?_⟩
        refine ⟨_, rfl, l, _, rfl, .inl hS1, rfl, _, rfl, iteT ?_⟩
        refine ⟨_, rfl, _, rfl, l, _, ((0 : Nat) : Int), _, rfl, rfl, hS1, atI_nat rfl, _, rfl, l, _, ((1 : Nat) : Int), _, rfl, rfl, hS1, atI_nat rfl, ?_⟩
        exact real_do (us := [z1]) D ok k1
      · refine iteF ?_
        refine ⟨_, rfl, l, _, rfl, .inl hS1, rfl, _, rfl, iteF ?_⟩
        refine ⟨_, rfl, l, _, rfl, .inl hS1, rfl, _, rfl, iteF ?_⟩
        refine ⟨_, rfl, _, rfl, l, _, ((0 : Nat) : Int), _, rfl, rfl, hS1, atI_nat rfl, _, rfl, l, _, ((1 : Nat) : Int), _, rfl, rfl, hS1, atI_nat rfl, _, rfl, l, _, ((2 : Nat) : Int), _, rfl, rfl, hS1, atI_nat rfl, ?_⟩
        exact real_do (us := [z1, z2]) D ok k1
end
end K01

set_option Elab.async false
set_option linter.all false
set_option maxRecDepth 100000
set_option maxHeartbeats 4000000
namespace K01
open PySem L2 NX NU
/-- a lot at t: what is made, the list of what is used -/
def LotAt (H : Hp) (t u : Addr) (mk : Option Str) (us : List Str) : Prop := H t = some (.tup [mkV mk, .ref u]) ∧ H u = some (.lst (us.map V.str)) ∧ LotOk mk us
def spLot : Sp := fun vs H Q _ => ∃ (p c : Addr) (ns : List Int) (at_ rest : Int) (l : Addr) (ws : List Str), vs = [.ref p, .ref l] ∧ Pen H p c ns at_ rest ∧ at_ ≤ 800000 ∧ H l = some (.lst (ws.map V.str)) ∧ l ≠ p ∧ Uni ws ∧ ws.length = 6 ∧
  ∀ t u mk us H', H t = none → H u = none → LotAt H' t u mk us → Drawn H p c ns (at_ + 10) H' → Q (.ref t) H'
def spText (K : PySem.W.Frag) : Sp := fun vs H Q _ => ∃ (l : Addr) (mk : Option Str) (us : List Str), vs = [mkV mk, .ref l] ∧ H l = some (.lst (us.map V.str)) ∧ LotOk mk us ∧ ∀ H', Same H H' → Q (.str (deedT mk us)) H'
theorem Uni.part {ws xs : List Str} (h : Uni ws) (p : Part ws xs) : Uni xs := ⟨p.nodup h.1, fun z hz => h.2 z (p.mem z hz)⟩
section
variable {P : Program} {w : World} {K : PySem.W.Frag} {mg : Str → Option Value} {base : Heap}
theorem drawnNone {H H' : Hp} {p c r : Addr} {ns : List Int} {x y : Int} (P : Pen H' p c ns x y) (B : But p H H') (h : H' r = none) : H r = none := by
  cases q : H r with
  | none => rfl
  | some o =>
    have rp : r ≠ p := fun z => by rw [z, P.hp] at h; cases h
    rw [B _ _ q rp] at h
    cases h
theorem ok_lot {f : Addr} {fd : FuncData} (F : Fun K "_law_lot" "_law_lot" sLot f fd) (cDraw : C8.Cal P w K mg base 1 "_law_draw" spDraw []) (cPick : C8.Cal P w K mg base 2 "_law_pick" (spPick K) []) (cSome : C8.Cal P w K mg base 2 "_law_some" (spSome K) []) : FnOk P w K mg base CX0 3 f fd ["_law_pen_here", "_law_known"] spLot := by
  refine F.ok scLot (fun vs H Q E h => ?_) (fun cdv A outer s H vs Q E hr h => ?_)
  · obtain ⟨p, c, ns, a, r, l, ws, rfl, _⟩ := h
    rfl
  · obtain ⟨p, c, ns, at_, rest, l, ws, rfl, Pn, ha, hl, lp, hU, h6, k⟩ := h
    refine ⟨_, (pss_cons (ps_par (i := 2) (j := 3) (by rfl) scLot.nd rfl rfl (by decide) rfl rfl (pa_cons (C8.pe_c cDraw hr (by decide) rfl (pa_cons (pv 0) (pa_cons pe_int pa_nil))) (pa_cons (C8.pe_c cSome hr (by decide) rfl (pa_cons (pv 0) (pa_cons (pv 1) (pa_cons pe_int (pa_cons pe_int pa_nil))))) pa_nil)) (by rfl))
      (C8.pss_cut (ps_set (i := 4) scLot.nd rfl (Or.inl rfl) (pe_ifExp (pt_cmpR op_gt (pv 2) pe_int (nomark _)) (C8.pe_c cPick hr (by decide) rfl (pa_cons (pv 0) (pa_cons (pv 1) pa_nil))) pe_non))
      (pss_one (ps_ret (pe_tup (pa_cons (pv 4) (pa_cons (pe_ifExp (pt_cmpR op_eq (pv 2) pe_int (nomark _)) (pe_lst pa_nil) (pv 3)) pa_nil))))))), ?_⟩
    refine ⟨_, rfl, p, c, ns, at_, rest, 3, rfl, Pn, by omega, by decide, by decide, fun way H1 d0 d1 hd => ?_⟩
    obtain ⟨a1, r1, P1, l1, B1⟩ := hd
    have hl1 := B1 _ _ hl lp
    refine ⟨_, rfl, _, rfl, p, c, ns, a1, r1, l, ws, 1, 3, rfl, P1, by omega, SqL.of hl1, by omega, by decide, by omega, fun u xs H2 hu0 hu2 pt g1 g3 hd => ?_⟩
    obtain ⟨a2, r2, P2, l2, B2⟩ := hd
    have hl2 := B2 _ _ hl1 lp
    have hu1 : H u = none := drawnNone P1 B1 hu0
    have up : u ≠ p := fun z => by rw [z, Pn.hp] at hu1; cases hu1
    have B02 := B1.trans B2
    have ux := hU.part pt
    refine ⟨_, _, rfl, ?_⟩
    refine ⟨fun σ H' => ∃ mk, σ = [some (.ref p), some (.ref l), some (.int way), some (.ref u), some (mkV mk)] ∧ (∃ a r, Pen H' p c ns a r ∧ a ≤ at_ + 10) ∧ But p H H' ∧ H' u = some (.lst (xs.map V.str)) ∧ (∀ z, mk = some z → nm z = true) ∧ (mk = none → way = 0), ?_, ?_⟩
    · refine ⟨_, rfl, _, _, rfl, rfl, _, rfl, ite2 (fun h => ?_) (fun h => ?_)⟩
      · refine ⟨_, rfl, _, rfl, p, c, ns, a2, r2, .ref l, rfl, P2, by omega, .inl ⟨l, _, rfl, SqL.of hl2, lp, by rw [List.length_map]; omega, by rw [List.length_map]; omega, fun v H3 hv hd => ?_⟩⟩
        obtain ⟨z, hz, rfl⟩ := List.mem_map.mp hv
        obtain ⟨a3, r3, P3, l3, B3⟩ := hd
        exact ⟨some z, rfl, ⟨a3, r3, P3, by omega⟩, B02.trans B3, B3 _ _ hu2 up, (fun y e => by cases e; exact hU.2 z hz), (fun e => by cases e)⟩
      · have h0 : ¬ (way > 0) := fun q => h (decide_eq_true q)
        exact ⟨none, rfl, ⟨a2, r2, P2, by omega⟩, B02, hu2, (fun y e => by cases e), fun _ => by omega⟩
    · rintro σ H' ⟨mk, rfl, ⟨a, r, P3, l3⟩, B3, hu3, hm, hn⟩
      refine ⟨_, rfl, _, rfl, rfl, _, rfl, ite2 (fun h => ?_) (fun h => ?_)⟩
      · have h1 : way = 1 := by
          have := of_decide_eq_true h
          injection this
        refine ⟨by decide, fun e he => ⟨by show 2 ≤ sizeLine; decide, fun t ht => ?_⟩⟩
        have S1 := Same.new (o := .lst []) he
        have S2 := Same.new (o := .tup [mkV mk, .ref e]) ht
        refine k t e mk [] _ (drawnNone P3 B3 (sameNone S1 ht)) (drawnNone P3 B3 he) ⟨upd_same, S2 _ _ upd_same, ⟨⟨List.nodup_nil, nofun⟩, by decide, hm, fun e => by have := hn e; omega⟩⟩ ⟨a, r, P3.same (S1.trans S2), l3, B3.trans (But.same (S1.trans S2))⟩
      · refine ⟨_, rfl, by show 2 ≤ sizeLine; decide, fun t ht => ?_⟩
        have S2 := Same.new (o := .tup [mkV mk, .ref u]) ht
        exact k t u mk xs _ (drawnNone P3 B3 ht) hu1 ⟨upd_same, S2 _ _ hu3, ⟨ux, g3, hm, fun _ => by omega⟩⟩ ⟨a, r, P3.same S2, l3, B3.trans (But.same S2)⟩
theorem make_join (m : Str) : Txt.join (Str.ofString " ") ["make", m] = Str.ofString "make " ++ m := by
  rw [TL.join_eq]
  have e : Str.ofString "make" ++ Str.ofString " " = Str.ofString "make " := by decide +kernel
  show Str.ofString "make" ++ Str.ofString " " ++ m = _
  rw [e]
theorem ok_text {f : Addr} {fd : FuncData} (F : Fun K "_law_text" "_law_text" sText f fd) : FnOk P w K mg base CX0 1 f fd ["_law_made", "_law_used"] (spText K) := by
  refine F.ok scText (fun vs H Q E h => ?_) (fun cdv A outer s H vs Q E hr h => ?_)
  · obtain ⟨l, mk, us, rfl, _⟩ := h
    rfl
  · obtain ⟨l, mk, us, rfl, hS, ok, k⟩ := h
    refine ⟨_, (pss_cons (ps_if (pt_cmpR op_isN (pv 0) pe_non (nomark _)) (pss_one (ps_ret (pe_join pe_str (pe_op op_cat (pe_lst (pa_cons pe_str pa_nil)) (pv 1))))) pss_nil)
      (pss_one (ps_ret (pe_ifExp (pt_cmpR (op_eqD hr.units) (pv 1) (pe_lst pa_nil) (nomark _)) (pe_op op_add_str pe_str (pv 0)) (pe_join pe_str (pe_op op_cat (pe_lst (pa_cons pe_str (pa_cons (pv 0) pa_nil))) (pv 1))))))), ?_⟩
    have few := ok.few
    have z100 : (100 : Nat) ≤ sizeLine := by decide
    have e1 : (Str.ofString " ").length = 1 := by decide +kernel
    have k1 := deedW_le (mk := mk) (us := us)
    have k2 := sum6 (deedW_short (mk := mk) (us := us) (fun z hz => (nm_le (ok.nms z hz).2).2) fun m e => (nm_le (ok.nmM e).2).2)
    cases mk with
    | none =>
      refine ⟨_, rfl, rfl, _, rfl, iteT ?_⟩
      refine ⟨⟨_, rfl⟩, by show 1 ≤ sizeLine; decide, fun a ha => ?_⟩
      have S1 := Same.new (o := .lst [.str (Str.ofString "use")]) ha
      refine ⟨_, rfl, a, l, _, _, rfl, rfl, upd_same, S1 _ _ hS, by show 1 + (us.map V.str).length ≤ sizeLine; rw [List.length_map]; omega, fun b hb => ?_⟩
      have S2 := S1.trans (Same.new (o := .lst ([.str (Str.ofString "use")] ++ us.map V.str)) hb)
      exact ⟨_, b, deedW none us, rfl, rfl, .inl (SqL.of upd_same), by rw [e1]; omega, k _ S2⟩
    | some m =>
      refine ⟨_, rfl, rfl, _, rfl, iteF ?_⟩
      refine ⟨_, rfl, by show 0 ≤ sizeLine; decide, fun u hu => ?_⟩
      have S1 : Same H (upd H u (.lst [])) := Same.new hu
      have hS1 := S1 _ _ hS
      refine ⟨_, _, .lst (SqL.of hS1) (dpTup us), .lst (SqL.of upd_same) .nil, shapedTup (fun z hz => ok.u.2 z hz), by decide +kernel, _, rfl, ?_⟩
      cases us with
      | nil =>
        refine iteT ⟨_, rfl, _, m, rfl, rfl, ?_, ?_⟩
        · have := (nm_le (ok.nmM rfl).2).2
          have e5 : (Str.ofString "make ").length = 5 := by decide +kernel
          omega
        · have z := k _ S1
          rw [show deedT (some m) [] = Txt.join (Str.ofString " ") ["make", m] from rfl, make_join] at z
          exact z
      | cons z0 us =>
        refine iteF ?_
        refine ⟨⟨_, rfl⟩, _, rfl, by show 2 ≤ sizeLine; decide, fun a ha => ?_⟩
        have S2 := Same.new (o := .lst [.str (Str.ofString "do"), .str m]) ha
        refine ⟨_, rfl, a, l, _, _, rfl, rfl, upd_same, S2 _ _ hS1, by show 2 + ((z0 :: us).map V.str).length ≤ sizeLine; rw [List.length_map]; omega, fun b hb => ?_⟩
        have S3 := (S1.trans S2).trans (Same.new (o := .lst ([.str (Str.ofString "do"), .str m] ++ (z0 :: us).map V.str)) hb)
        exact ⟨_, b, deedW (some m) (z0 :: us), rfl, rfl, .inl (SqL.of upd_same), by rw [e1]; omega, k _ S3⟩
end
end K01

set_option Elab.async false
set_option linter.all false
set_option maxRecDepth 100000
set_option maxHeartbeats 4000000
/-! A rule of my own: str(x) of an object whose class has an own text. -/
namespace NX
open PySem PySem.Spec PyProof.Rows L2
section
variable {X : Cx} {n : Nat} {f : Addr} {fd : FuncData} {ps : List Str} {sp : Sp} {CX : CXT} {E : XK}
theorem run_own1 (F : FnOk X.prog X.w X.K X.mg X.base CX n f fd ps sp) (hb : Binds X.K fd ps []) (hx : Passes CX X E) {A : Around} {pins : List (Addr × Obj)} {σ : L2.St} {H : Hp} {s : Shared} {x : V} {u : Value} {Q : VK}
    (sb : Sub X n A) (I : Inv X pins σ H s) (rx : RelV x u) (q : sp [x] H Q E) : wpAny (model X.prog X.w) A (call (.ref f) [u]) (EP X pins σ Q) X.xe s := by
  have e := I.env0
  have e0 : Env0 X.prog X.w X.K X.mg X.base A X.stack s H := ⟨by rw [sb.fr]; exact e.frames, e.mod, e.bs, e.bsz, e.funs, e.frf, e.hok, e.bare⟩
  have hl : [u].length = ps.length := (F.len _ _ _ _ q)
  have r2 : Vals [x] [u] := .cons rx .nil
  refine wpAny_call (codeAny_mono (F.run A X.stack s H ⟨[u], []⟩ [u] [x] Q E sb.room e0 (by
    have z := hb s [u] I.kIn (by simpa using hl)
    simpa using z) r2 q) fun r s' hq => ?_)
  cases r with
  | error er => exact hx pins σ H s er s' I hq
  | ok fl =>
    cases fl with
    | ret w => exact I.after hq
    | next => exact False.elim hq
    | brk => exact False.elim hq
    | cont => exact False.elim hq
structure StrC (K : PySem.W.Frag) (C f : Addr) : Prop where
  st : PySem.W.findIn K (.ref C) "__str__" = some (some (.ref f))
  fn : PySem.W.isFn K (.ref f) = true
def rStrOwn (K : PySem.W.Frag) (f : Addr) (sp : Sp) (E : XK) : List V → Hp → VK → Prop := fun xs H Q => ∃ (a C dx : Addr) (fs : List (Str × V)), xs = [.ref a] ∧ H a = some (.ins C dx fs) ∧ StrC K C f ∧
  sp [.ref a] H (fun v H' => ∃ z, v = .str z ∧ Q (.str z) H') E
theorem call_strOwn (F : FnOk X.prog X.w X.K X.mg X.base CX n f fd ps sp) (hb : Binds X.K fd ps []) (hx : Passes CX X E) (hr : Room (n + 2) X.A) : CallR X (.type "str") (rStrOwn X.K f sp E) := by
  intro pins s σ H xs us Q I r h
  obtain ⟨a, C, dx, fs, rfl, ha, T, q⟩ := h
  obtain ⟨u, rfl, r1⟩ : ∃ u, us = [u] ∧ RelV (.ref a) u := by
    cases r with
    | cons r1 rn => cases rn; exact ⟨_, rfl, r1⟩
  obtain rfl : u = Value.ref a := r1
  obtain ⟨mA, O, _⟩ := ins_get I.hok ha
  obtain ⟨od, J, _⟩ := O.look
  refine PySem.W.kso_call hr.in1.in1.units0 I.kIn J T.st T.fn (wpAny_mono (run_own1 (x := .ref a) F hb hx ⟨hr.in1.in1, rfl⟩ I rfl q) (fun v s' hq => ?_) fun _ _ z => z)
  obtain ⟨w, H', I', rw', z, rfl, q'⟩ := hq
  obtain ⟨t, rfl⟩ := rw'
  exact ⟨.str z, H', I', ⟨t, rfl⟩, q'⟩
end
end NX

set_option Elab.async false
set_option linter.all false
set_option maxRecDepth 100000
set_option maxHeartbeats 4000000
/-! Ascending texts, each once: what they are is told by which they are. -/
namespace NX
open PySem PySem.Spec PyProof.Rows
def leS (a b : Str) : Prop := a.cps.toList ≤ b.cps.toList
theorem leS_trans {a b c : Str} (h1 : leS a b) (h2 : leS b c) : leS a c := List.le_trans h1 h2
theorem leS_anti {a b : Str} (h1 : leS a b) (h2 : leS b a) : a = b := by
  have e := List.le_antisymm h1 h2
  obtain ⟨⟨x⟩⟩ := a
  obtain ⟨⟨y⟩⟩ := b
  have e : x = y := e
  rw [e]
theorem rising_pw : ∀ (p : Str) (l : List Str), risingS p l = true → (p :: l).Pairwise leS
  | p, [], _ => by simp
  | p, x :: r, h => by
    have h' : (!ltCps x.cps.toList p.cps.toList && risingS x r) = true := h
    rw [Bool.and_eq_true, Bool.not_eq_true', ltCps_eq, decide_eq_false_iff_not] at h'
    have ih := rising_pw x r h'.2
    have hpx : leS p x := List.not_lt.mp h'.1
    refine List.pairwise_cons.mpr ⟨fun z hz => ?_, ih⟩
    rcases List.mem_cons.mp hz with e | e
    · rw [e]; exact hpx
    · exact leS_trans hpx ((List.pairwise_cons.mp ih).1 z e)
theorem sorted_pw {l : List Str} (h : sortedS l = true) : l.Pairwise leS := by
  cases l with
  | nil => simp
  | cons x r => exact rising_pw x r h
theorem sorted_uniq : ∀ {a b : List Str}, a.Pairwise leS → b.Pairwise leS → a.Nodup → b.Nodup → (∀ y, y ∈ a ↔ y ∈ b) → a = b
  | [], [], _, _, _, _, _ => rfl
  | [], y :: b, _, _, _, _, h => by simpa using (h y).mpr
  | x :: a, [], _, _, _, _, h => by simpa using (h x).mp
  | x :: a, y :: b, ha, hb, na, nb, h => by
    obtain ⟨a1, a2⟩ := List.pairwise_cons.mp ha
    obtain ⟨b1, b2⟩ := List.pairwise_cons.mp hb
    obtain ⟨n1, n2⟩ := List.nodup_cons.mp na
    obtain ⟨m1, m2⟩ := List.nodup_cons.mp nb
    have exy : x = y := by
      have hx := (h x).mp List.mem_cons_self
      have hy := (h y).mpr List.mem_cons_self
      rcases List.mem_cons.mp hx with e | hx
      · exact e
      · rcases List.mem_cons.mp hy with e | hy
        · exact e.symm
        · exact leS_anti (a1 y hy) (b1 x hx)
    subst exy
    congr 1
    refine sorted_uniq a2 b2 n2 m2 fun z => ?_
    have hz := h z
    by_cases e : z = x
    · subst e
      exact ⟨fun q => absurd q n1, fun q => absurd q m1⟩
    · simpa [e] using hz
end NX

set_option Elab.async false
set_option linter.all false
set_option maxRecDepth 100000
set_option maxHeartbeats 4000000
/-! The text that repr tells of made data of any kind; what is kept of data while objects are made and tables grow. -/
namespace NX
open PySem PySem.Spec PyProof.Rows L2 LamX
section
variable {X : Cx}
/-- repr(x), x any made data -/
def rReprD (K : PySem.W.Frag) : List V → Hp → VK → Prop := fun xs H Q => ∃ (v : V) (d : PyData), xs = [v] ∧ Dr K H v d ∧ d.showable = true ∧ d.depth ≤ 50 ∧ d.shown.length ≤ sizeLine ∧ (∀ i, d = .int i → i.natAbs.log2 < 1920) ∧ Q (.str d.shown) H
theorem call_reprD (hg : X.A.guards = some []) (hu : X.A.units + 64 < cLine) (S : SysB X.base) : CallR X (.builtin "repr") (rReprD X.K) := by
  intro pins s σ H xs us Q I r h
  obtain ⟨v, d, rfl, hd, hs, hdp, hl, hi, q⟩ := h
  cases hd with
  | non =>
    cases r with
    | cons r1 r2 =>
      cases r2
      cases r1
      exact PySem.P.repr_of_none ⟨.str _, H, I.tok _, ⟨_, rfl⟩, q⟩
  | bl b =>
    cases r with
    | cons r1 r2 =>
      cases r2
      cases r1
      exact PySem.P.repr_of_bool ⟨.str _, H, I.tok _, ⟨_, rfl⟩, q⟩
  | int i =>
    cases r with
    | cons r1 r2 =>
      cases r2
      obtain ⟨t, rfl⟩ := r1
      exact PySem.P.repr_of_int (hi i rfl) ⟨.str _, H, I.tok _, ⟨_, rfl⟩, q⟩
  | str x =>
    cases r with
    | cons r1 r2 =>
      cases r2
      obtain ⟨t, rfl⟩ := r1
      exact PySem.P.repr_of_str ⟨.str _, H, I.tok _, ⟨_, rfl⟩, q⟩ hl
  | lst a b => exact call_repr hg hu S pins s σ H _ us Q I r ⟨_, _, rfl, .lst a b, hs, hdp, hl, q⟩
  | tup a b => exact call_repr hg hu S pins s σ H _ us Q I r ⟨_, _, rfl, .tup a b, hs, hdp, hl, q⟩
  | dct a b => exact call_repr hg hu S pins s σ H _ us Q I r ⟨_, _, rfl, .dct a b, hs, hdp, hl, q⟩
end
theorem seqL_keep {K : PySem.W.Frag} {H H' : Hp} {a : Addr} {xs : List V} (k : ∀ o, H a = some o → (∀ ps, o ≠ .tbl ps) → H' a = some o) (h : SqL K H a xs) : SqL K H' a xs := by
  rcases h with (h | ⟨o, h⟩) | h
  · exact .inl (.inl (k _ h (by intro p e; cases e)))
  · exact .inl (.inr ⟨o, k _ h (by intro p e; cases e)⟩)
  · exact .inr h
theorem seqT_keep {K : PySem.W.Frag} {H H' : Hp} {a : Addr} {xs : List V} (k : ∀ o, H a = some o → (∀ ps, o ≠ .tbl ps) → H' a = some o) (h : SqT K H a xs) : SqT K H' a xs := by
  rcases h with (h | ⟨o, h⟩) | h
  · exact .inl (.inl (k _ h (by intro p e; cases e)))
  · exact .inl (.inr ⟨o, k _ h (by intro p e; cases e)⟩)
  · exact .inr h
mutual
theorem Dr.extN {K : PySem.W.Frag} {H H' : Hp} (s : ExtN H H') : ∀ {v : V} {d : PyData}, Dr K H v d → Dr K H' v d
  | _, _, .non => .non
  | _, _, .bl b => .bl b
  | _, _, .int i => .int i
  | _, _, .str x => .str x
  | _, _, .lst a b => .lst (seqL_keep (s _) a) (DrAll.extN s b)
  | _, _, .tup a b => .tup (seqT_keep (s _) a) (DrAll.extN s b)
  | _, _, .dct a b => .dct (s _ _ a (by intro p e; cases e)) (DrAll.extN s b)
theorem DrAll.extN {K : PySem.W.Frag} {H H' : Hp} (s : ExtN H H') : ∀ {v : List V} {d : List PyData}, DrAll K H v d → DrAll K H' v d
  | _, _, .nil => .nil
  | _, _, .cons a b => .cons (Dr.extN s a) (DrAll.extN s b)
end
/-- data whose text is short -/
def SmD (K : PySem.W.Frag) (H : Hp) (v : V) (d : PyData) : Prop := Dr K H v d ∧ d.showable = true ∧ d.depth ≤ 3 ∧ d.shown.length ≤ 100000 ∧ ∀ i, d = .int i → i.natAbs.log2 < 1920
theorem SmD.ext {K : PySem.W.Frag} {H H' : Hp} {v : V} {d : PyData} (s : ExtN H H') (h : SmD K H v d) : SmD K H' v d := ⟨h.1.extN s, h.2⟩
theorem SmD.same {K : PySem.W.Frag} {H H' : Hp} {v : V} {d : PyData} (s : Same H H') (h : SmD K H v d) : SmD K H' v d := h.ext (ExtN.of s)
/-- what repr asks of it -/
theorem SmD.ask {K : PySem.W.Frag} {H : Hp} {v : V} {d : PyData} {Q : VK} (h : SmD K H v d) (q : Q (.str d.shown) H) : rReprD K [v] H Q :=
  ⟨v, d, rfl, h.1, h.2.1, Nat.le_trans h.2.2.1 (by decide), Nat.le_trans h.2.2.2.1 (by decide), h.2.2.2.2, q⟩
/-- a pair of a short word and such -/
theorem SmD.pair {K : PySem.W.Frag} {H : Hp} {v : V} {d : PyData} {z : Str} {a : Addr} {Q : VK} (h : SmD K H v d) (hz : z.length ≤ 100) (hc : z.cps.toList.all (fun c => decide (c < 1114112)) = true) (ha : H a = some (.tup [.str z, v])) (q : Q (.str (PyData.tuple [.str z, d]).shown) H) : rReprD K [.ref a] H Q := by
  obtain ⟨h1, h2, h3, h4, _⟩ := h
  have hr : (reprText z).length ≤ 10 * z.length + 2 := StrLaws.reprText_len z (by rw [List.all_eq_true] at hc; exact fun i hi => Nat.lt_trans (of_decide_eq_true (hc i hi)) (by decide))
  refine ⟨_, _, rfl, .tup (SqT.of ha) (.cons (.str z) (.cons h1 .nil)), ?_, ?_, ?_, (fun i e => by cases e), q⟩
  · have e : (PyData.tuple [.str z, d]).showable = ((PyData.str z).showable && (d.showable && true)) := rfl
    rw [e, h2]
    rfl
  · have e : (PyData.tuple [.str z, d]).depth = max 0 (max d.depth 0) + 1 := rfl
    rw [e]
    omega
  · show (Str.ofString "(" ++ (reprText z ++ Str.ofString ", " ++ d.shown) ++ Str.ofString ")").length ≤ sizeLine
    repeat rw [Str.length_append]
    have a : (Str.ofString "(").length = 1 := by decide +kernel
    have b : (Str.ofString ", ").length = 2 := by decide +kernel
    have c : (Str.ofString ")").length = 1 := by decide +kernel
    exact Nat.le_trans (by omega : _ ≤ 300000) (by decide)
end NX

set_option Elab.async false
set_option linter.all false
set_option maxRecDepth 100000
set_option maxHeartbeats 4000000
/-! How long the texts of lists and tuples are. -/
namespace NX
open PySem PySem.Spec PyProof.Rows L2
theorem joinS_le (p : Str) : ∀ ts : List Str, (Str.join p ts).length ≤ (ts.map (·.length)).sum + ts.length * p.length
  | [] => by
    show (Str.empty : Str).length ≤ _
    have e0 : (Str.empty : Str).length = 0 := by decide +kernel
    omega
  | [x] => by
    show x.length ≤ _
    simp only [List.map_cons, List.map_nil, List.sum_cons, List.sum_nil, List.length_cons, List.length_nil]
    omega
  | x :: y :: r => by
    have h := joinS_le p (y :: r)
    show (x ++ p ++ Str.join p (y :: r)).length ≤ _
    rw [Str.length_append, Str.length_append]
    simp only [List.map_cons, List.sum_cons, List.length_cons] at h ⊢
    have e : (r.length + 1 + 1) * p.length = (r.length + 1) * p.length + p.length := Nat.succ_mul _ _
    omega
theorem tupleText_le (ts : List Str) : (tupleText ts).length ≤ (ts.map (·.length)).sum + 2 * ts.length + 3 := by
  have h := joinS_le (Str.ofString ", ") ts
  have e2 : (Str.ofString ", ").length = 2 := by decide +kernel
  have e1 : (Str.ofString "(").length = 1 := by decide +kernel
  have e3 : (Str.ofString ",)").length = 2 := by decide +kernel
  have e4 : (Str.ofString ")").length = 1 := by decide +kernel
  rw [e2] at h
  show (Str.ofString "(" ++ Str.join (Str.ofString ", ") ts ++ Str.ofString (if ts.length == 1 then ",)" else ")")).length ≤ _
  rw [Str.length_append, Str.length_append]
  split <;> omega
end NX

set_option Elab.async false
set_option linter.all false
set_option maxRecDepth 100000
set_option maxHeartbeats 8000000
namespace K01
open PySem L2 NX NU LamX
abbrev sRight : Stmt := top 51
theorem scRight : FnScope ["_law_made", "_law_used", "_law_thing", "_law_line", "_law_known", "_law_told", "_law_kinds_here", "_law_twin", "_law_marks", "_law_word"] ["_law_made", "_law_used"] (defScope sRight) := ⟨rfl, rfl, rfl, by decide +kernel, rfl, by decide +kernel, by decide +kernel⟩
/-- what is said of deeds, their methods, and of reading them -/
structure RTxt (P : Program) (w : World) (K : PySem.W.Frag) (mg : Str → Option Value) (base : Heap) (c : C4) (d : D3) (CD fU fM fD : Addr) : Prop where
  T : TxtB mg
  TA : TxtA mg
  D : Dcs K mg d fU fM fD
  k3 : D3C K d
  ty : DTy K d CD
  gD : mg "Deed" = some (.ref CD)
  sys : SysB base
  real : C8.Cal P w K mg base 7 "_law_real_deed" (spReal K d) []
  text : C8.Cal P w K mg base 1 "_law_text" (spText K) []
  nm_ : ∃ pN fN fd, FnOk P w K mg base CX0 1 fN fd ["self"] (spNames K d) ∧ Binds K fd ["self"] [] ∧ PropOf K d.u "names" pN fN ∧ PropOf K d.m "names" pN fN ∧ PropOf K d.d "names" pN fN
  rm : ∃ pR fR fd, FnOk P w K mg base CX0 3 fR fd ["self"] (spRoom K d) ∧ Binds K fd ["self"] [] ∧ PropOf K d.u "room" pR fR ∧ PropOf K d.m "room" pR fR ∧ PropOf K d.d "room" pR fR
  st : ∃ f fd, FnOk P w K mg base CX0 1 f fd ["self"] (spDStr d) ∧ Binds K fd ["self"] [] ∧ NX.StrC K d.u f ∧ NX.StrC K d.m f ∧ NX.StrC K d.d f
  eq : ∃ f fd, FnOk P w K mg base CX0 1 f fd ["self", "other"] (spDEq K d CD) ∧ Binds K fd ["self", "other"] [] ∧ NX.EqC K d.u f ∧ NX.EqC K d.m f ∧ NX.EqC K d.d f
  rd : ∃ mc, ClX.CRead K CD mc ∧ ∃ p g, ClX.CMet K CD mc "read" p g ∧ ∃ fd, FnOk P w K mg base (CX P w) 8 g fd ["cls", "text"] (spRd K c d) ∧ Binds K fd ["cls", "text"] [] ∧
    ∀ (s : Shared) (us : List Value), us.length + 1 = ["cls", "text"].length → BindsTo s fd ⟨[.ref CD], (["text"] : List Str).zip us⟩ ((["cls", "text"] : List Str).zip (.ref CD :: us))
  nf : ∀ C, (C = d.u ∨ C = d.m ∨ C = d.d) → PySem.W.notFirst K C (.ref C) = true ∧ PySem.W.notFirst K C (.type "str") = true ∧ PySem.W.notFirst K C (.type "tuple") = true
  ks : PySem.W.kitOne K (.type "str") (.ref CD) = some false
  kt : PySem.W.kitOne K (.type "tuple") (.ref CD) = some false
  uu : PySem.W.kitOne K (.ref d.u) (.ref d.u) = some true
  um : PySem.W.kitOne K (.ref d.u) (.ref d.m) = some false
  ud : PySem.W.kitOne K (.ref d.u) (.ref d.d) = some false
  mu : PySem.W.kitOne K (.ref d.m) (.ref d.u) = some false
  mm : PySem.W.kitOne K (.ref d.m) (.ref d.m) = some true
  md : PySem.W.kitOne K (.ref d.m) (.ref d.d) = some false
  du : PySem.W.kitOne K (.ref d.d) (.ref d.u) = some true
  dm : PySem.W.kitOne K (.ref d.d) (.ref d.m) = some true
  dd : PySem.W.kitOne K (.ref d.d) (.ref d.d) = some true
def spRight (K : PySem.W.Frag) : Sp := fun vs H Q _ => ∃ (l : Addr) (mk : Option Str) (us : List Str), vs = [mkV mk, .ref l] ∧ H l = some (.lst (us.map V.str)) ∧ LotOk mk us ∧ ∀ H', Same H H' → Q (.bl true) H'
theorem of_is (d : D3) (mk : Option Str) (us : List Str) : d.of mk us = d.u ∨ d.of mk us = d.m ∨ d.of mk us = d.d := by
  match mk, us with
  | none, _ => exact .inl rfl
  | some _, [] => exact .inr (.inl rfl)
  | some _, _ :: _ => exact .inr (.inr rfl)
def bU (us : List Str) : Bool := !us.isEmpty
def bM (mk : Option Str) : Bool := mk.isSome
theorem RTxt.kin {P : Program} {w : World} {K : PySem.W.Frag} {mg : Str → Option Value} {base : Heap} {c : C4} {d : D3} {CD fU fM fD : Addr} (X : RTxt P w K mg base c d CD fU fM fD) {mk : Option Str} {us : List Str} (ok : LotOk mk us) :
    PySem.W.kitOne K (.ref (d.of mk us)) (.ref d.u) = some (bU us) ∧ PySem.W.kitOne K (.ref (d.of mk us)) (.ref d.m) = some (bM mk) ∧ PySem.W.kitOne K (.ref (d.of mk us)) (.ref d.d) = some (bU us && bM mk) := by
  cases mk with
  | none =>
    cases us with
    | nil => exact absurd (ok.some_ rfl) (by decide)
    | cons a r => exact ⟨X.uu, X.um, X.ud⟩
  | some m =>
    cases us with
    | nil => exact ⟨X.mu, X.mm, X.md⟩
    | cons a r => exact ⟨X.du, X.dm, X.dd⟩
def mkD : Option Str → PyData
  | none => .none
  | some m => .str m
theorem dr_mk {K : PySem.W.Frag} {H : Hp} (mk : Option Str) : Dr K H (mkV mk) (mkD mk) := by
  cases mk with
  | none => exact .non
  | some m => exact .str m
theorem drTup {K : PySem.W.Frag} {H : Hp} : ∀ us : List Str, DrAll K H (us.map V.str) (us.map PyData.str)
  | [] => .nil
  | a :: r => .cons (.str _) (drTup r)
/-- made or used[0] -/
theorem orMk {K : PySem.W.Frag} {l : Addr} {mk : Option Str} {us : List Str} {σ : L2.St} {H : Hp} {Q : VK} (ok : LotOk mk us) (h0 : σ[0]? = some (some (mkV mk))) (h1 : σ[1]? = some (some (.ref l))) (hl : SqL K H l (us.map V.str))
    (k : ∀ m0, nm m0 = true → (∀ y, y ∈ us ++ [m0] ↔ y ∈ mk.toList ++ us) → Q (.str m0) H) : tOrT K (tVar 0) (tOp (rIxL K) (tVar 1) (tC (.int 0))) σ H Q := by
  cases mk with
  | none =>
    cases us with
    | nil => exact absurd (ok.some_ rfl) (by decide)
    | cons a r =>
      refine ⟨_, h0, false, rfl, ?_⟩
      rw [if_neg (by decide)]
      refine ⟨_, h1, l, _, ((0 : Nat) : Int), _, rfl, rfl, hl, atI_nat rfl, k a (ok.u.2 a List.mem_cons_self) fun y => ?_⟩
      simp only [List.mem_append, List.mem_cons, List.not_mem_nil, or_false, Option.toList_none, List.nil_append]
      exact ⟨fun h => h.elim id .inl, .inl⟩
  | some m =>
    have hm := ok.nmM rfl
    have := nm_le hm.2
    refine ⟨_, h0, true, ⟨Nat.le_trans hm.1 (by decide), ?_⟩, ?_⟩
    · exact (bne_iff_ne.mpr (by omega : (m.length : Int) ≠ 0)).symm
    · rw [if_pos rfl]
      refine k m hm.2 fun y => ?_
      simp
      exact or_comm
/-- what is told of a deed, as data -/
def toldD (mk : Option Str) (us ys : List Str) : PyData := .list [.tuple (us.map PyData.str), mkD mk, .tuple (ys.map PyData.str), .int (ys.length : Nat), .str (deedT mk us)]
theorem repr_le {z : Str} (h : ∀ ch ∈ z.cps.toList, ch < 256) (k : z.length ≤ 100) : (reprText z).length ≤ 1100 := by
  have r := PySem.StrLaws.reprText_len z (fun c hc => Nat.lt_trans (h c hc) (by decide))
  exact Nat.le_trans r (by omega)
theorem showTup : ∀ us : List Str, PyData.showableAll (us.map PyData.str) = true
  | [] => rfl
  | a :: r => by
    have h := showTup r
    show (true && PyData.showableAll (r.map PyData.str)) = true
    rw [h]
    rfl
theorem sumTup : ∀ {us : List Str}, (∀ z ∈ us, nm z = true) → ((PyData.shownAll (us.map PyData.str)).map (·.length)).sum ≤ 1100 * us.length ∧ (PyData.shownAll (us.map PyData.str)).length = us.length
  | [], _ => ⟨by decide, rfl⟩
  | a :: r, h => by
    obtain ⟨h1, h2⟩ := sumTup (us := r) fun z hz => h z (List.mem_cons_of_mem _ hz)
    have ha := h a List.mem_cons_self
    have h3 := repr_le (nm_okS ha) (by have := nm_le ha; omega)
    have e : PyData.shownAll ((a :: r).map PyData.str) = reprText a :: PyData.shownAll (r.map PyData.str) := rfl
    rw [e]
    simp only [List.map_cons, List.sum_cons, List.length_cons]
    exact ⟨by omega, by omega⟩
theorem tupShown {us : List Str} (h : ∀ z ∈ us, nm z = true) : (PyData.tuple (us.map PyData.str)).shown.length ≤ 1102 * us.length + 3 := by
  have l := NX.tupleText_le (PyData.shownAll (us.map PyData.str))
  obtain ⟨h1, h2⟩ := sumTup h
  rw [h2] at l
  exact Nat.le_trans l (by omega)
theorem deedT_ok {mk : Option Str} {us : List Str} (ok : LotOk mk us) : (∀ ch ∈ (deedT mk us).cps.toList, ch < 256) ∧ (deedT mk us).length ≤ 100 := by
  have k1 := deedW_le (mk := mk) (us := us)
  have k2 := sum6 (deedW_short (mk := mk) (us := us) (fun z hz => (nm_le (ok.u.2 z hz)).2) fun m e => (nm_le (ok.m m e)).2)
  have few := ok.few
  have e1 : (Str.ofString " ").length = 1 := by decide +kernel
  have hj := NX.joinS_le (Str.ofString " ") (deedW mk us)
  have eT : deedT mk us = Str.join (Str.ofString " ") (deedW mk us) := TL.join_eq _ _
  rw [eT]
  refine ⟨?_, by rw [e1] at hj; omega⟩
  have small : ∀ ts : List Str, (∀ t ∈ ts, ∀ ch ∈ t.cps.toList, ch < 256) → ∀ ch ∈ (Str.join (Str.ofString " ") ts).cps.toList, ch < 256 := by
    intro ts
    induction ts with
    | nil =>
      intro _ ch hc
      have e : (Str.join (Str.ofString " ") []).cps.toList = [] := by decide +kernel
      rw [e] at hc
      cases hc
    | cons t r ih =>
      intro h ch hc
      cases r with
      | nil => exact h t (by simp) ch hc
      | cons y q =>
        have e : (Str.join (Str.ofString " ") (t :: y :: q)).cps.toList = t.cps.toList ++ [32] ++ (Str.join (Str.ofString " ") (y :: q)).cps.toList := by
          show (t ++ Str.ofString " " ++ Str.join (Str.ofString " ") (y :: q)).cps.toList = _
          have e2 : ∀ a b : Str, (a ++ b).cps.toList = a.cps.toList ++ b.cps.toList := fun a b => by
            show (a.cps ++ b.cps).toList = _
            rw [Array.toList_append]
          rw [e2, e2]
          rfl
        rw [e, List.mem_append, List.mem_append] at hc
        rcases hc with (hc | hc) | hc
        · exact h t (by simp) ch hc
        · rw [List.mem_singleton.mp hc]; decide
        · exact ih (fun t ht => h t (List.mem_cons_of_mem _ ht)) ch hc
  refine small _ fun t ht => ?_
  have w1 : ∀ ch ∈ (Str.ofString "use").cps.toList, ch < 256 := by decide +kernel
  have w2 : ∀ ch ∈ (Str.ofString "make").cps.toList, ch < 256 := by decide +kernel
  have w3 : ∀ ch ∈ (Str.ofString "do").cps.toList, ch < 256 := by decide +kernel
  match mk, us, ok, ht with
  | none, us, ok, ht =>
    rcases List.mem_cons.mp ht with e | e
    · rw [e]; exact w1
    · exact nm_okS (ok.u.2 t e)
  | some m, [], ok, ht =>
    rcases List.mem_cons.mp ht with e | e
    · rw [e]; exact w2
    · rw [List.mem_singleton.mp e]; exact nm_okS (ok.m m rfl)
  | some m, z :: us, ok, ht =>
    rcases List.mem_cons.mp ht with e | e
    · rw [e]; exact w3
    · rcases List.mem_cons.mp e with e | e
      · rw [e]; exact nm_okS (ok.m m rfl)
      · exact nm_okS (ok.u.2 t e)
theorem small5 : ∀ n : Nat, n ≤ 4 → (toString (n : Int) : String).length ≤ 10 ∧ (Str.ofString (toString (n : Int))).length ≤ 10 := by
  intro n h
  match n, h with
  | 0, _ => exact ⟨by decide, by decide +kernel⟩
  | 1, _ => exact ⟨by decide, by decide +kernel⟩
  | 2, _ => exact ⟨by decide, by decide +kernel⟩
  | 3, _ => exact ⟨by decide, by decide +kernel⟩
  | 4, _ => exact ⟨by decide, by decide +kernel⟩
/-- ascending texts, each once, are no more than what they are of -/
theorem Asc.le {ys ws : List Str} (h : Asc ys ws) : ys.length ≤ ws.length := by
  have h2 := h.2.1
  have hs : ∀ y ∈ ys, y ∈ ws := fun y hy => (h.2.2 y).mp hy
  exact List.Nodup.length_le_of_subset h2 hs
theorem toldD_ok {mk : Option Str} {us ys : List Str} (ok : LotOk mk us) (asc : Asc ys (mk.toList ++ us)) : (toldD mk us ys).showable = true ∧ (toldD mk us ys).depth ≤ 50 ∧ (toldD mk us ys).shown.length ≤ sizeLine := by
  have hys : ∀ z ∈ ys, nm z = true := fun z hz => by
    rcases List.mem_append.mp ((asc.2.2 z).mp hz) with h | h
    · cases mk with
      | none => cases h
      | some m => rw [List.mem_singleton.mp h]; exact ok.m m rfl
    · exact ok.u.2 z h
  have few := ok.few
  have yl : ys.length ≤ 4 := by
    have := asc.le
    rw [List.length_append] at this
    have : mk.toList.length ≤ 1 := by cases mk <;> simp
    omega
  refine ⟨?_, ?_, ?_⟩
  · have e : (toldD mk us ys).showable = (PyData.showableAll (us.map PyData.str) && ((mkD mk).showable && (PyData.showableAll (ys.map PyData.str) && true))) := by
      have hl : ys.length.log2 < 1920 := Nat.lt_of_le_of_lt (Nat.log2_le_self _) (by omega)
      unfold toldD
      cases mk <;> simp [PyData.showable, PyData.showableAll, mkD, hl]
    rw [e, showTup, showTup]
    cases mk <;> rfl
  · have d1 := depTup us
    have d2 := depTup ys
    have e : (toldD mk us ys).depth = max (PyData.depthAll (us.map PyData.str) + 1) (max (mkD mk).depth (max (PyData.depthAll (ys.map PyData.str) + 1) (max 0 (max 0 0)))) + 1 := rfl
    have d3 : (mkD mk).depth = 0 := by cases mk <;> rfl
    rw [e, d3]
    omega
  · have t1 := tupShown ok.u.2
    have t2 := tupShown hys
    have t3 : (mkD mk).shown.length ≤ 1100 := by
      cases mk with
      | none => decide +kernel
      | some m =>
        have hm := ok.m m rfl
        exact repr_le (nm_okS hm) (by have := nm_le hm; omega)
    have t4 : (PyData.int (ys.length : Nat)).shown.length ≤ 10 := (small5 _ yl).2
    obtain ⟨o1, o2⟩ := deedT_ok ok
    have t5 : (PyData.str (deedT mk us)).shown.length ≤ 1100 := repr_le o1 o2
    have l := PySem.listText_len_le [(PyData.tuple (us.map PyData.str)).shown, (mkD mk).shown, (PyData.tuple (ys.map PyData.str)).shown, (PyData.int (ys.length : Nat)).shown, (PyData.str (deedT mk us)).shown]
    simp only [List.map_cons, List.map_nil, List.sum_cons, List.sum_nil, List.length_cons, List.length_nil] at l
    exact Nat.le_trans l (Nat.le_trans (by omega : _ ≤ 20000) (by decide))
theorem nm32 {z : Str} (h : nm z = true) : (32 : Nat) ∉ TL.tl z := by
  intro hz
  unfold nm at h
  rw [Bool.and_eq_true, Bool.and_eq_true, List.all_eq_true] at h
  have q := h.2.2 32 hz
  revert q
  decide +kernel
theorem split_deed {mk : Option Str} {us : List Str} (ok : LotOk mk us) : Txt.split (deedT mk us) (Str.ofString " ") = deedW mk us := by
  have w1 : (32 : Nat) ∉ TL.tl (Str.ofString "use") := by decide +kernel
  have w2 : (32 : Nat) ∉ TL.tl (Str.ofString "make") := by decide +kernel
  have w3 : (32 : Nat) ∉ TL.tl (Str.ofString "do") := by decide +kernel
  refine TL.split_join (s := 32) (S := []) (by decide +kernel) (by decide +kernel) ?_ ?_
  · intro h
    match mk, us, h with
    | none, us, h => cases h
    | some m, [], h => cases h
    | some m, z :: us, h => cases h
  · intro t ht
    match mk, us, ok, ht with
    | none, us, ok, ht =>
      rcases List.mem_cons.mp ht with e | e
      · rw [e]; exact w1
      · exact nm32 (ok.u.2 t e)
    | some m, [], ok, ht =>
      rcases List.mem_cons.mp ht with e | e
      · rw [e]; exact w2
      · rw [List.mem_singleton.mp e]; exact nm32 (ok.m m rfl)
    | some m, z :: us, ok, ht =>
      rcases List.mem_cons.mp ht with e | e
      · rw [e]; exact w3
      · rcases List.mem_cons.mp e with e | e
        · rw [e]; exact nm32 (ok.m m rfl)
        · exact nm32 (ok.u.2 t e)
theorem nms_of {us : List Str} (h : ∀ z ∈ us, nm z = true) : Nms us := fun z hz => ⟨Nat.le_trans (nm_le (h z hz)).2 (by decide), h z hz⟩
theorem dt_deed {mk : Option Str} {us : List Str} (ok : LotOk mk us) : DT (deedT mk us) mk us := by
  have hs := split_deed ok
  have nu := ok.u
  match mk, us, ok, hs, nu with
  | none, us, ok, hs, nu => exact ⟨_, us, hs, .use (nms_of nu.2) ⟨noRep_of nu.1, ok.some_ rfl, ok.few⟩⟩
  | some m, [], ok, hs, nu => exact ⟨_, [m], hs, .make (nms_of (fun z hz => by rw [List.mem_singleton.mp hz]; exact ok.m m rfl))⟩
  | some m, z :: us, ok, hs, nu =>
    exact ⟨_, m :: z :: us, hs, .both (nms_of (fun y hy => by
      rcases List.mem_cons.mp hy with e | e
      · rw [e]; exact ok.m m rfl
      · exact nu.2 y e)) ⟨noRep_of nu.1, by rw [List.length_cons]; omega, ok.few⟩⟩
theorem NewD.isD {d : D3} {H H' : Hp} {x : Addr} {mk : Option Str} {us : List Str} (h : NewD d H x mk us H') (ok : LotOk mk us) : Same H H' ∧ ∃ ys, IsD d H' x mk us ys := by
  obtain ⟨s, _, ys, asc, dd⟩ := h
  exact ⟨s, ys, dd, nms_of ok.u.2, fun m e => ⟨Nat.le_trans (nm_le (ok.m m e)).2 (by decide), ok.m m e⟩, ok.few, asc⟩
theorem shapedLst {us : List Str} (h : ∀ z ∈ us, nm z = true) : SeqAt.shaped (.list (us.map PyData.str)) = true := by
  have h1 := canTup h
  have h2 := depTup us
  unfold SeqAt.shaped
  rw [Bool.and_eq_true, decide_eq_true_eq]
  refine ⟨h1, ?_⟩
  show _ + 1 ≤ 64
  omega
theorem eqvNil (us : List Str) : (!(PyData.list (us.map PyData.str)).eqv (.list [])) = bU us := by
  cases us <;> rfl
theorem notNon (mk : Option Str) : (!decide (mkV mk = V.non)) = bM mk := by
  cases mk with
  | none => rfl
  | some m => rw [decide_eq_false (fun h => nomatch h)]; rfl
/-- used != [] -/
theorem neNil {K : PySem.W.Frag} {H : Hp} {l : Addr} {us : List Str} {Q : VK} {σ : L2.St} (h1 : σ[1]? = some (some (.ref l))) (hl : H l = some (.lst (us.map V.str))) (h : ∀ z ∈ us, nm z = true) (k : ∀ H', Same H H' → Q (.bl (bU us)) H') : tOp (rNeD K) (tVar 1) (tLst tNil) σ H Q := by
  refine ⟨_, h1, ⟨by show 0 ≤ sizeLine; decide, fun p hp => ?_⟩⟩
  have S := Same.new (o := .lst []) hp
  refine ⟨_, _, .lst (SqL.of (S _ _ hl)) (dpTup us), .lst (SqL.of upd_same) .nil, shapedLst h, by decide +kernel, ?_⟩
  rw [eqvNil]
  exact k _ S
theorem andMk {K : PySem.W.Frag} {H : Hp} {l : Addr} {mk : Option Str} {us : List Str} {Q : VK} {σ : L2.St} (h0 : σ[0]? = some (some (mkV mk))) (h1 : σ[1]? = some (some (.ref l))) (hl : H l = some (.lst (us.map V.str))) (h : ∀ z ∈ us, nm z = true) (k : ∀ H', Same H H' → Q (.bl (bU us && bM mk)) H') : tAndV (tOp (rNeD K) (tVar 1) (tLst tNil)) (tOp (fun x y H Q => y = V.non ∧ Q (V.bl !decide (x = V.non)) H) (tVar 0) (tC V.non)) σ H Q := by
  refine neNil h1 hl h fun H' S => ⟨_, rfl, ?_⟩
  cases e : bU us with
  | true =>
    rw [if_pos rfl]
    refine ⟨_, h0, rfl, ?_⟩
    rw [notNon]
    have := k H' S
    rw [e, Bool.true_and] at this
    exact this
  | false =>
    rw [if_neg (by decide)]
    have := k H' S
    rw [e, Bool.false_and] at this
    exact this
theorem dpBl {K : PySem.W.Frag} {H : Hp} : ∀ bs : List Bool, DpAll K H (bs.map V.bl) (bs.map PyData.bool)
  | [] => .nil
  | b :: r => .cons (.bl b) (dpBl r)
theorem shapedBl4 (a b c d : Bool) : SeqAt.shaped (.list ([a, b, c, d].map PyData.bool)) = true := by
  cases a <;> cases b <;> cases c <;> cases d <;> decide +kernel
theorem shapedBl3 (a b c : Bool) : SeqAt.shaped (.list ([a, b, c].map PyData.bool)) = true := by
  cases a <;> cases b <;> cases c <;> decide +kernel
theorem eqvBl4 (a b c d : Bool) : (PyData.list ([a, b, c, d].map PyData.bool)).eqv (.list ([a, b, c, d].map PyData.bool)) = true := by
  cases a <;> cases b <;> cases c <;> cases d <;> decide +kernel
theorem eqvBl3 (a b c : Bool) : (PyData.list ([a, b, c].map PyData.bool)).eqv (.list ([a, b, c].map PyData.bool)) = true := by
  cases a <;> cases b <;> cases c <;> decide +kernel
section
variable {P : Program} {w : World} {K : PySem.W.Frag} {mg : Str → Option Value} {base : Heap}
theorem ok_right {c : C4} {d : D3} {CD fU fM fD : Addr} {f : Addr} {fd : FuncData} (F : Fun K "_law_right" "_law_right" sRight f fd) (X : RTxt P w K mg base c d CD fU fM fD) : FnG P w K mg base 11 f fd ["_law_made", "_law_used"] (spRight K) := by
  have kin := @RTxt.kin P w K mg base c d CD fU fM fD X
  have nf := X.nf
  obtain ⟨T, TA, D, k3, ty, gD, S, cReal, cText, ⟨pN, fN, fdN, FN, hbN, pn1, pn2, pn3⟩, ⟨pR, fR, fdR, FR, hbR, pr1, pr2, pr3⟩, ⟨fSt, fdSt, FSt, hbSt, st1, st2, st3⟩, ⟨fEq, fdEq, FEq, hbEq, eq1, eq2, eq3⟩, ⟨mc, rdD, prd, gr, cmt, fdRd, FRd, hbRd, hbRK⟩, _, ks, kt, _, _, _, _, _, _, _, _, _⟩ := X
  obtain ⟨oc, od, kV, doc, pm, an, cdv, ct, osl, rfl, lk, hcd⟩ := F.ex
  refine ⟨fun vs H Q E h => ?_, fun A st s H args us vs Q gd hr0 e0 hb rv h => ?_⟩
  · obtain ⟨l, mk, us, rfl, _⟩ := h
    rfl
  · obtain ⟨l, mk, us, rfl, hl, ok, k⟩ := h
    refine run_ofS (k := 10) (N := ["_law_made", "_law_used", "_law_thing", "_law_line", "_law_known", "_law_told", "_law_kinds_here", "_law_twin", "_law_marks", "_law_word"]) (ps := ["_law_made", "_law_used"]) lk hcd scRight hr0 e0 hb rv rfl fun hr => ?_
    have gd : (A.deeper (PyProof.Rows.envOfC "_law_right" (defScope sRight) s.heap.objs.size f cdv)).guards = some [] := gd
    refine ⟨_, PSs.nox (pss_cons (ps_par (i := 2) (j := 3) (by rfl) scRight.nd rfl rfl (by decide) rfl rfl (pa_cons (C8.pe_c cReal hr (by decide) rfl (pa_cons (pv 0) (pa_cons (pv 1) pa_nil))) (pa_cons (C8.pe_c cText hr (by decide) rfl (pa_cons (pv 0) (pa_cons (pv 1) pa_nil))) pa_nil)) (by rfl))
      (pss_cons (ps_set (i := 4) scRight.nd rfl (Or.inl rfl) (pe_callB (show CallR _ (.builtin "sorted") (rSrtX w) from cr_srtX rfl) (by rfl) TA.bsorted (by decide +kernel) (pa_cons (pe_callTy (show CallR _ (.type "set") (rSetX K w) from cr_setX rfl) (by rfl) TA.bset (by decide +kernel) (pa_cons (pe_lc (own := [("_law_word", 9)]) (g := gName 9) rfl scRight.nd (pi_list (pe_op op_cat (pv 1) (pe_lst (pa_cons (pe_orT (pv 0) (pe_one (pe_ix ix_list (pv 1) pe_int (fun _ _ => rfl)))) pa_nil)))) (blkOk_by (own := [("_law_word", 9)]) (N := ["_law_made", "_law_used", "_law_thing", "_law_line", "_law_known", "_law_told", "_law_kinds_here", "_law_twin", "_law_marks", "_law_word"]) (sc := defScope sRight) (by decide +kernel)) (fun _ _ _ _ _ => (pg_name (i := 9) scRight.nd rfl (Or.inl rfl))) (fun _ _ _ _ _ => pts_nil) (fun _ _ _ _ _ => (pe_callTy SkE.call_str_str (by rfl) T.bstr (by decide +kernel) (pa_cons (pv 9) pa_nil)))) pa_nil)) pa_nil)))
      (pss_cons (ps_set (i := 5) scRight.nd rfl (Or.inl rfl) (pe_lst (pa_cons (pe_fld (pv 2) rfl) (pa_cons (pe_fld (pv 2) rfl) (pa_cons (NX.pe_propG (pv 2) FN (hr.mono (by decide)) hbN pass0 rfl) (pa_cons (NX.pe_propG (pv 2) FR (hr.mono (by decide)) hbR pass0 rfl) (pa_cons (pe_callTy (call_strOwn FSt hbSt pass0 (hr.mono (by decide))) (by rfl) T.bstr (by decide +kernel) (pa_cons (pv 2) pa_nil)) pa_nil)))))))
      (pss_cons (ps_if (pt_cmpR op_ne (pe_callB (call_reprD gd hr.units S) (by rfl) T.brepr (by decide +kernel) (pa_cons (pv 5) pa_nil)) (pe_callB (call_reprD gd hr.units S) (by rfl) T.brepr (by decide +kernel) (pa_cons (pe_lst (pa_cons (pe_callTy call_tuple_of (by rfl) T.btuple (by decide +kernel) (pa_cons (pv 1) pa_nil)) (pa_cons (pv 0) (pa_cons (pe_callTy call_tuple_of (by rfl) T.btuple (by decide +kernel) (pa_cons (pv 4) pa_nil)) (pa_cons (pe_callB call_len_seq (by rfl) T.blen (by decide +kernel) (pa_cons (pv 4) pa_nil)) (pa_cons (pv 3) pa_nil)))))) pa_nil)) (nomark _)) (pss_one (ps_ret pe_bl)) pss_nil)
      (pss_cons (ps_set (i := 6) scRight.nd rfl (Or.inl rfl) (pe_lst (pa_cons (pe_callB call_isi (by rfl) T.bisinstance (by decide +kernel) (pa_cons (pv 2) (pa_cons (C8.pe_gc (v := .ref CD) rfl ⟨_, gD, rfl⟩) pa_nil))) (pa_cons (pe_callB call_isi (by rfl) T.bisinstance (by decide +kernel) (pa_cons (pv 2) (pa_cons (C8.pe_gc (v := .ref d.u) rfl ⟨_, D.gu, rfl⟩) pa_nil))) (pa_cons (pe_callB call_isi (by rfl) T.bisinstance (by decide +kernel) (pa_cons (pv 2) (pa_cons (C8.pe_gc (v := .ref d.m) rfl ⟨_, D.gm, rfl⟩) pa_nil))) (pa_cons (pe_callB call_isi (by rfl) T.bisinstance (by decide +kernel) (pa_cons (pv 2) (pa_cons (C8.pe_gc (v := .ref d.d) rfl ⟨_, D.gd, rfl⟩) pa_nil))) pa_nil))))))
      (pss_cons (ps_if (pt_cmpR (op_neD hr.units) (pv 6) (pe_lst (pa_cons pe_bl (pa_cons (pe_cmpR (op_neD hr.units) (pv 1) (pe_lst pa_nil) (nomark _)) (pa_cons (pe_cmpR op_notN (pv 0) pe_non (nomark _)) (pa_cons (pe_and (pe_cmpR (op_neD hr.units) (pv 1) (pe_lst pa_nil) (nomark _)) (pe_one (pe_cmpR op_notN (pv 0) pe_non (nomark _)))) pa_nil))))) (nomark _)) (pss_one (ps_ret pe_bl)) pss_nil)
      (pss_cons (ps_set (i := 7) scRight.nd rfl (Or.inl rfl) (NX.pe_cmethK (ks := ["text"]) (C8.pe_gc (v := .ref CD) rfl ⟨_, gD, rfl⟩) rdD cmt FRd hbRK (hr.mono (by decide)) passL (pk_cons (pv 3) pk_nil)))
      (pss_cons (ps_if (pt_cmpR (op_neD hr.units) (pe_lst (pa_cons (pe_callB call_isi (by rfl) T.bisinstance (by decide +kernel) (pa_cons (pv 7) (pa_cons (C8.pe_gc (v := .ref d.u) rfl ⟨_, D.gu, rfl⟩) pa_nil))) (pa_cons (pe_callB call_isi (by rfl) T.bisinstance (by decide +kernel) (pa_cons (pv 7) (pa_cons (C8.pe_gc (v := .ref d.m) rfl ⟨_, D.gm, rfl⟩) pa_nil))) (pa_cons (pe_callB call_isi (by rfl) T.bisinstance (by decide +kernel) (pa_cons (pv 7) (pa_cons (C8.pe_gc (v := .ref d.d) rfl ⟨_, D.gd, rfl⟩) pa_nil))) pa_nil)))) (pe_slice sl_list (pv 6) (po_some pe_int) po_none) (nomark _)) (pss_one (ps_ret pe_bl)) pss_nil)
      (pss_cons (ps_if (PW.pt (pw_or (pt_cmpR (op_neD hr.units) (pe_fld (pv 7) rfl) (pe_fld (pv 2) rfl) (nomark _)) (pw_or (pt_cmpR op_ne (pe_fld (pv 7) rfl) (pv 0) (nomark _)) (pw_or (pt_cmpR (op_neOwn FEq hbEq pass0 (hr.mono (by decide))) (pv 7) (pv 2) (nomark _)) (pw_or1 (pt_not (pt_cmpR (op_eqOwn FEq hbEq pass0 (hr.mono (by decide))) (ClX.pe_cmeth (C8.pe_gc (v := .ref CD) rfl ⟨_, gD, rfl⟩) rdD cmt (FRd.raw hbRd .nil) (hr.mono (by decide)) passL (pa_cons (pv 3) pa_nil)) (pv 2) (nomark _)))))))) (pss_one (ps_ret pe_bl)) pss_nil)
      (pss_cons (ps_set (i := 8) scRight.nd rfl (Or.inl rfl) (pe_lst (pa_cons (pe_cmpR (op_eqOwn FEq hbEq pass0 (hr.mono (by decide))) (pv 2) (pv 3) (nomark _)) (pa_cons (pe_cmpR (op_neOwn FEq hbEq pass0 (hr.mono (by decide))) (pv 2) (pv 3) (nomark _)) (pa_cons (pe_cmpR (op_eqOwn FEq hbEq pass0 (hr.mono (by decide))) (pv 2) (pe_tup (pa_cons (pv 0) (pa_cons (pv 1) pa_nil))) (nomark _)) pa_nil)))))
      (pss_one (ps_ret (pe_cmpR op_eq (pe_callB (call_reprD gd hr.units S) (by rfl) T.brepr (by decide +kernel) (pa_cons (pv 8) pa_nil)) (pe_callB (call_reprD gd hr.units S) (by rfl) T.brepr (by decide +kernel) (pa_cons (pe_lst (pa_cons pe_bl (pa_cons pe_bl (pa_cons pe_bl pa_nil)))) pa_nil)) (nomark _)))))))))))))), ?_⟩
    refine ⟨_, rfl, _, rfl, l, mk, us, rfl, SqL.of hl, ok, fun x H1 new => ?_⟩
    obtain ⟨s1, hx0, ys, hD1⟩ := new
    have hl1 := s1 _ _ hl
    refine ⟨_, rfl, _, rfl, l, mk, us, rfl, hl1, ok, fun H2 s2 => ⟨_, _, rfl, ?_⟩⟩
    have hD := hD1.same s2
    have hl2 := s2 _ _ hl1
    have s02 := s1.trans s2
    clear hD1 hl1 s1 s2 hx0 hl
    have few := ok.few
    have z100 : (100 : Nat) ≤ sizeLine := by decide
    have asc := hD.asc
    -- the names
    refine ⟨_, rfl, ?_⟩
    refine orMk (K := K) (l := l) (mk := mk) (us := us) ok rfl rfl (SqL.of hl2) fun m0 hm0 hmem => ?_
    refine ⟨by show 1 ≤ sizeLine; decide, fun a1 h1 => ?_⟩
    have S3 := Same.new (o := .lst [.str m0]) h1
    refine ⟨l, a1, _, _, rfl, rfl, S3 _ _ hl2, upd_same, by show (us.map V.str).length + 1 ≤ sizeLine; rw [List.length_map]; omega, fun b hb => ?_⟩
    have eM : us.map V.str ++ [V.str m0] = (us ++ [m0]).map V.str := by rw [List.map_append]; rfl
    rw [eM]
    have S4 := S3.trans (Same.new (o := .lst ((us ++ [m0]).map V.str)) hb)
    refine ⟨b, rfl, ⟨_, SqL.of upd_same⟩, fun Dl hDl => ?_⟩
    have hbl : (upd (upd H2 a1 (.lst [.str m0])) b (.lst ((us ++ [m0]).map V.str))) b = some (.lst ((us ++ [m0]).map V.str)) := upd_same
    clear S3 h1 hb
    generalize (upd (upd H2 a1 (.lst [.str m0])) b (.lst ((us ++ [m0]).map V.str))) = G4 at *
    have hlenm : (us ++ [m0]).length ≤ 4 := by rw [List.length_append]; show us.length + 1 ≤ 4; omega
    refine lc_list (xs := (us ++ [m0]).map V.str) (fun i H' => Same G4 H' ∧ H' Dl = some (.lst (((us ++ [m0]).take i).map V.str))) ⟨Same.new hDl, upd_same⟩ (fun i H' _ z => sqL_same z.1 (SqL.of hbl)) ?_ ?_
    · rintro i y H' hy ⟨sP, dP⟩
      rw [List.getElem?_map] at hy
      obtain ⟨z, hz, rfl⟩ := Option.map_eq_some_iff.mp hy
      refine ⟨rfl, ?_⟩
      unfold tYes
      dsimp only
      rw [if_pos rfl]
      refine ⟨_, rfl, z, rfl, _, dP, by rw [List.length_map, List.length_take]; omega, samePut sP hDl, ?_⟩
      rw [upd_same, List.take_add_one, hz, List.map_append]
      rfl
    rintro H5 ⟨sP, dP⟩
    rw [List.length_map, List.take_length] at dP
    have S5 := S4.trans sP
    refine ⟨Dl, us ++ [m0], rfl, .inl (SqL.of dP), by omega, fun a6 h6 => ⟨a6, us ++ [m0], rfl, upd_same, by omega, fun zs b7 srt nd mm hb7 => ?_⟩⟩
    obtain rfl : zs = ys := sorted_uniq (sorted_pw srt) (sorted_pw asc.1) nd asc.2.1 fun y => (mm y).trans ((hmem y).trans (asc.2.2 y).symm)
    have S7 := (S5.trans (Same.new (o := SetX w a6 (us ++ [m0])) h6)).trans (Same.new (o := .lst (zs.map V.str)) hb7)
    have hk7 : (upd (upd H5 a6 (SetX w a6 (us ++ [m0]))) b7 (.lst (zs.map V.str))) b7 = some (.lst (zs.map V.str)) := upd_same
    clear S4 sP dP S5 h6 hb7 hDl hbl eM
    generalize (upd (upd H5 a6 (SetX w a6 (us ++ [m0]))) b7 (.lst (zs.map V.str))) = G7 at *
    have hD7 := hD.same S7
    have hl7 := S7 _ _ hl2
    have s07 := s02.trans S7
    clear hD hl2 s02 S7 srt nd mm hmem hm0 hlenm
    -- what is told
    have kc := k3.at_ mk us
    have cN := of3 (c := d) (mk := mk) (us := us) (φ := fun C => PropOf K C "names" pN fN) pn1 pn2 pn3
    have cR := of3 (c := d) (mk := mk) (us := us) (φ := fun C => PropOf K C "room" pR fR) pr1 pr2 pr3
    have cS := of3 (c := d) (mk := mk) (us := us) (φ := fun C => NX.StrC K C fSt) st1 st2 st3
    have cE := of3 (c := d) (mk := mk) (us := us) (φ := fun C => NX.EqC K C fEq) eq1 eq2 eq3
    obtain ⟨nfS, nfs, nft⟩ := nf _ (of_is d mk us)
    obtain ⟨dx, pu, pq, g1, g2, g3⟩ := id hD7.dd
    refine ⟨_, rfl, x, _, dx, _, _, rfl, g1, kc.cl, kc.nu, rfl, _, rfl, x, _, dx, _, _, rfl, g1, kc.cl, kc.nk, rfl, _, rfl, x, _, dx, _, pN, rfl, g1, kc.cl, cN, x, mk, us, zs, rfl, hD7, fun q hq => ?_⟩
    refine ⟨_, rfl, x, _, dx, _, pR, rfl, g1, kc.cl, cR, x, mk, us, zs, rfl, hD7, ?_⟩
    refine ⟨_, rfl, x, _, dx, _, rfl, g1, cS, x, mk, us, zs, rfl, hD7, fun H8 s8 => ⟨_, rfl, ?_⟩⟩
    refine ⟨by show 5 ≤ sizeLine; decide, fun t5 h5 => ?_⟩
    have S9 := s8.trans (Same.new (o := .lst [.ref pu, mkV mk, .ref q, .int (zs.length : Nat), .str (deedT mk us)]) h5)
    have ht5 : (upd H8 t5 (.lst [.ref pu, mkV mk, .ref q, .int (zs.length : Nat), .str (deedT mk us)])) t5 = some (.lst [.ref pu, mkV mk, .ref q, .int (zs.length : Nat), .str (deedT mk us)]) := upd_same
    have hq9 := S9 _ _ hq
    have hk9 := S9 _ _ hk7
    have hD9 := hD7.same S9
    have hl9 := S9 _ _ hl7
    have s09 := s07.trans S9
    have g2 := S9 _ _ g2
    clear h5 s8 S9 hq hk7 hD7 hl7 s07 g1 g3
    generalize (upd H8 t5 (.lst [.ref pu, mkV mk, .ref q, .int (zs.length : Nat), .str (deedT mk us)])) = G9 at *
    have tb := toldD_ok ok asc
    refine ⟨_, rfl, .ref t5, toldD mk us zs, rfl, .lst (SqL.of ht5) (.cons (.tup (SqT.of g2) (drTup us)) (.cons (dr_mk mk) (.cons (.tup (SqT.of hq9) (drTup zs)) (.cons (.int _) (.cons (.str _) .nil))))), tb.1, tb.2.1, tb.2.2, fun i e => (by cases e), ?_⟩
    refine ⟨_, rfl, l, _, rfl, .inl ⟨SqL.of hl9, fun q1 hq1 => ?_⟩⟩
    have S10 := Same.new (o := .tup (us.map V.str)) hq1
    refine ⟨_, rfl, ?_⟩
    refine ⟨_, rfl, b7, _, rfl, .inl ⟨SqL.of (S10 _ _ hk9), fun q2 hq2 => ?_⟩⟩
    have S11 := S10.trans (Same.new (o := .tup (zs.map V.str)) hq2)
    refine ⟨_, rfl, b7, _, rfl, .inl (SqL.of (S11 _ _ hk9)), ?_⟩
    refine ⟨_, rfl, ?_⟩
    refine ⟨by show 5 ≤ sizeLine; decide, fun t6 h6 => ?_⟩
    rw [List.length_map]
    have S12 := S11.trans (Same.new (o := .lst [.ref q1, mkV mk, .ref q2, .int (zs.length : Nat), .str (deedT mk us)]) h6)
    have ht6 : (upd (upd (upd G9 q1 (.tup (us.map V.str))) q2 (.tup (zs.map V.str))) t6 (.lst [.ref q1, mkV mk, .ref q2, .int (zs.length : Nat), .str (deedT mk us)])) t6 = some (.lst [.ref q1, mkV mk, .ref q2, .int (zs.length : Nat), .str (deedT mk us)]) := upd_same
    have hq1' := (Same.new (o := .tup (zs.map V.str)) hq2).trans (Same.new (o := .lst [.ref q1, mkV mk, .ref q2, .int (zs.length : Nat), .str (deedT mk us)]) h6) _ _ (upd_same (H := G9) (a := q1) (o := .tup (us.map V.str)))
    have hq2' := (Same.new (o := .lst [.ref q1, mkV mk, .ref q2, .int (zs.length : Nat), .str (deedT mk us)]) h6) _ _ (upd_same (H := (upd G9 q1 (.tup (us.map V.str)))) (a := q2) (o := .tup (zs.map V.str)))
    clear S10 S11 hq1 hq2 h6
    generalize (upd (upd (upd G9 q1 (.tup (us.map V.str))) q2 (.tup (zs.map V.str))) t6 (.lst [.ref q1, mkV mk, .ref q2, .int (zs.length : Nat), .str (deedT mk us)])) = G12 at *
    refine ⟨.ref t6, toldD mk us zs, rfl, .lst (SqL.of ht6) (.cons (.tup (SqT.of hq1') (drTup us)) (.cons (dr_mk mk) (.cons (.tup (SqT.of hq2') (drTup zs)) (.cons (.int _) (.cons (.str _) .nil))))), tb.1, tb.2.1, tb.2.2, fun i e => (by cases e), ?_⟩
    refine ⟨rfl, _, rfl, ?_⟩
    rw [decide_eq_true rfl]
    refine iteF ?_
    have hD12 := hD9.same S12
    have hl12 := S12 _ _ hl9
    have s12 := s09.trans S12
    clear tb hD9 hl9 hk9 ht5 g2 hq9 ht6 hq1' hq2' S12 s09
    -- the kinds
    obtain ⟨i1, i2, i3⟩ := kin ok
    obtain ⟨dx', pu', pq', w1, w2, w3⟩ := id hD12.dd
    clear w1 w2 w3
    have tyx := ty.ty k3 hD12
    have kCD := of3 (c := d) (mk := mk) (us := us) (φ := fun C => PySem.W.kitOne K (.ref C) (.ref CD) = some true) ty.ku ty.km ty.kd
    refine ⟨_, rfl, _, _, _, _, true, rfl, .own CD, tyx, kCD, ?_⟩
    refine ⟨_, rfl, _, _, _, _, _, rfl, .own d.u, tyx, i1, ?_⟩
    refine ⟨_, rfl, _, _, _, _, _, rfl, .own d.m, tyx, i2, ?_⟩
    refine ⟨_, rfl, _, _, _, _, _, rfl, .own d.d, tyx, i3, ?_⟩
    refine ⟨by show 4 ≤ sizeLine; decide, fun t7 h7 => ?_⟩
    have S13 := Same.new (o := .lst [.bl true, .bl (bU us), .bl (bM mk), .bl (bU us && bM mk)]) h7
    have ht7 : (upd G12 t7 (.lst [.bl true, .bl (bU us), .bl (bM mk), .bl (bU us && bM mk)])) t7 = some (.lst [.bl true, .bl (bU us), .bl (bM mk), .bl (bU us && bM mk)]) := upd_same
    have hD13 := hD12.same S13
    have hl13 := S13 _ _ hl12
    have s13 := s12.trans S13
    clear h7 S13 hD12 hl12 s12 tyx
    generalize (upd G12 t7 (.lst [.bl true, .bl (bU us), .bl (bM mk), .bl (bU us && bM mk)])) = G13 at *
    refine ⟨_, rfl, ?_⟩
    refine neNil rfl hl13 ok.u.2 fun H14 S14 => ?_
    refine ⟨_, rfl, rfl, ?_⟩
    rw [notNon]
    refine andMk (mk := mk) (l := l) rfl rfl (S14 _ _ hl13) ok.u.2 fun H15 S15 => ?_
    refine ⟨by show 4 ≤ sizeLine; decide, fun t8 h8 => ?_⟩
    have S16 := (S14.trans S15).trans (Same.new (o := .lst [.bl true, .bl (bU us), .bl (bM mk), .bl (bU us && bM mk)]) h8)
    have ht8 : (upd H15 t8 (.lst [.bl true, .bl (bU us), .bl (bM mk), .bl (bU us && bM mk)])) t8 = some (.lst [.bl true, .bl (bU us), .bl (bM mk), .bl (bU us && bM mk)]) := upd_same
    have hD16 := hD13.same S16
    have hl16 := S16 _ _ hl13
    have s16 := s13.trans S16
    have ht7 := S16 _ _ ht7
    clear h8 S14 S15 S16 hD13 hl13 s13
    generalize (upd H15 t8 (.lst [.bl true, .bl (bU us), .bl (bM mk), .bl (bU us && bM mk)])) = G16 at *
    refine ⟨.list ([true, bU us, bM mk, bU us && bM mk].map PyData.bool), .list ([true, bU us, bM mk, bU us && bM mk].map PyData.bool), .lst (SqL.of ht7) (dpBl [true, bU us, bM mk, bU us && bM mk]), .lst (SqL.of ht8) (dpBl [true, bU us, bM mk, bU us && bM mk]), shapedBl4 _ _ _ _, shapedBl4 _ _ _ _, ?_⟩
    rw [eqvBl4]
    refine ⟨_, rfl, iteF ?_⟩
    clear ht8
    -- the twin
    refine ⟨rfl, _, rfl, ?_⟩
    dsimp only [tNil]
    refine ⟨CD, .str (deedT mk us), rfl, .inl ⟨deedT mk us, mk, us, rfl, ?_, ?_, dt_deed ok, fun y H17 new => ?_⟩⟩
    · exact Nat.le_trans (deedT_ok ok).2 (by decide)
    · rw [split_deed ok]
      have := deedW_le (mk := mk) (us := us)
      omega
    obtain ⟨S17, ys17, hY⟩ := new.isD ok
    have hD17 := hD16.same S17
    have hl17 := S17 _ _ hl16
    have s17 := s16.trans S17
    have ht17 := S17 _ _ ht7
    clear new S17 hD16 hl16 s16 ht7
    refine ⟨_, rfl, ?_⟩
    have tyY := ty.ty k3 hY
    refine ⟨_, _, _, _, _, rfl, .own d.u, tyY, i1, ?_⟩
    refine ⟨_, rfl, _, _, _, _, _, rfl, .own d.m, tyY, i2, ?_⟩
    refine ⟨_, rfl, _, _, _, _, _, rfl, .own d.d, tyY, i3, ?_⟩
    refine ⟨by show 3 ≤ sizeLine; decide, fun t9 h9 => ?_⟩
    have S18 := Same.new (o := .lst [.bl (bU us), .bl (bM mk), .bl (bU us && bM mk)]) h9
    have ht9 : (upd H17 t9 (.lst [.bl (bU us), .bl (bM mk), .bl (bU us && bM mk)])) t9 = some (.lst [.bl (bU us), .bl (bM mk), .bl (bU us && bM mk)]) := upd_same
    have hD18 := hD17.same S18
    have hY18 := hY.same S18
    have hl18 := S18 _ _ hl17
    have s18 := s17.trans S18
    have ht18 := S18 _ _ ht17
    clear h9 S18 hD17 hl17 s17 ht17 hY tyY
    generalize (upd H17 t9 (.lst [.bl (bU us), .bl (bM mk), .bl (bU us && bM mk)])) = G18 at *
    refine ⟨_, rfl, ?_⟩
    refine ⟨1, rfl, t7, _, rfl, SqL.of ht18, fun u1 hu1 => ?_⟩
    have eC : cutV [.bl true, .bl (bU us), .bl (bM mk), .bl (bU us && bM mk)] (some 1) none = [V.bl (bU us), .bl (bM mk), .bl (bU us && bM mk)] := rfl
    rw [eC]
    have S19 := Same.new (o := .lst [.bl (bU us), .bl (bM mk), .bl (bU us && bM mk)]) hu1
    refine ⟨.list ([bU us, bM mk, bU us && bM mk].map PyData.bool), .list ([bU us, bM mk, bU us && bM mk].map PyData.bool), .lst (SqL.of (S19 _ _ ht9)) (dpBl [bU us, bM mk, bU us && bM mk]), .lst (SqL.of upd_same) (dpBl [bU us, bM mk, bU us && bM mk]), shapedBl3 _ _ _, shapedBl3 _ _ _, ?_⟩
    rw [eqvBl3]
    refine ⟨_, rfl, iteF ?_⟩
    have hD19 := hD18.same S19
    have hY19 := hY18.same S19
    have hl19 := S19 _ _ hl18
    have s19 := s18.trans S19
    clear hu1 S19 hD18 hY18 hl18 s18 ht18 ht9
    generalize (upd G18 u1 (.lst [.bl (bU us), .bl (bM mk), .bl (bU us && bM mk)])) = G19 at *
    -- uses and makes
    obtain ⟨dx3, p3, r3, g31, g32, g33⟩ := id hD19.dd
    obtain ⟨dy3, q3, o3, f31, f32, f33⟩ := id hY19.dd
    refine ⟨_, rfl, y, _, dy3, _, _, rfl, f31, kc.cl, kc.nu, rfl, _, rfl, x, _, dx3, _, _, rfl, g31, kc.cl, kc.nu, rfl, _, _, .tup (SqT.of f32) (dpTup us), .tup (SqT.of g32) (dpTup us), shapedTup ok.u.2, shapedTup ok.u.2, ?_⟩
    rw [eqvTup, decide_eq_true rfl]
    refine ⟨_, rfl, iteF ?_⟩
    refine ⟨_, rfl, y, _, dy3, _, _, rfl, f31, kc.cl, kc.nk, rfl, _, rfl, ⟨by cases mk <;> rfl, ?_⟩⟩
    rw [decide_eq_true rfl]
    refine ⟨_, rfl, iteF ?_⟩
    refine ⟨_, rfl, _, rfl, y, d.of mk us, dy3, _, _, rfl, f31, cE, nfS, ty.ty k3 hD19, y, mk, us, ys17, .ref x, rfl, hY19, .inl ⟨x, mk, us, zs, rfl, hD19, ?_⟩⟩
    rw [decide_eq_true rfl, decide_eq_true rfl]
    refine ⟨_, rfl, ?_⟩
    refine ⟨_, rfl, iteF ?_⟩
    refine ⟨rfl, _, rfl, ?_⟩
    dsimp only [tNil, List.append_nil]
    refine ⟨CD, .str (deedT mk us), rfl, .inl ⟨deedT mk us, mk, us, rfl, ?_, ?_, dt_deed ok, fun y2 H20 new => ?_⟩⟩
    · exact Nat.le_trans (deedT_ok ok).2 (by decide)
    · rw [split_deed ok]
      have := deedW_le (mk := mk) (us := us)
      omega
    obtain ⟨S20, ys20, hZ⟩ := new.isD ok
    have hD20 := hD19.same S20
    have hl20 := S20 _ _ hl19
    have s20 := s19.trans S20
    clear new S20 hD19 hY19 hl19 s19 g31 g32 g33 f31 f32 f33
    obtain ⟨dz, q4, o4, f41, f42, f43⟩ := id hZ.dd
    refine ⟨_, rfl, y2, d.of mk us, dz, _, _, rfl, f41, cE, nfS, ty.ty k3 hD20, y2, mk, us, ys20, .ref x, rfl, hZ, .inl ⟨x, mk, us, zs, rfl, hD20, ?_⟩⟩
    rw [decide_eq_true rfl, decide_eq_true rfl]
    refine ⟨_, rfl, ?_⟩
    refine ⟨_, rfl, iteF ?_⟩
    clear hZ f41 f42 f43
    -- the marks
    obtain ⟨dx5, p5, r5, g51, g52, g53⟩ := id hD20.dd
    refine ⟨_, rfl, _, rfl, x, d.of mk us, dx5, _, _, rfl, g51, cE, nfs, .base (.str _), x, mk, us, zs, .str (deedT mk us), rfl, hD20, .inr ⟨_, .base (.str _), ks, ?_⟩⟩
    refine ⟨_, rfl, ?_⟩
    refine ⟨_, rfl, _, rfl, x, d.of mk us, dx5, _, _, rfl, g51, cE, nfs, .base (.str _), x, mk, us, zs, .str (deedT mk us), rfl, hD20, .inr ⟨_, .base (.str _), ks, ?_⟩⟩
    refine ⟨_, rfl, ?_⟩
    refine ⟨_, rfl, _, rfl, _, rfl, ?_⟩
    refine ⟨by show 2 ≤ sizeLine; decide, fun w1 hw1 => ?_⟩
    have S21 := Same.new (o := .tup [mkV mk, .ref l]) hw1
    have hD21 := hD20.same S21
    obtain ⟨dx6, p6, r6, g61, g62, g63⟩ := id hD21.dd
    refine ⟨x, d.of mk us, dx6, _, _, rfl, g61, cE, nft, .base (.tup upd_same), x, mk, us, zs, .ref w1, rfl, hD21, .inr ⟨_, .base (.tup upd_same), kt, ?_⟩⟩
    refine ⟨_, rfl, ?_⟩
    refine ⟨by show 3 ≤ sizeLine; decide, fun w2 hw2 => ?_⟩
    have eL : [V.bl (if false = true then !false else false), V.bl (if true = true then !false else false), V.bl (if false = true then !false else false)] = [V.bl false, V.bl true, V.bl false] := rfl
    rw [eL]
    have S22 := (s20.trans S21).trans (Same.new (o := .lst [.bl false, .bl true, .bl false]) hw2)
    have hw2' : (upd (upd H20 w1 (.tup [mkV mk, .ref l])) w2 (.lst [.bl false, .bl true, .bl false])) w2 = some (.lst [.bl false, .bl true, .bl false]) := upd_same
    clear hw1 hw2 g61 g62 g63 hD21 g51 g52 g53 S21 hD20 hl20 s20
    generalize (upd (upd H20 w1 (.tup [mkV mk, .ref l])) w2 (.lst [.bl false, .bl true, .bl false])) = G22 at *
    have t3a : (PyData.list ([false, true, false].map PyData.bool)).showable = true := by decide +kernel
    have t3b : (PyData.list ([false, true, false].map PyData.bool)).depth ≤ 50 := by decide +kernel
    have t3c : (PyData.list ([false, true, false].map PyData.bool)).shown.length ≤ sizeLine := by decide +kernel
    refine ⟨_, rfl, .ref w2, .list ([false, true, false].map PyData.bool), rfl, .lst (SqL.of hw2') (.cons (.bl _) (.cons (.bl _) (.cons (.bl _) .nil))), t3a, t3b, t3c, fun i e => (by cases e), ?_⟩
    refine ⟨by show 3 ≤ sizeLine; decide, fun w3 hw3 => ?_⟩
    have S23 := S22.trans (Same.new (o := .lst [.bl false, .bl true, .bl false]) hw3)
    refine ⟨.ref w3, .list ([false, true, false].map PyData.bool), rfl, .lst (SqL.of upd_same) (.cons (.bl _) (.cons (.bl _) (.cons (.bl _) .nil))), t3a, t3b, t3c, fun i e => (by cases e), ?_⟩
    refine ⟨rfl, ?_⟩
    rw [decide_eq_true rfl]
    exact k _ S23
end
end K01

set_option Elab.async false
set_option linter.all false
set_option maxRecDepth 100000
set_option maxHeartbeats 4000000
/-! Errors of ours as values: C(e, ..), C(), isinstance and fields of such. -/
namespace NX
open PySem L2 PySem.Spec PyProof.Rows
/-- C(e, ..) as a value, C's own __init__ keeping sp -/
def tMkV (C : Addr) (sp : Sp) (dvs : List V) (ta : TA) : TE := fun σ H Q => ta σ H fun vs H1 => vs.length ≤ 1000 ∧ ∀ a, H1 a = none → sp (.ref a :: (vs ++ dvs)) (upd H1 a (exo a C none)) (fun v H2 => v = .non ∧ Q (.ref a) H2) (fun _ _ _ => False)
def tMkV0 (C : Addr) : TE := fun σ H Q => ∀ a, H a = none → Q (.ref a) (upd H a (ExO (.ref C) a))
/-- an error of the class D at a -/
def IsEr (H : Hp) (a D : Addr) : Prop := (∃ d fs, H a = some (exo a D (some d)) ∧ H d = some (exd d fs)) ∨ H a = some (ExO (.ref D) a)
def rIsEr (K : PySem.W.Frag) : List V → Hp → VK → Prop := fun xs H Q => ∃ (a D : Addr) (c : V) (u : Value) (b : Bool), xs = [.ref a, c] ∧ ClsV c u ∧ IsEr H a D ∧ ExcC K D ∧ PySem.W.kitOne K (.ref D) u = some b ∧ Q (.bl b) H
def rIsErT (K : PySem.W.Frag) : List V → Hp → VK → Prop := fun xs H Q => ∃ (a D tp : Addr) (cs : List V) (us : List Value) (b : Bool), xs = [.ref a, .ref tp] ∧ H tp = some (.tup cs) ∧ Paired ClsV cs us ∧ IsEr H a D ∧ ExcC K D ∧ PySem.W.kitAny K (.ref D) us = some b ∧ Q (.bl b) H
def tErF (K : PySem.W.Frag) (n : Str) (te : TE) : TE := fun σ H Q => te σ H fun x H1 => ∃ (a D d : Addr) (fs : List (Str × V)) (v : V), x = .ref a ∧ H1 a = some (exo a D (some d)) ∧ H1 d = some (exd d fs) ∧ XfC K D ∧ PySem.W.findIn K (.ref D) n = some none ∧ fs.lookup n = some v ∧ Q v H1
section
variable {X : Cx} {pins : List (Addr × Obj)} {σ : L2.St} {H : Hp} {s : Shared}
theorem inst_exo {a D d : Addr} {fs : List (Str × V)} (I : Inv X pins σ H s) (ha : H a = some (exo a D (some d))) (hd : H d = some (exd d fs)) :
    ∃ o od, PySem.W.InstAt s.heap a o D (some od) ∧ s.heap.get? d = some od ∧ ∃ mA, s.heap.Ns1 d mA ∧ (∀ f, RelO (fs.lookup f) (mA f)) := by
  obtain ⟨t1, e1⟩ := exo_at I.hok ha
  obtain ⟨mA, hns, hr⟩ := exd_at I.hok hd
  obtain ⟨od, ho, _⟩ := lookIn_ns hns
  exact ⟨_, od, ⟨e1, rfl, rfl, ho⟩, ho, mA, hns, hr⟩
theorem inst_er {a D : Addr} (I : Inv X pins σ H s) (h : IsEr H a D) : ∃ o od, PySem.W.InstAt s.heap a o D od := by
  rcases h with ⟨d, fs, ha, hd⟩ | ha
  · obtain ⟨o, od, J, _⟩ := inst_exo I ha hd
    exact ⟨o, _, J⟩
  · have x : ObjOk X.prog X.w H s.heap a (.ext fun h => ∃ (oe : Obj) (vs : Array Value), h.get? a = some oe ∧ Zc (.ref D) none oe ∧ oe.data = .fields vs ∧ vs[1]? = some .none ∧ vs[2]? = some .none ∧ 4 < vs.size) := I.hok a _ ha
    obtain ⟨⟨oe, vs, e1, z, e4, _⟩, _, _⟩ := x
    exact ⟨oe, none, ⟨e1, z.1, by unfold PySem.W.notCls; rw [e4] <;> rfl, by rw [z.2] <;> trivial⟩⟩
end
section
variable {X : Cx} {e : Expr} {es : List Expr} {te : TE} {ta : TA} {pos p : Pos} {n : Str}
theorem clsSome {K : PySem.W.Frag} {D : Addr} (z : PySem.W.hasDictIn K D = true) : (PySem.W.clsIn K D).isSome = true := by
  unfold PySem.W.hasDictIn at z
  cases q : PySem.W.clsIn K D with
  | some cd => rfl
  | none => rw [q] at z; cases z
theorem call_isEr : CallR X (.builtin "isinstance") (rIsEr X.K) := by
  intro pins s σ H xs us Q I r h
  obtain ⟨a, D, c, u, b, rfl, hc, hE, E, k, q⟩ := h
  obtain ⟨u1, u2, rfl, r1, r2⟩ := vals2 r
  have e2 := hc.eq r2
  subst e2
  obtain rfl : u1 = Value.ref a := r1
  obtain ⟨o, od, J⟩ := inst_er I hE
  exact PySem.W.kia_one (PySem.W.kitx_exc (clsSome E.hd) E.hg E.hk E.hs E.ha E.hn E.ht E.hm) I.kIn J k (fun z => nomatch z) fun tk => ⟨.bl b, H, I.tok tk, rfl, q⟩
theorem call_isErT : CallR X (.builtin "isinstance") (rIsErT X.K) := by
  intro pins s σ H xs us Q I r h
  obtain ⟨a, D, tp, cs, ws, b, rfl, hT, k, hE, E, e, q⟩ := h
  obtain ⟨u1, u2, rfl, r1, r2⟩ := vals2 r
  cases (show u2 = Value.ref tp from r2)
  obtain rfl : u1 = Value.ref a := r1
  obtain ⟨o, od, J⟩ := inst_er I hE
  obtain ⟨_, its, rv, o, h1, h2, n, h3⟩ := (show ObjOk X.prog X.w H s.heap tp (.tup cs) from I.hok tp _ hT)
  have e3 := ClsV.all k rv
  subst e3
  obtain ⟨oc, od, dt, sl⟩ := o
  simp only at h2 h3
  subst h2 h3
  exact PySem.W.kia_tup (PySem.W.kitx_exc (clsSome E.hd) E.hg E.hk E.hs E.ha E.hn E.ht E.hm) I.kIn J h1 e (fun z => nomatch z) fun tk => ⟨.bl b, H, I.tok tk, rfl, q⟩
theorem pe_erF (he : PE X e te) (hb : attributeBase e n X.env (eval e X.env) = eval e X.env := by rfl) : PE X (.Attribute e n pos) (tErF X.K n te) := by
  refine ⟨fun pins s σ H Q I h => attr_of hb (thn (he.run pins s σ H _ I h) fun u s1 ⟨x, H1, I1, rx, a, D, d, fs, v, ex, ha, hd, T, hno, l, q⟩ => ?_)⟩
  subst ex
  obtain rfl : u = Value.ref a := rx
  obtain ⟨o, od, J, ho, mA, hns, hr⟩ := inst_exo I1 ha hd
  obtain ⟨od', ho', hl⟩ := lookIn_ns hns
  rw [ho] at ho'
  cases ho'
  obtain ⟨y, hy, ry⟩ := RelO.some_of (v := v) (o := mA n) (by rw [← l]; exact hr n)
  exact HandSPX.exc_get I1.kIn J T.ga T.gg T.exC (PySem.W.findObj_own T.hdC hno rfl (by rw [hl, hy])) (handed_of ry) ⟨v, H1, I1.tok _, ry, q⟩
theorem pe_oexV {CX : CXT} {x : Str} {C fI : Addr} {k : Nat} {fd : FuncData} {ps : List Str} {sp : Sp} {ds : List Value} {dvs : List V} (T : OexC X.K C) (iC : PySem.W.findIn X.K (.ref C) "__init__" = some (some (.ref fI))) (tI : PySem.W.typeIn X.K (.ref fI) = some (.type "function"))
    (F1 : FnOk X.prog X.w X.K X.mg X.base CX k fI fd ps sp) (hr : Room (k + 1) X.A) (hb : Binds X.K fd ps ds) (hd : Vals dvs ds) (hx : Passes CX X (fun _ _ _ => False)) (hg : Gl X x) (hm : X.mg x = some (.ref C)) (ha : PA X (e :: es) ta)
    (hdb : (x == ("__debug__" : Str)) = false := by decide) (he : starEach (e :: es) X.env = (false, eval e X.env) :: starEach es X.env := by rfl) (hpl : (backTo pos (starEach es X.env)).any (·.1) = false := by rfl) :
    PE X (.Call (.Name x p) (e :: es) [] pos) (tMkV C sp dvs ta) := by
  refine ⟨fun pins s σ H Q I h => ?_⟩
  obtain ⟨nm, q, N, bs, bm, sn, sub, ab, col, dd, k0, k1, k2, k3, k5, hC, hbm⟩ := T.cls
  refine wpAny_Call_Name_kw (ld_glob I hg hm ?_ hdb)
  refine PySem.W.callWith_K (h₀ := X.base) I.ok.mod.kin T.kC (thn (ha.run pos pins s σ H _ I h) fun us s1 ⟨vs, H1, I1, r1, hz, q1⟩ => ⟨I1.kIn, ?_⟩) he hpl
  show wpAny _ _ (call (.ref C) us) _ _ _
  obtain ⟨hp, g, dr, tk, os⟩ := s1
  have hsz : hp.objs.size ≤ hp.objs.size + 1 := Nat.le_succ _
  have hn : H1 (hp.objs.size + 1) = none := I1.hok.fresh hsz
  have hq := q1 (hp.objs.size + 1) hn
  have kk : ∀ b o, hp.get? b = some o → ((hp.push (PySem.W.kdv_tup us)).push (PySem.HandSPX.excO C hp.objs.size)).get? b = some o := fun b o e => Heap.get?_push_of_some _ (Heap.get?_push_of_some _ e)
  have hget : ((hp.push (PySem.W.kdv_tup us)).push (PySem.HandSPX.excO C hp.objs.size)).get? (hp.objs.size + 1) = some (PySem.HandSPX.excO C hp.objs.size) := by heap_get
  have I2 : Inv X pins σ (upd H1 (hp.objs.size + 1) (exo (hp.objs.size + 1) C none)) ⟨(hp.push (PySem.W.kdv_tup us)).push (PySem.HandSPX.excO C hp.objs.size), g, dr, tk, os⟩ :=
    I1.laid (t' := tk) (a := hp.objs.size + 1) (o := exo (hp.objs.size + 1) C none) (h' := (hp.push (PySem.W.kdv_tup us)).push (PySem.HandSPX.excO C hp.objs.size)) kk hsz (exo_ok hget)
  have r2 : Vals (V.ref (hp.objs.size + 1) :: (vs ++ dvs)) (Value.ref (hp.objs.size + 1) :: (us ++ ds)) := .cons rfl (r1.append hd)
  have hl : (Value.ref (hp.objs.size + 1) :: us ++ ds).length = ps.length := by
    have e := r2.length
    rw [F1.len _ _ _ _ hq] at e
    exact e.symm
  have hus : us.length ≤ sizeLine := by
    rw [← Paired.length r1, sizeLine_eq]
    omega
  refine wpAny_call (PySem.HandSPX.call_own F.excBase_ValueError (fun Y => PySem.HandSPX.refsVE_contains Y bm hbm) (I1.kIn _ _ hC) (PySem.W.looks_findIn I1.kIn iC) (fun self => PySem.W.bind_fn I1.kIn self tI) hus
    (codeAny_mono (F1.run _ X.stack _ _ ⟨Value.ref (hp.objs.size + 1) :: us, []⟩ (Value.ref (hp.objs.size + 1) :: (us ++ ds)) _ _ (fun _ _ _ => False) (hr.make C us []) (I2.env0.make C us []) (hb _ (Value.ref (hp.objs.size + 1) :: us) I2.kIn hl) r2 hq) fun r s' hq' => ?_))
  cases r with
  | error er => exact hx pins σ _ _ er s' I2 hq'
  | ok fl =>
    cases fl with
    | ret u =>
      obtain ⟨v, H2, os2, bare2, un2, hok2, rv, ev, q2⟩ := hq'
      subst ev
      exact ⟨rv, ⟨.ref (hp.objs.size + 1), H2, I2.call' (ch := []) os2 un2 hok2 bare2 (fun b z => absurd z (by simp)), rfl, q2⟩⟩
    | next => exact False.elim hq'
    | brk => exact False.elim hq'
    | cont => exact False.elim hq'
theorem pe_oexV0 {C : Addr} {bmB : List Value} {B newId initId : String} {x : Str} (F : ExcBaseFacts B newId initId bmB) (q : PySem.W.excIn X.K C bmB newId = true) (gC : X.mg x = some (.ref C)) (kC : PySem.W.keepIn X.K (.ref C) = true) (hg : Gl X x) (hdb : (x == ("__debug__" : Str)) = false := by decide) :
    PE X (.Call (.Name x p) [] [] pos) (tMkV0 C) := by
  refine ⟨fun pins s σ H Q I h => ?_⟩
  refine wpAny_Call_Name_kw (ld_glob I hg gC ?_ hdb)
  refine PySem.W.callWith_K0 I.kIn kC ?_
  show wpAny _ _ (call (.ref C) []) _ _ _
  obtain ⟨bm, N, nm, qn, bs, hdct, sn, sub, ab, col, dd, k0, k1, k2, k3, k5, mN, hC, hN, hni, T⟩ := exc_obj I.kIn q
  refine wpAny_call_exc_subT F T hC hN hni (fun h' a hm => ?_) (by show 0 ≤ sizeLine; rw [sizeLine_eq]; omega)
  have hn : H a = none := I.hok.gone hm.new
  obtain ⟨t, ht, _, _⟩ := hm.there
  exact ⟨.ref a, upd H a (ExO (.ref C) a), I.laidN hm.keeps hm.new hn (exO_ok ht ⟨rfl, rfl⟩ rfl rfl rfl (show 4 < 6 by decide)), rfl, h a hn⟩
end
end NX

set_option Elab.async false
set_option linter.all false
set_option maxRecDepth 100000
set_option maxHeartbeats 4000000
namespace K01
open PySem L2 NX NU
abbrev sOdd : Stmt := top 52
theorem scOdd : FnScope ["_law_pen_here", "_law_number", "_law_some_here"] ["_law_pen_here"] (defScope sOdd) := ⟨rfl, rfl, rfl, by decide +kernel, rfl, by decide +kernel, by decide +kernel⟩
def okN (n : Int) : Prop := -500000000 ≤ n ∧ n ≤ 500000000
/-- a value as the law draws it -/
inductive Ow (H : Hp) : V → Prop
  | int {n : Int} : okN n → Ow H (.int n)
  | i9 : Ow H (.int (10 ^ 59))
  | loop : Ow H (.str "loop")
  | emp : Ow H (.str "")
  | tup {a : Addr} {n : Int} : okN n → H a = some (.tup [.int n, .str "x"]) → Ow H (.ref a)
  | lst {a : Addr} {n : Int} : okN n → H a = some (.lst [.int n]) → Ow H (.ref a)
  | dct {a : Addr} {n : Int} : okN n → H a = some (.dK [(.inr "a", .int n)]) → Ow H (.ref a)
  | non : Ow H .non
  | bl (b : Bool) : Ow H (.bl b)
  | t0 {a : Addr} : H a = some (.tup []) → Ow H (.ref a)
theorem Ow.keep {H H' : Hp} {v : V} (k : ∀ (b : Addr) (o : HO), H b = some o → (∀ c x y, o ≠ .lst [.ref c, .int x, .int y]) → H' b = some o) (h : Ow H v) : Ow H' v := by
  cases h with
  | int h => exact .int h
  | i9 => exact .i9
  | loop => exact .loop
  | emp => exact .emp
  | tup n h => exact .tup n (k _ _ h (fun c x y e => by cases e))
  | lst n h => exact .lst n (k _ _ h (fun c x y e => by injection e with e; injection e with e; cases e))
  | dct n h => exact .dct n (k _ _ h (fun c x y e => by cases e))
  | non => exact .non
  | bl b => exact .bl b
  | t0 h => exact .t0 (k _ _ h (fun c x y e => by cases e))
theorem Ow.same {H H' : Hp} {v : V} (s : Same H H') (h : Ow H v) : Ow H' v := h.keep fun b o e _ => s b o e
theorem Ow.but {H H' : Hp} {p c : Addr} {ns : List Int} {x y : Int} {v : V} (P : Pen H p c ns x y) (b : But p H H') (h : Ow H v) : Ow H' v := h.keep fun a o e ne => b a o e fun z => by
  rw [z, P.hp] at e
  exact ne c x y (Option.some.inj e).symm
def spOdd : Sp := fun vs H Q _ => ∃ (p c : Addr) (ns : List Int) (at_ rest : Int), vs = [.ref p] ∧ Pen H p c ns at_ rest ∧ at_ ≤ 900000 ∧ ∀ v H', Ow H' v → Drawn H p c ns (at_ + 2) H' → Q v H'
def oddL (n : Int) (a b d e : Addr) : List V := [.int n, .int (10 ^ 59), .str "loop", .str "", .ref a, .ref b, .ref d, .non, .bl true, .bl false, .ref e]
section
variable {P : Program} {w : World} {K : PySem.W.Frag} {mg : Str → Option Value} {base : Heap}
theorem ok_odd {f : Addr} {fd : FuncData} (F : Fun K "_law_odd" "_law_odd" sOdd f fd) (cDraw : C8.Cal P w K mg base 1 "_law_draw" spDraw []) (cPick : C8.Cal P w K mg base 2 "_law_pick" (spPick K) []) : FnOk P w K mg base CX0 3 f fd ["_law_pen_here"] spOdd := by
  refine F.ok scOdd (fun vs H Q E h => ?_) (fun cdv A outer s H vs Q E hr h => ?_)
  · obtain ⟨p, c, ns, a, r, rfl, _⟩ := h
    rfl
  · obtain ⟨p, c, ns, at_, rest, rfl, Pn, ha, k⟩ := h
    refine ⟨_, (pss_cons (ps_set (i := 1) scOdd.nd rfl (Or.inl rfl) (pe_op op_sub (C8.pe_c cDraw hr (by decide) rfl (pa_cons (pv 0) (pa_cons (pe_op op_pow pe_int pe_int) pa_nil))) (pe_op op_mul pe_int (pe_op op_pow pe_int pe_int))))
      (pss_cons (ps_set (i := 2) scOdd.nd rfl (Or.inl rfl) (pe_lst (pa_cons (pv 1) (pa_cons (pe_op op_pow pe_int pe_int) (pa_cons pe_str (pa_cons pe_str (pa_cons (pe_tup (pa_cons (pv 1) (pa_cons pe_str pa_nil))) (pa_cons (pe_lst (pa_cons (pv 1) pa_nil)) (pa_cons (pe_disp (pps_cons pe_str (pv 1) pps_nil) rfl rfl (by intro h; cases h) (by decide)) (pa_cons pe_non (pa_cons pe_bl (pa_cons pe_bl (pa_cons (pe_tup pa_nil) pa_nil)))))))))))))
      (pss_one (ps_ret (C8.pe_c cPick hr (by decide) rfl (pa_cons (pv 0) (pa_cons (pv 2) pa_nil))))))), ?_⟩
    refine ⟨_, rfl, 10, 9, rfl, rfl, ⟨by decide, by decide, by decide⟩, ?_⟩
    refine ⟨p, c, ns, at_, rest, _, rfl, Pn, by omega, by decide, by decide, fun d H0 d0 d1 dr0 => ?_⟩
    obtain ⟨x0, y0, P0, l0, B0⟩ := dr0
    refine ⟨10, 8, rfl, rfl, ⟨by decide, by decide, by decide⟩, 5, _, rfl, rfl, .inl ⟨by decide, by decide⟩, d, _, rfl, rfl, ?_⟩
    have hn : okN (d - 5 * 10 ^ Int.toNat 8) := by
      have e : (5 * 10 ^ Int.toNat 8 : Int) = 500000000 := by decide
      have e9 : (10 ^ Int.toNat 9 : Int) = 1000000000 := by decide
      rw [e]
      rw [e9] at d1
      exact ⟨by omega, by omega⟩
    dsimp only
    generalize d - 5 * 10 ^ Int.toNat 8 = n at *
    refine ⟨_, rfl, 10, 59, rfl, rfl, ⟨by decide, by decide, by decide⟩, _, rfl, by show 2 ≤ sizeLine; decide, fun a1 h1 => ⟨_, rfl, by show 1 ≤ sizeLine; decide, fun a2 h2 => fun a3 h3 => ?_⟩⟩
    refine ⟨_, rfl, upd_same, [(.inr "a", .int n)], rfl, by show 1 ≤ 15; decide, by show 0 ≤ sizeLine; decide, fun a4 h4 => ?_⟩
    have em : mergeK [] [(Sum.inr (Str.ofString "a"), V.int n)] = [((Sum.inr (Str.ofString "a") : Key), V.int n)] := rfl
    rw [em] at h4 ⊢
    have h3' : H0 a3 = none := sameNone ((Same.new h1).trans (Same.new h2)) h3
    have s3 : Same H0 (upd (upd (upd (upd H0 a1 (.tup [.int n, .str "x"])) a2 (.lst [.int n])) a3 (.dK [])) a3 (.dK [(.inr "a", .int n)])) := samePut (((Same.new h1).trans (Same.new h2)).trans (Same.new h3)) h3'
    have put : ∀ {b : Addr} {o : HO}, (upd (upd H0 a1 (.tup [.int n, .str "x"])) a2 (.lst [.int n])) b = some o → (upd (upd (upd (upd H0 a1 (.tup [.int n, .str "x"])) a2 (.lst [.int n])) a3 (.dK [])) a3 (.dK [(.inr "a", .int n)])) b = some o := fun {b o} hb => by
      rw [upd_ne (ne_of_none hb h3), upd_ne (ne_of_none hb h3)]
      exact hb
    have g1 := put ((upd_ne (ne_of_none upd_same h2)).trans upd_same)
    have g2 := put (upd_same (o := .lst [.int n]) (H := upd H0 a1 (.tup [.int n, .str "x"])) (a := a2))
    have g3 : (upd (upd (upd (upd H0 a1 (.tup [.int n, .str "x"])) a2 (.lst [.int n])) a3 (.dK [])) a3 (.dK [(.inr "a", .int n)])) a3 = some (.dK [(.inr "a", .int n)]) := upd_same
    clear put
    generalize (upd (upd (upd (upd H0 a1 (.tup [.int n, .str "x"])) a2 (.lst [.int n])) a3 (.dK [])) a3 (.dK [(.inr "a", .int n)])) = G at *
    refine ⟨by show 11 ≤ sizeLine; decide, fun a5 h5 => ?_⟩
    have k1 := (upd_ne (o := .tup []) (ne_of_none g1 h4)).trans g1
    have k2 := (upd_ne (o := .tup []) (ne_of_none g2 h4)).trans g2
    have k3 := (upd_ne (o := .tup []) (ne_of_none g3 h4)).trans g3
    have k4 : (upd G a4 (.tup [])) a4 = some (.tup []) := upd_same
    have s4 : Same H0 (upd G a4 (.tup [])) := s3.trans (Same.new h4)
    generalize (upd G a4 (.tup [])) = G4 at *
    have s5 : Same G4 (upd G4 a5 (.lst (oddL n a1 a2 a3 a4))) := Same.new h5
    have n5 : a5 ≠ p := fun e => by
      rw [e, s4 _ _ P0.hp] at h5
      cases h5
    refine ⟨_, rfl, _, rfl, p, c, ns, x0, y0, .ref a5, rfl, P0.same (s4.trans s5), by omega, .inl ⟨a5, oddL n a1 a2 a3 a4, rfl, SqL.of upd_same, n5, by show 0 < 11; decide, by show 11 < 1000; decide, fun v H2 hv hD => ?_⟩⟩
    have B : But p G4 H2 := (But.same s5).trans (by obtain ⟨_, _, _, _, B⟩ := hD; exact B)
    have P4 : Pen G4 p c ns x0 y0 := P0.same s4
    have dr : Drawn H p c ns (at_ + 2) H2 := by
      obtain ⟨x, y, P2, l2, B2⟩ := hD
      exact ⟨x, y, P2, by omega, (B0.trans (But.same (s4.trans s5))).trans B2⟩
    refine k v H2 (Ow.but (H := G4) P4 B ?_) dr
    unfold oddL at hv
    simp only [List.mem_cons, List.not_mem_nil, or_false] at hv
    rcases hv with h | h | h | h | h | h | h | h | h | h | h <;> subst h
    · exact .int hn
    · exact .i9
    · exact .loop
    · exact .emp
    · exact .tup hn k1
    · exact .lst hn k2
    · exact .dct hn k3
    · exact .non
    · exact .bl _
    · exact .bl _
    · exact .t0 k4
end
end K01

set_option Elab.async false
set_option linter.all false
set_option maxRecDepth 100000
set_option maxHeartbeats 4000000
namespace K01
open PySem L2 NX NU
/-- an error's __init__: it keeps the fields fs -/
def spErrs (K : PySem.W.Frag) (fs : List Str) : Sp := fun vs H Q _ => ∃ (a C : Addr) (ws : List V), vs = .ref a :: ws ∧ ws.length = fs.length ∧ OexC K C ∧ (∀ f ∈ fs, PySem.W.findIn K (.ref C) f = some none) ∧ H a = some (exo a C none) ∧
  ∀ d H', (∀ b o, b ≠ a → H b = some o → H' b = some o) → H' a = some (exo a C (some d)) → (∃ gs, H' d = some (exd d gs) ∧ ∀ q ∈ fs.zip ws, gs.lookup q.1 = some q.2) → Q .non H'
theorem len1 {ws : List V} {f : Str} (h : ws.length = [f].length) : ∃ v0, ws = [v0] := by
  match ws, h with
  | [v0], _ => exact ⟨v0, rfl⟩
theorem len2 {ws : List V} {f g : Str} (h : ws.length = [f, g].length) : ∃ v0 v1, ws = [v0, v1] := by
  match ws, h with
  | [v0, v1], _ => exact ⟨v0, v1, rfl⟩
theorem len4 {ws : List V} {f g x y : Str} (h : ws.length = [f, g, x, y].length) : ∃ v0 v1 v2 v3, ws = [v0, v1, v2, v3] := by
  match ws, h with
  | [v0, v1, v2, v3], _ => exact ⟨v0, v1, v2, v3, rfl⟩
theorem look1 {f : Str} {v : V} : ∀ q ∈ [f].zip [v], ([(f, v)] : List (Str × V)).lookup q.1 = some q.2 := by
  intro q hq
  have : q = (f, v) := by simpa using hq
  subst this
  simp [List.lookup]
theorem look2 {f g : Str} {v w : V} (n : decide (f = g) = false) : ∀ q ∈ [f, g].zip [v, w], ([(g, w), (f, v)] : List (Str × V)).lookup q.1 = some q.2 := by
  intro q hq
  have n' : f ≠ g := of_decide_eq_false n
  have : q = (f, v) ∨ q = (g, w) := by simpa using hq
  rcases this with e | e <;> subst e <;> simp [L2.lookup_put, n']
theorem look4 {f g x y : Str} {v w a b : V} (n : (decide (f = g) || decide (f = x) || decide (f = y) || decide (g = x) || decide (g = y) || decide (x = y)) = false) : ∀ q ∈ [f, g, x, y].zip [v, w, a, b], ([(y, b), (x, a), (g, w), (f, v)] : List (Str × V)).lookup q.1 = some q.2 := by
  intro q hq
  simp only [Bool.or_eq_false_iff, decide_eq_false_iff_not] at n
  obtain ⟨⟨⟨⟨⟨n1, n2⟩, n3⟩, n4⟩, n5⟩, n6⟩ := n
  have : q = (f, v) ∨ q = (g, w) ∨ q = (x, a) ∨ q = (y, b) := by simpa using hq
  rcases this with e | e | e | e <;> subst e <;> simp [L2.lookup_put, n1, n2, n3, n4, n5, n6]
abbrev Row := Nat × Str × List (Str × Nat)
/-- an error class x of ours with its __init__, which keeps the fields fs -/
structure EFi (P : Program) (w : World) (K : PySem.W.Frag) (mg : Str → Option Value) (base : Heap) (x : Str) (fs : List Str) (C : Addr) : Prop where
  O : OexC K C
  g : mg x = some (.ref C)
  v : ∀ f ∈ fs, PySem.W.findIn K (.ref C) f = some none
  xf : XfC K C
  ini : ∃ fI fd, PySem.W.findIn K (.ref C) "__init__" = some (some (.ref fI)) ∧ PySem.W.typeIn K (.ref fI) = some (.type "function") ∧ FnOk P w K mg base CX0 1 fI fd ("self" :: fs) (spErrs K fs) ∧ Binds K fd ("self" :: fs) []
/-- one without -/
structure EF0 (K : PySem.W.Frag) (mg : Str → Option Value) (x : Str) (C : Addr) : Prop where
  g : mg x = some (.ref C)
  q : PySem.W.excIn K C [.type "ValueError", .type "Exception", .type "BaseException", .type "object"] "ValueError.__new__" = true
  kp : PySem.W.keepIn K (.ref C) = true
/-- what is at e, an error -/
def ErrAt (H : Hp) (e C : Addr) (kvs : List (Str × V)) : Prop := (kvs = [] ∧ H e = some (ExO (.ref C) e)) ∨ ∃ d gs, H e = some (exo e C (some d)) ∧ H d = some (exd d gs) ∧ ∀ q ∈ kvs, gs.lookup q.1 = some q.2
theorem ErrAt.keep {H H' : Hp} {e C : Addr} {kvs : List (Str × V)} (k : ∀ (b : Addr) (o : HO), H b = some o → (∀ xs, o ≠ .lst xs) → H' b = some o) (h : ErrAt H e C kvs) : ErrAt H' e C kvs := by
  rcases h with ⟨e1, h⟩ | ⟨d, gs, h1, h2, h3⟩
  · exact .inl ⟨e1, k _ _ h (fun xs e => by
      have e : HO.ext _ = HO.lst xs := e
      cases e)⟩
  · exact .inr ⟨d, gs, k _ _ h1 (fun xs e => by
      have e : HO.ext _ = HO.lst xs := e
      cases e), k _ _ h2 (fun xs e => by
      have e : HO.ext _ = HO.lst xs := e
      cases e), h3⟩
def rowV (pv : Nat → V) (r : Row) : List (Str × V) := r.2.2.map fun q => (q.1, pv q.2)
/-- an entry of the law's list: error, title, fields -/
def Ent (H : Hp) (cs : Nat → Addr) (pv : Nat → V) (t : V) (r : Row) : Prop := ∃ ta e dd, t = .ref ta ∧ H ta = some (.tup [.ref e, .str r.2.1, .ref dd]) ∧ H dd = some (.dK (r.2.2.map fun q => (.inr q.1, pv q.2))) ∧ ErrAt H e (cs r.1) (rowV pv r)
theorem Ent.keep {H H' : Hp} {cs : Nat → Addr} {pv : Nat → V} {t : V} {r : Row} (k : ∀ (b : Addr) (o : HO), H b = some o → (∀ xs, o ≠ .lst xs) → H' b = some o) (h : Ent H cs pv t r) : Ent H' cs pv t r := by
  obtain ⟨ta, e, dd, h1, h2, h3, h4⟩ := h
  exact ⟨ta, e, dd, h1, k _ _ h2 (fun xs e => by cases e), k _ _ h3 (fun xs e => by cases e), h4.keep k⟩
theorem entsKeep {H H' : Hp} {cs : Nat → Addr} {pv : Nat → V} (k : ∀ (b : Addr) (o : HO), H b = some o → (∀ xs, o ≠ .lst xs) → H' b = some o) : ∀ {ts : List V} {rs : List Row}, Paired (Ent H cs pv) ts rs → Paired (Ent H' cs pv) ts rs
  | _, _, .nil => .nil
  | _, _, .cons a b => .cons (a.keep k) (entsKeep k b)
theorem entsApp {H : Hp} {cs : Nat → Addr} {pv : Nat → V} : ∀ {ts us : List V} {rs qs : List Row}, Paired (Ent H cs pv) ts rs → Paired (Ent H cs pv) us qs → Paired (Ent H cs pv) (ts ++ us) (rs ++ qs)
  | _, _, _, _, .nil, b => b
  | _, _, _, _, .cons a c, b => .cons a (entsApp c b)
/-- te gives what φ tells, and what stood stands -/
structure Gv (te : TE) (σ : L2.St) (φ : Hp → V → Prop) : Prop where
  run : ∀ {H : Hp} {Q : VK}, (∀ v H', Same H H' → φ H' v → Q v H') → te σ H Q
theorem seqSet {te : TE} {i : Nat} {b : TS} {D : L2.Ends} {σ : L2.St} {H : Hp} (h : te σ H fun x H1 => b D (σ.set i (some x)) H1) : tSeq (tAsg te (gName i)) b D σ H := h
theorem seqDrop {te : TE} {b : TS} {D : L2.Ends} {σ : L2.St} {H : Hp} (h : te σ H fun _ H1 => b D σ H1) : tSeq (tDrop te) b D σ H := h
theorem seqRet {te : TE} {D : L2.Ends} {σ : L2.St} {H : Hp} (h : te σ H fun x H1 => D.rt x H1) : tRet te D σ H := h
section
variable {K : PySem.W.Frag} {cs : Nat → Addr} {pv : Nat → V} {σ : L2.St}
theorem mkV_of {fs : List Str} {ws : List V} {H : Hp} {C : Addr} {Q : VK} (O : OexC K C) (v : ∀ f ∈ fs, PySem.W.findIn K (.ref C) f = some none) (hl : ws.length = fs.length) (hw : ws.length ≤ 1000) (hz : ws ≠ [] )
    (k : ∀ e H', Same H H' → ErrAt H' e C (fs.zip ws) → Q (.ref e) H') : ws.length ≤ 1000 ∧ ∀ a : Addr, H a = none → spErrs K fs (.ref a :: (ws ++ [])) (upd H a (exo a C none)) (fun v H2 => v = .non ∧ Q (.ref a) H2) (fun _ _ _ => False) := by
  refine ⟨hw, fun a ha => ⟨a, C, ws, by rw [List.append_nil], hl, O, v, upd_same, fun d H' kp ea ed => ⟨rfl, k a H' (fun b o hb => ?_) ?_⟩⟩⟩
  · have n := ne_of_none hb ha
    exact kp b o n ((upd_ne n).trans hb)
  · obtain ⟨gs, h1, h2⟩ := ed
    exact .inr ⟨d, gs, ea, h1, h2⟩
/-- the rest of an entry, the error made -/
theorem ent_end {H H1 : Hp} {e : Addr} {r : Row} {Q : VK} {trs : List (TE × TE)} {z : Str} (hz : z = r.2.1) (S : Same H H1) (he : ErrAt H1 e (cs r.1) (rowV pv r))
    (hp : ∀ (G : Hp) (R : List (V × V) → Hp → Prop), R (r.2.2.map fun q => (.str q.1, pv q.2)) G → tPairs trs σ G R) (few : r.2.2.length ≤ 15) (nd : mergeK [] (r.2.2.map fun q => ((.inr q.1 : Key), pv q.2)) = r.2.2.map fun q => (.inr q.1, pv q.2))
    (k : ∀ v H', Same H H' → Ent H' cs pv v r → Q v H') : tCons (tC (.str z)) (tCons (tDisp trs) tNil) σ H1 (fun xs H2 => (V.ref e :: xs).length ≤ sizeLine ∧ ∀ p : Addr, H2 p = none → Q (.ref p) (upd H2 p (.tup (V.ref e :: xs)))) := by
  subst hz
  refine fun d hd => hp _ _ ⟨upd_same, r.2.2.map fun q => (.inr q.1, pv q.2), ?_, by rw [List.length_map]; exact few, ⟨by show 3 ≤ sizeLine; decide, fun t ht => ?_⟩⟩
  · rw [List.map_map]
    rfl
  · rw [nd] at ht ⊢
    have hd' : H1 d = none := hd
    have S1 : Same H1 (upd (upd H1 d (.dK [])) d (.dK (r.2.2.map fun q => (.inr q.1, pv q.2)))) := samePut (Same.new hd') hd'
    have S2 := S1.trans (Same.new (o := .tup [.ref e, .str r.2.1, .ref d]) ht)
    refine k _ _ (S.trans S2) ⟨t, e, d, rfl, upd_same, (upd_ne (ne_of_none upd_same ht)).trans upd_same, he.keep fun b o hb _ => S2 _ _ hb⟩
theorem ent1 {r : Row} {z f : Str} {i : Nat} (hz : z = r.2.1) (hr : r.2.2 = [(f, i)]) (O : OexC K (cs r.1)) (hv : ∀ g ∈ [f], PySem.W.findIn K (.ref (cs r.1)) g = some none) (h0 : σ[i]? = some (some (pv i))) :
    Gv (tTup (tCons (NX.tMkV (cs r.1) (spErrs K [f]) [] (tCons (tVar i) tNil)) (tCons (tC (.str z)) (tCons (tDisp [(tC (.str f), tVar i)]) tNil)))) σ (fun H t => Ent H cs pv t r) := by
  refine ⟨fun {H Q} k => ?_⟩
  refine ⟨_, h0, ?_⟩
  dsimp only [tNil]
  refine mkV_of (ws := [pv i]) (Q := fun xe H1 => tCons (tC (.str z)) (tCons (tDisp [(tC (.str f), tVar i)]) tNil) σ H1 (fun xs H2 => (xe :: xs).length ≤ sizeLine ∧ ∀ p : Addr, H2 p = none → Q (.ref p) (upd H2 p (.tup (xe :: xs))))) O hv rfl (by show 1 ≤ 1000; decide) (by simp) fun e H1 S he => ?_
  have ev : rowV pv r = [f].zip [pv i] := by unfold rowV; rw [hr]; rfl
  exact ent_end hz S (ev ▸ he) (fun G R hR => ⟨_, h0, by rw [hr] at hR; exact hR⟩) (by rw [hr]; show 1 ≤ 15; decide) (by rw [hr]; rfl) k
theorem ent2 {r : Row} {z f g : Str} {i j : Nat} (hz : z = r.2.1) (hr : r.2.2 = [(f, i), (g, j)]) (O : OexC K (cs r.1)) (hv : ∀ x ∈ [f, g], PySem.W.findIn K (.ref (cs r.1)) x = some none) (h0 : σ[i]? = some (some (pv i))) (h1 : σ[j]? = some (some (pv j))) (nd : ∀ a b : V, mergeK [] [((.inr f : Key), a), (.inr g, b)] = [(.inr f, a), (.inr g, b)]) :
    Gv (tTup (tCons (NX.tMkV (cs r.1) (spErrs K [f, g]) [] (tCons (tVar i) (tCons (tVar j) tNil))) (tCons (tC (.str z)) (tCons (tDisp [(tC (.str f), tVar i), (tC (.str g), tVar j)]) tNil)))) σ (fun H t => Ent H cs pv t r) := by
  refine ⟨fun {H Q} k => ?_⟩
  refine ⟨_, h0, _, h1, ?_⟩
  dsimp only [tNil]
  refine mkV_of (ws := [pv i, pv j]) (Q := fun xe H1 => tCons (tC (.str z)) (tCons (tDisp [(tC (.str f), tVar i), (tC (.str g), tVar j)]) tNil) σ H1 (fun xs H2 => (xe :: xs).length ≤ sizeLine ∧ ∀ p : Addr, H2 p = none → Q (.ref p) (upd H2 p (.tup (xe :: xs))))) O hv rfl (by show 2 ≤ 1000; decide) (by simp) fun e H1 S he => ?_
  have ev : rowV pv r = [f, g].zip [pv i, pv j] := by unfold rowV; rw [hr]; rfl
  exact ent_end hz S (ev ▸ he) (fun G R hR => ⟨_, h0, _, h1, by rw [hr] at hR; exact hR⟩) (by rw [hr]; show 2 ≤ 15; decide) (by rw [hr]; exact nd _ _) k
theorem ent4 {r : Row} {z f g x y : Str} {i j m n : Nat} (hz : z = r.2.1) (hr : r.2.2 = [(f, i), (g, j), (x, m), (y, n)]) (O : OexC K (cs r.1)) (hv : ∀ u ∈ [f, g, x, y], PySem.W.findIn K (.ref (cs r.1)) u = some none) (h0 : σ[i]? = some (some (pv i))) (h1 : σ[j]? = some (some (pv j))) (h2 : σ[m]? = some (some (pv m))) (h3 : σ[n]? = some (some (pv n)))
    (nd : ∀ a b c d : V, mergeK [] [((.inr f : Key), a), (.inr g, b), (.inr x, c), (.inr y, d)] = [(.inr f, a), (.inr g, b), (.inr x, c), (.inr y, d)]) :
    Gv (tTup (tCons (NX.tMkV (cs r.1) (spErrs K [f, g, x, y]) [] (tCons (tVar i) (tCons (tVar j) (tCons (tVar m) (tCons (tVar n) tNil))))) (tCons (tC (.str z)) (tCons (tDisp [(tC (.str f), tVar i), (tC (.str g), tVar j), (tC (.str x), tVar m), (tC (.str y), tVar n)]) tNil)))) σ (fun H t => Ent H cs pv t r) := by
  refine ⟨fun {H Q} k => ?_⟩
  refine ⟨_, h0, _, h1, _, h2, _, h3, ?_⟩
  dsimp only [tNil]
  refine mkV_of (ws := [pv i, pv j, pv m, pv n]) (Q := fun xe H1 => tCons (tC (.str z)) (tCons (tDisp [(tC (.str f), tVar i), (tC (.str g), tVar j), (tC (.str x), tVar m), (tC (.str y), tVar n)]) tNil) σ H1 (fun xs H2 => (xe :: xs).length ≤ sizeLine ∧ ∀ p : Addr, H2 p = none → Q (.ref p) (upd H2 p (.tup (xe :: xs))))) O hv rfl (by show 4 ≤ 1000; decide) (by simp) fun e H1 S he => ?_
  have ev : rowV pv r = [f, g, x, y].zip [pv i, pv j, pv m, pv n] := by unfold rowV; rw [hr]; rfl
  exact ent_end hz S (ev ▸ he) (fun G R hR => ⟨_, h0, _, h1, _, h2, _, h3, by rw [hr] at hR; exact hR⟩) (by rw [hr]; show 4 ≤ 15; decide) (by rw [hr]; exact nd _ _ _ _) k
theorem ent0 {r : Row} {z : Str} (hz : z = r.2.1) (hr : r.2.2 = []) :
    Gv (tTup (tCons (NX.tMkV0 (cs r.1)) (tCons (tC (.str z)) (tCons tDNewK tNil)))) σ (fun H t => Ent H cs pv t r) := by
  refine ⟨fun {H Q} k => ?_⟩
  subst hz
  intro e he d hd
  refine ⟨by show 3 ≤ sizeLine; decide, fun t ht => ?_⟩
  have S := ((Same.new (o := ExO (.ref (cs r.1)) e) he).trans (Same.new (o := .dK []) hd)).trans (Same.new (o := .tup [.ref e, .str r.2.1, .ref d]) ht)
  have h1 := (Same.new (o := .tup [.ref e, .str r.2.1, .ref d]) ht) _ _ (upd_same (H := upd H e (ExO (.ref (cs r.1)) e)) (a := d) (o := .dK []))
  have h2 := ((Same.new (o := .dK []) hd).trans (Same.new (o := .tup [.ref e, .str r.2.1, .ref d]) ht)) _ _ (upd_same (H := H) (a := e) (o := ExO (.ref (cs r.1)) e))
  refine k _ _ S ⟨t, e, d, rfl, upd_same, by rw [hr]; exact h1, .inl ⟨by unfold rowV; rw [hr]; rfl, h2⟩⟩
/-- what stood but lists stands -/
theorem kOf {H H' : Hp} (S : Same H H') : ∀ (b : Addr) (o : HO), H b = some o → (∀ xs, o ≠ .lst xs) → H' b = some o := fun b o e _ => S b o e
theorem lst2 {t1 t2 : TE} {r1 r2 : Row} (g1 : Gv t1 σ (fun H t => Ent H cs pv t r1)) (g2 : Gv t2 σ (fun H t => Ent H cs pv t r2)) : Gv (tLst (tCons t1 (tCons t2 tNil))) σ (fun H v => ∃ l ts, v = .ref l ∧ H l = some (.lst ts) ∧ Paired (Ent H cs pv) ts [r1, r2]) := by
  refine ⟨fun {H Q} k => g1.run fun a H1 S1 e1 => g2.run fun b H2 S2 e2 => ⟨by show 2 ≤ sizeLine; decide, fun l hl => ?_⟩⟩
  have S3 := Same.new (o := .lst [a, b]) hl
  exact k _ _ ((S1.trans S2).trans S3) ⟨l, [a, b], rfl, upd_same, .cons (e1.keep (kOf (S2.trans S3))) (.cons (e2.keep (kOf S3)) .nil)⟩
theorem lst1 {t1 : TE} {r1 : Row} (g1 : Gv t1 σ (fun H t => Ent H cs pv t r1)) : Gv (tLst (tCons t1 tNil)) σ (fun H v => ∃ l ts, v = .ref l ∧ H l = some (.lst ts) ∧ Paired (Ent H cs pv) ts [r1]) := by
  refine ⟨fun {H Q} k => g1.run fun a H1 S1 e1 => ⟨by show 1 ≤ sizeLine; decide, fun l hl => ?_⟩⟩
  have S3 := Same.new (o := .lst [a]) hl
  exact k _ _ (S1.trans S3) ⟨l, [a], rfl, upd_same, .cons (e1.keep (kOf S3)) .nil⟩
theorem lst3 {t1 t2 t3 : TE} {r1 r2 r3 : Row} (g1 : Gv t1 σ (fun H t => Ent H cs pv t r1)) (g2 : Gv t2 σ (fun H t => Ent H cs pv t r2)) (g3 : Gv t3 σ (fun H t => Ent H cs pv t r3)) : Gv (tLst (tCons t1 (tCons t2 (tCons t3 tNil)))) σ (fun H v => ∃ l ts, v = .ref l ∧ H l = some (.lst ts) ∧ Paired (Ent H cs pv) ts [r1, r2, r3]) := by
  refine ⟨fun {H Q} k => g1.run fun a H1 S1 e1 => g2.run fun b H2 S2 e2 => g3.run fun c H3 S3 e3 => ⟨by show 3 ≤ sizeLine; decide, fun l hl => ?_⟩⟩
  have S4 := Same.new (o := .lst [a, b, c]) hl
  exact k _ _ (((S1.trans S2).trans S3).trans S4) ⟨l, [a, b, c], rfl, upd_same, .cons (e1.keep (kOf ((S2.trans S3).trans S4))) (.cons (e2.keep (kOf (S3.trans S4))) (.cons (e3.keep (kOf S4)) .nil))⟩
/-- the list at variable j, as it is built -/
def Ls (H0 H : Hp) (cs : Nat → Addr) (pv : Nat → V) (l : Addr) (rs : List Row) : Prop := Same H0 H ∧ H0 l = none ∧ ∃ ts, H l = some (.lst ts) ∧ Paired (Ent H cs pv) ts rs
theorem pairLen {H : Hp} : ∀ {ts : List V} {rs : List Row}, Paired (Ent H cs pv) ts rs → ts.length = rs.length
  | _, _, .nil => rfl
  | _, _, .cons _ b => by rw [List.length_cons, List.length_cons, pairLen b]
theorem lstS {t1 t2 : TE} {r1 r2 : Row} {H : Hp} {Q : VK} (g1 : Gv t1 σ (fun H t => Ent H cs pv t r1)) (g2 : Gv t2 σ (fun H t => Ent H cs pv t r2)) (k : ∀ l H', Ls H H' cs pv l [r1, r2] → Q (.ref l) H') : tLst (tCons t1 (tCons t2 tNil)) σ H Q := by
  refine g1.run fun a H1 S1 e1 => g2.run fun b H2 S2 e2 => ⟨by show 2 ≤ sizeLine; decide, fun l hl => ?_⟩
  have S3 := Same.new (o := .lst [a, b]) hl
  exact k l _ ⟨(S1.trans S2).trans S3, sameNone (S1.trans S2) hl, [a, b], upd_same, .cons (e1.keep (kOf (S2.trans S3))) (.cons (e2.keep (kOf S3)) .nil)⟩
theorem catS {t : TE} {H0 H : Hp} {rs qs : List Row} {l : Addr} {j : Nat} {Q : VK} (hj : σ[j]? = some (some (.ref l))) (h : Ls H0 H cs pv l rs) (few : rs.length + qs.length ≤ 100) (g : Gv t σ (fun H v => ∃ l ts, v = .ref l ∧ H l = some (.lst ts) ∧ Paired (Ent H cs pv) ts qs))
    (k : ∀ l' H', Ls H0 H' cs pv l' (rs ++ qs) → Q (.ref l') H') : tOp rCat (tVar j) t σ H Q := by
  obtain ⟨S, _, ts, hl, es⟩ := h
  refine ⟨_, hj, g.run fun v H1 S1 ⟨m, us, ev, hm, fs⟩ => ?_⟩
  subst ev
  have n1 := pairLen es
  have n2 := pairLen fs
  refine ⟨l, m, ts, us, rfl, rfl, S1 _ _ hl, hm, Nat.le_trans (by omega : _ ≤ 100) (by decide), fun p hp => ?_⟩
  have S2 := Same.new (o := .lst (ts ++ us)) hp
  exact k p _ ⟨(S.trans S1).trans S2, sameNone (S.trans S1) hp, _, upd_same, entsApp (entsKeep (kOf (S1.trans S2)) es) (entsKeep (kOf S2) fs)⟩
theorem appS {t : TE} {H0 H : Hp} {rs : List Row} {r : Row} {l : Addr} {j : Nat} {Q : VK} (hj : σ[j]? = some (some (.ref l))) (h : Ls H0 H cs pv l rs) (few : rs.length + 1 ≤ 100) (g : Gv t σ (fun H t => Ent H cs pv t r))
    (k : ∀ H', Ls H0 H' cs pv l (rs ++ [r]) → Q .non H') : tBM K "list" rAppend (tVar j) (tCons t tNil) σ H Q := by
  obtain ⟨S, hn, ts, hl, es⟩ := h
  refine ⟨_, hj, .inl ⟨rfl, ts, SqL.of hl⟩, g.run fun v H1 S1 e => ?_⟩
  have n1 := pairLen es
  refine ⟨l, ts, v, rfl, rfl, S1 _ _ hl, Nat.lt_of_le_of_lt (by omega : _ ≤ 100) (by decide), ?_⟩
  have kp : ∀ (b : Addr) (o : HO), H1 b = some o → (∀ xs, o ≠ .lst xs) → (upd H1 l (.lst (ts ++ [v]))) b = some o := fun b o hb no => by
    rw [upd_ne (fun z => by rw [z, S1 _ _ hl] at hb; exact no _ (Option.some.inj hb).symm)]
    exact hb
  exact k _ ⟨samePut (S.trans S1) hn, hn, _, upd_same, entsApp (entsKeep kp (entsKeep (kOf S1) es)) (.cons (e.keep kp) .nil)⟩
end

abbrev sI0 : Stmt := inClass (top 3) 0
theorem scI0 : FnScope ["self", "value"] ["self", "value"] (defScope sI0) := ⟨rfl, rfl, rfl, by decide +kernel, rfl, by decide +kernel, by decide +kernel⟩
theorem ok_i0 {P : Program} {w : World} {K : PySem.W.Frag} {mg : Str → Option Value} {base : Heap} {f : Addr} {fd : FuncData} (F : Fun K "__init__" "BadName.__init__" sI0 f fd) : FnOk P w K mg base CX0 1 f fd ["self", "value"] (spErrs K ["value"]) := by
  refine F.ok scI0 (fun vs H Q E h => ?_) (fun cdv A outer s H vs Q E hr h => ?_)
  · obtain ⟨a, C, ws, rfl, hl, _⟩ := h
    show (ws.length + 1) = _
    rw [hl]
    rfl
  · obtain ⟨a, C, ws, rfl, hl, T, hv, ha, k⟩ := h
    obtain ⟨v0, rfl⟩ := len1 hl
    refine ⟨_, (pss_one (ps_ost (pv 0) (pv 1))), _, rfl, _, rfl, a, C, rfl, T, hv _ (by simp), .inl ⟨ha, fun dx h1 h2 => ?_⟩⟩
    exact k dx _ (fun b o hb hn => (upd_ne hb).trans ((upd_ne (ne_of_none hn h1)).trans hn)) upd_same ⟨_, (upd_ne h2).trans upd_same, look1⟩
abbrev sI1 : Stmt := inClass (top 4) 0
theorem scI1 : FnScope ["self", "value"] ["self", "value"] (defScope sI1) := ⟨rfl, rfl, rfl, by decide +kernel, rfl, by decide +kernel, by decide +kernel⟩
theorem ok_i1 {P : Program} {w : World} {K : PySem.W.Frag} {mg : Str → Option Value} {base : Heap} {f : Addr} {fd : FuncData} (F : Fun K "__init__" "BadDeed.__init__" sI1 f fd) : FnOk P w K mg base CX0 1 f fd ["self", "value"] (spErrs K ["value"]) := by
  refine F.ok scI1 (fun vs H Q E h => ?_) (fun cdv A outer s H vs Q E hr h => ?_)
  · obtain ⟨a, C, ws, rfl, hl, _⟩ := h
    show (ws.length + 1) = _
    rw [hl]
    rfl
  · obtain ⟨a, C, ws, rfl, hl, T, hv, ha, k⟩ := h
    obtain ⟨v0, rfl⟩ := len1 hl
    refine ⟨_, (pss_one (ps_ost (pv 0) (pv 1))), _, rfl, _, rfl, a, C, rfl, T, hv _ (by simp), .inl ⟨ha, fun dx h1 h2 => ?_⟩⟩
    exact k dx _ (fun b o hb hn => (upd_ne hb).trans ((upd_ne (ne_of_none hn h1)).trans hn)) upd_same ⟨_, (upd_ne h2).trans upd_same, look1⟩
abbrev sI2 : Stmt := inClass (top 5) 0
theorem scI2 : FnScope ["self", "value"] ["self", "value"] (defScope sI2) := ⟨rfl, rfl, rfl, by decide +kernel, rfl, by decide +kernel, by decide +kernel⟩
theorem ok_i2 {P : Program} {w : World} {K : PySem.W.Frag} {mg : Str → Option Value} {base : Heap} {f : Addr} {fd : FuncData} (F : Fun K "__init__" "BadMove.__init__" sI2 f fd) : FnOk P w K mg base CX0 1 f fd ["self", "value"] (spErrs K ["value"]) := by
  refine F.ok scI2 (fun vs H Q E h => ?_) (fun cdv A outer s H vs Q E hr h => ?_)
  · obtain ⟨a, C, ws, rfl, hl, _⟩ := h
    show (ws.length + 1) = _
    rw [hl]
    rfl
  · obtain ⟨a, C, ws, rfl, hl, T, hv, ha, k⟩ := h
    obtain ⟨v0, rfl⟩ := len1 hl
    refine ⟨_, (pss_one (ps_ost (pv 0) (pv 1))), _, rfl, _, rfl, a, C, rfl, T, hv _ (by simp), .inl ⟨ha, fun dx h1 h2 => ?_⟩⟩
    exact k dx _ (fun b o hb hn => (upd_ne hb).trans ((upd_ne (ne_of_none hn h1)).trans hn)) upd_same ⟨_, (upd_ne h2).trans upd_same, look1⟩
abbrev sI3 : Stmt := inClass (top 6) 0
theorem scI3 : FnScope ["self", "value"] ["self", "value"] (defScope sI3) := ⟨rfl, rfl, rfl, by decide +kernel, rfl, by decide +kernel, by decide +kernel⟩
theorem ok_i3 {P : Program} {w : World} {K : PySem.W.Frag} {mg : Str → Option Value} {base : Heap} {f : Addr} {fd : FuncData} (F : Fun K "__init__" "BadNumber.__init__" sI3 f fd) : FnOk P w K mg base CX0 1 f fd ["self", "value"] (spErrs K ["value"]) := by
  refine F.ok scI3 (fun vs H Q E h => ?_) (fun cdv A outer s H vs Q E hr h => ?_)
  · obtain ⟨a, C, ws, rfl, hl, _⟩ := h
    show (ws.length + 1) = _
    rw [hl]
    rfl
  · obtain ⟨a, C, ws, rfl, hl, T, hv, ha, k⟩ := h
    obtain ⟨v0, rfl⟩ := len1 hl
    refine ⟨_, (pss_one (ps_ost (pv 0) (pv 1))), _, rfl, _, rfl, a, C, rfl, T, hv _ (by simp), .inl ⟨ha, fun dx h1 h2 => ?_⟩⟩
    exact k dx _ (fun b o hb hn => (upd_ne hb).trans ((upd_ne (ne_of_none hn h1)).trans hn)) upd_same ⟨_, (upd_ne h2).trans upd_same, look1⟩
abbrev sI4 : Stmt := inClass (top 7) 0
theorem scI4 : FnScope ["self", "value"] ["self", "value"] (defScope sI4) := ⟨rfl, rfl, rfl, by decide +kernel, rfl, by decide +kernel, by decide +kernel⟩
theorem ok_i4 {P : Program} {w : World} {K : PySem.W.Frag} {mg : Str → Option Value} {base : Heap} {f : Addr} {fd : FuncData} (F : Fun K "__init__" "BadPrice.__init__" sI4 f fd) : FnOk P w K mg base CX0 1 f fd ["self", "value"] (spErrs K ["value"]) := by
  refine F.ok scI4 (fun vs H Q E h => ?_) (fun cdv A outer s H vs Q E hr h => ?_)
  · obtain ⟨a, C, ws, rfl, hl, _⟩ := h
    show (ws.length + 1) = _
    rw [hl]
    rfl
  · obtain ⟨a, C, ws, rfl, hl, T, hv, ha, k⟩ := h
    obtain ⟨v0, rfl⟩ := len1 hl
    refine ⟨_, (pss_one (ps_ost (pv 0) (pv 1))), _, rfl, _, rfl, a, C, rfl, T, hv _ (by simp), .inl ⟨ha, fun dx h1 h2 => ?_⟩⟩
    exact k dx _ (fun b o hb hn => (upd_ne hb).trans ((upd_ne (ne_of_none hn h1)).trans hn)) upd_same ⟨_, (upd_ne h2).trans upd_same, look1⟩
abbrev sI5 : Stmt := inClass (top 8) 0
theorem scI5 : FnScope ["self", "value"] ["self", "value"] (defScope sI5) := ⟨rfl, rfl, rfl, by decide +kernel, rfl, by decide +kernel, by decide +kernel⟩
theorem ok_i5 {P : Program} {w : World} {K : PySem.W.Frag} {mg : Str → Option Value} {base : Heap} {f : Addr} {fd : FuncData} (F : Fun K "__init__" "BadPlace.__init__" sI5 f fd) : FnOk P w K mg base CX0 1 f fd ["self", "value"] (spErrs K ["value"]) := by
  refine F.ok scI5 (fun vs H Q E h => ?_) (fun cdv A outer s H vs Q E hr h => ?_)
  · obtain ⟨a, C, ws, rfl, hl, _⟩ := h
    show (ws.length + 1) = _
    rw [hl]
    rfl
  · obtain ⟨a, C, ws, rfl, hl, T, hv, ha, k⟩ := h
    obtain ⟨v0, rfl⟩ := len1 hl
    refine ⟨_, (pss_one (ps_ost (pv 0) (pv 1))), _, rfl, _, rfl, a, C, rfl, T, hv _ (by simp), .inl ⟨ha, fun dx h1 h2 => ?_⟩⟩
    exact k dx _ (fun b o hb hn => (upd_ne hb).trans ((upd_ne (ne_of_none hn h1)).trans hn)) upd_same ⟨_, (upd_ne h2).trans upd_same, look1⟩
abbrev sI6 : Stmt := inClass (top 9) 0
theorem scI6 : FnScope ["self", "part"] ["self", "part"] (defScope sI6) := ⟨rfl, rfl, rfl, by decide +kernel, rfl, by decide +kernel, by decide +kernel⟩
theorem ok_i6 {P : Program} {w : World} {K : PySem.W.Frag} {mg : Str → Option Value} {base : Heap} {f : Addr} {fd : FuncData} (F : Fun K "__init__" "BadPart.__init__" sI6 f fd) : FnOk P w K mg base CX0 1 f fd ["self", "part"] (spErrs K ["part"]) := by
  refine F.ok scI6 (fun vs H Q E h => ?_) (fun cdv A outer s H vs Q E hr h => ?_)
  · obtain ⟨a, C, ws, rfl, hl, _⟩ := h
    show (ws.length + 1) = _
    rw [hl]
    rfl
  · obtain ⟨a, C, ws, rfl, hl, T, hv, ha, k⟩ := h
    obtain ⟨v0, rfl⟩ := len1 hl
    refine ⟨_, (pss_one (ps_ost (pv 0) (pv 1))), _, rfl, _, rfl, a, C, rfl, T, hv _ (by simp), .inl ⟨ha, fun dx h1 h2 => ?_⟩⟩
    exact k dx _ (fun b o hb hn => (upd_ne hb).trans ((upd_ne (ne_of_none hn h1)).trans hn)) upd_same ⟨_, (upd_ne h2).trans upd_same, look1⟩
abbrev sI7 : Stmt := inClass (top 10) 0
theorem scI7 : FnScope ["self", "value"] ["self", "value"] (defScope sI7) := ⟨rfl, rfl, rfl, by decide +kernel, rfl, by decide +kernel, by decide +kernel⟩
theorem ok_i7 {P : Program} {w : World} {K : PySem.W.Frag} {mg : Str → Option Value} {base : Heap} {f : Addr} {fd : FuncData} (F : Fun K "__init__" "BadSlots.__init__" sI7 f fd) : FnOk P w K mg base CX0 1 f fd ["self", "value"] (spErrs K ["value"]) := by
  refine F.ok scI7 (fun vs H Q E h => ?_) (fun cdv A outer s H vs Q E hr h => ?_)
  · obtain ⟨a, C, ws, rfl, hl, _⟩ := h
    show (ws.length + 1) = _
    rw [hl]
    rfl
  · obtain ⟨a, C, ws, rfl, hl, T, hv, ha, k⟩ := h
    obtain ⟨v0, rfl⟩ := len1 hl
    refine ⟨_, (pss_one (ps_ost (pv 0) (pv 1))), _, rfl, _, rfl, a, C, rfl, T, hv _ (by simp), .inl ⟨ha, fun dx h1 h2 => ?_⟩⟩
    exact k dx _ (fun b o hb hn => (upd_ne hb).trans ((upd_ne (ne_of_none hn h1)).trans hn)) upd_same ⟨_, (upd_ne h2).trans upd_same, look1⟩
abbrev sI8 : Stmt := inClass (top 11) 0
theorem scI8 : FnScope ["self", "value"] ["self", "value"] (defScope sI8) := ⟨rfl, rfl, rfl, by decide +kernel, rfl, by decide +kernel, by decide +kernel⟩
theorem ok_i8 {P : Program} {w : World} {K : PySem.W.Frag} {mg : Str → Option Value} {base : Heap} {f : Addr} {fd : FuncData} (F : Fun K "__init__" "BadStanding.__init__" sI8 f fd) : FnOk P w K mg base CX0 1 f fd ["self", "value"] (spErrs K ["value"]) := by
  refine F.ok scI8 (fun vs H Q E h => ?_) (fun cdv A outer s H vs Q E hr h => ?_)
  · obtain ⟨a, C, ws, rfl, hl, _⟩ := h
    show (ws.length + 1) = _
    rw [hl]
    rfl
  · obtain ⟨a, C, ws, rfl, hl, T, hv, ha, k⟩ := h
    obtain ⟨v0, rfl⟩ := len1 hl
    refine ⟨_, (pss_one (ps_ost (pv 0) (pv 1))), _, rfl, _, rfl, a, C, rfl, T, hv _ (by simp), .inl ⟨ha, fun dx h1 h2 => ?_⟩⟩
    exact k dx _ (fun b o hb hn => (upd_ne hb).trans ((upd_ne (ne_of_none hn h1)).trans hn)) upd_same ⟨_, (upd_ne h2).trans upd_same, look1⟩
abbrev sI9 : Stmt := inClass (top 12) 0
theorem scI9 : FnScope ["self", "value"] ["self", "value"] (defScope sI9) := ⟨rfl, rfl, rfl, by decide +kernel, rfl, by decide +kernel, by decide +kernel⟩
theorem ok_i9 {P : Program} {w : World} {K : PySem.W.Frag} {mg : Str → Option Value} {base : Heap} {f : Addr} {fd : FuncData} (F : Fun K "__init__" "BadRule.__init__" sI9 f fd) : FnOk P w K mg base CX0 1 f fd ["self", "value"] (spErrs K ["value"]) := by
  refine F.ok scI9 (fun vs H Q E h => ?_) (fun cdv A outer s H vs Q E hr h => ?_)
  · obtain ⟨a, C, ws, rfl, hl, _⟩ := h
    show (ws.length + 1) = _
    rw [hl]
    rfl
  · obtain ⟨a, C, ws, rfl, hl, T, hv, ha, k⟩ := h
    obtain ⟨v0, rfl⟩ := len1 hl
    refine ⟨_, (pss_one (ps_ost (pv 0) (pv 1))), _, rfl, _, rfl, a, C, rfl, T, hv _ (by simp), .inl ⟨ha, fun dx h1 h2 => ?_⟩⟩
    exact k dx _ (fun b o hb hn => (upd_ne hb).trans ((upd_ne (ne_of_none hn h1)).trans hn)) upd_same ⟨_, (upd_ne h2).trans upd_same, look1⟩
abbrev sI10 : Stmt := inClass (top 13) 0
theorem scI10 : FnScope ["self", "name"] ["self", "name"] (defScope sI10) := ⟨rfl, rfl, rfl, by decide +kernel, rfl, by decide +kernel, by decide +kernel⟩
theorem ok_i10 {P : Program} {w : World} {K : PySem.W.Frag} {mg : Str → Option Value} {base : Heap} {f : Addr} {fd : FuncData} (F : Fun K "__init__" "Twice.__init__" sI10 f fd) : FnOk P w K mg base CX0 1 f fd ["self", "name"] (spErrs K ["name"]) := by
  refine F.ok scI10 (fun vs H Q E h => ?_) (fun cdv A outer s H vs Q E hr h => ?_)
  · obtain ⟨a, C, ws, rfl, hl, _⟩ := h
    show (ws.length + 1) = _
    rw [hl]
    rfl
  · obtain ⟨a, C, ws, rfl, hl, T, hv, ha, k⟩ := h
    obtain ⟨v0, rfl⟩ := len1 hl
    refine ⟨_, (pss_one (ps_ost (pv 0) (pv 1))), _, rfl, _, rfl, a, C, rfl, T, hv _ (by simp), .inl ⟨ha, fun dx h1 h2 => ?_⟩⟩
    exact k dx _ (fun b o hb hn => (upd_ne hb).trans ((upd_ne (ne_of_none hn h1)).trans hn)) upd_same ⟨_, (upd_ne h2).trans upd_same, look1⟩
abbrev sI11 : Stmt := inClass (top 14) 0
theorem scI11 : FnScope ["self", "most"] ["self", "most"] (defScope sI11) := ⟨rfl, rfl, rfl, by decide +kernel, rfl, by decide +kernel, by decide +kernel⟩
theorem ok_i11 {P : Program} {w : World} {K : PySem.W.Frag} {mg : Str → Option Value} {base : Heap} {f : Addr} {fd : FuncData} (F : Fun K "__init__" "TooMany.__init__" sI11 f fd) : FnOk P w K mg base CX0 1 f fd ["self", "most"] (spErrs K ["most"]) := by
  refine F.ok scI11 (fun vs H Q E h => ?_) (fun cdv A outer s H vs Q E hr h => ?_)
  · obtain ⟨a, C, ws, rfl, hl, _⟩ := h
    show (ws.length + 1) = _
    rw [hl]
    rfl
  · obtain ⟨a, C, ws, rfl, hl, T, hv, ha, k⟩ := h
    obtain ⟨v0, rfl⟩ := len1 hl
    refine ⟨_, (pss_one (ps_ost (pv 0) (pv 1))), _, rfl, _, rfl, a, C, rfl, T, hv _ (by simp), .inl ⟨ha, fun dx h1 h2 => ?_⟩⟩
    exact k dx _ (fun b o hb hn => (upd_ne hb).trans ((upd_ne (ne_of_none hn h1)).trans hn)) upd_same ⟨_, (upd_ne h2).trans upd_same, look1⟩
abbrev sI12 : Stmt := inClass (top 15) 0
theorem scI12 : FnScope ["self", "place", "name"] ["self", "place", "name"] (defScope sI12) := ⟨rfl, rfl, rfl, by decide +kernel, rfl, by decide +kernel, by decide +kernel⟩
theorem ok_i12 {P : Program} {w : World} {K : PySem.W.Frag} {mg : Str → Option Value} {base : Heap} {f : Addr} {fd : FuncData} (F : Fun K "__init__" "Unmade.__init__" sI12 f fd) : FnOk P w K mg base CX0 1 f fd ["self", "place", "name"] (spErrs K ["place", "name"]) := by
  refine F.ok scI12 (fun vs H Q E h => ?_) (fun cdv A outer s H vs Q E hr h => ?_)
  · obtain ⟨a, C, ws, rfl, hl, _⟩ := h
    show (ws.length + 1) = _
    rw [hl]
    rfl
  · obtain ⟨a, C, ws, rfl, hl, T, hv, ha, k⟩ := h
    obtain ⟨v0, v1, rfl⟩ := len2 hl
    refine ⟨_, (pss_cons (ps_ost (pv 0) (pv 1)) (pss_one (ps_ost (pv 0) (pv 2)))), _, rfl, _, rfl, a, C, rfl, T, hv _ (by simp), .inl ⟨ha, fun dx h1 h2 => ?_⟩⟩
    refine ⟨_, rfl, _, rfl, a, C, rfl, T, hv _ (by simp), .inr ⟨dx, _, upd_same, (upd_ne h2).trans upd_same, by show 1 ≤ 900; decide, ?_⟩⟩
    exact k dx _ (fun b o hb hn => (upd_ne (ne_of_none hn h1)).trans ((upd_ne hb).trans ((upd_ne (ne_of_none hn h1)).trans hn))) ((upd_ne (Ne.symm h2)).trans (upd_same)) ⟨_, upd_same, look2 (by decide +kernel)⟩
abbrev sI13 : Stmt := inClass (top 16) 0
theorem scI13 : FnScope ["self", "place", "name"] ["self", "place", "name"] (defScope sI13) := ⟨rfl, rfl, rfl, by decide +kernel, rfl, by decide +kernel, by decide +kernel⟩
theorem ok_i13 {P : Program} {w : World} {K : PySem.W.Frag} {mg : Str → Option Value} {base : Heap} {f : Addr} {fd : FuncData} (F : Fun K "__init__" "MadeAgain.__init__" sI13 f fd) : FnOk P w K mg base CX0 1 f fd ["self", "place", "name"] (spErrs K ["place", "name"]) := by
  refine F.ok scI13 (fun vs H Q E h => ?_) (fun cdv A outer s H vs Q E hr h => ?_)
  · obtain ⟨a, C, ws, rfl, hl, _⟩ := h
    show (ws.length + 1) = _
    rw [hl]
    rfl
  · obtain ⟨a, C, ws, rfl, hl, T, hv, ha, k⟩ := h
    obtain ⟨v0, v1, rfl⟩ := len2 hl
    refine ⟨_, (pss_cons (ps_ost (pv 0) (pv 1)) (pss_one (ps_ost (pv 0) (pv 2)))), _, rfl, _, rfl, a, C, rfl, T, hv _ (by simp), .inl ⟨ha, fun dx h1 h2 => ?_⟩⟩
    refine ⟨_, rfl, _, rfl, a, C, rfl, T, hv _ (by simp), .inr ⟨dx, _, upd_same, (upd_ne h2).trans upd_same, by show 1 ≤ 900; decide, ?_⟩⟩
    exact k dx _ (fun b o hb hn => (upd_ne (ne_of_none hn h1)).trans ((upd_ne hb).trans ((upd_ne (ne_of_none hn h1)).trans hn))) ((upd_ne (Ne.symm h2)).trans (upd_same)) ⟨_, upd_same, look2 (by decide +kernel)⟩
abbrev sI14 : Stmt := inClass (top 17) 0
theorem scI14 : FnScope ["self", "place"] ["self", "place"] (defScope sI14) := ⟨rfl, rfl, rfl, by decide +kernel, rfl, by decide +kernel, by decide +kernel⟩
theorem ok_i14 {P : Program} {w : World} {K : PySem.W.Frag} {mg : Str → Option Value} {base : Heap} {f : Addr} {fd : FuncData} (F : Fun K "__init__" "NoRoom.__init__" sI14 f fd) : FnOk P w K mg base CX0 1 f fd ["self", "place"] (spErrs K ["place"]) := by
  refine F.ok scI14 (fun vs H Q E h => ?_) (fun cdv A outer s H vs Q E hr h => ?_)
  · obtain ⟨a, C, ws, rfl, hl, _⟩ := h
    show (ws.length + 1) = _
    rw [hl]
    rfl
  · obtain ⟨a, C, ws, rfl, hl, T, hv, ha, k⟩ := h
    obtain ⟨v0, rfl⟩ := len1 hl
    refine ⟨_, (pss_one (ps_ost (pv 0) (pv 1))), _, rfl, _, rfl, a, C, rfl, T, hv _ (by simp), .inl ⟨ha, fun dx h1 h2 => ?_⟩⟩
    exact k dx _ (fun b o hb hn => (upd_ne hb).trans ((upd_ne (ne_of_none hn h1)).trans hn)) upd_same ⟨_, (upd_ne h2).trans upd_same, look1⟩
abbrev sI15 : Stmt := inClass (top 18) 0
theorem scI15 : FnScope ["self", "place"] ["self", "place"] (defScope sI15) := ⟨rfl, rfl, rfl, by decide +kernel, rfl, by decide +kernel, by decide +kernel⟩
theorem ok_i15 {P : Program} {w : World} {K : PySem.W.Frag} {mg : Str → Option Value} {base : Heap} {f : Addr} {fd : FuncData} (F : Fun K "__init__" "Crowded.__init__" sI15 f fd) : FnOk P w K mg base CX0 1 f fd ["self", "place"] (spErrs K ["place"]) := by
  refine F.ok scI15 (fun vs H Q E h => ?_) (fun cdv A outer s H vs Q E hr h => ?_)
  · obtain ⟨a, C, ws, rfl, hl, _⟩ := h
    show (ws.length + 1) = _
    rw [hl]
    rfl
  · obtain ⟨a, C, ws, rfl, hl, T, hv, ha, k⟩ := h
    obtain ⟨v0, rfl⟩ := len1 hl
    refine ⟨_, (pss_one (ps_ost (pv 0) (pv 1))), _, rfl, _, rfl, a, C, rfl, T, hv _ (by simp), .inl ⟨ha, fun dx h1 h2 => ?_⟩⟩
    exact k dx _ (fun b o hb hn => (upd_ne hb).trans ((upd_ne (ne_of_none hn h1)).trans hn)) upd_same ⟨_, (upd_ne h2).trans upd_same, look1⟩
abbrev sI16 : Stmt := inClass (top 19) 0
theorem scI16 : FnScope ["self", "word", "name"] ["self", "word", "name"] (defScope sI16) := ⟨rfl, rfl, rfl, by decide +kernel, rfl, by decide +kernel, by decide +kernel⟩
theorem ok_i16 {P : Program} {w : World} {K : PySem.W.Frag} {mg : Str → Option Value} {base : Heap} {f : Addr} {fd : FuncData} (F : Fun K "__init__" "Barred.__init__" sI16 f fd) : FnOk P w K mg base CX0 1 f fd ["self", "word", "name"] (spErrs K ["word", "name"]) := by
  refine F.ok scI16 (fun vs H Q E h => ?_) (fun cdv A outer s H vs Q E hr h => ?_)
  · obtain ⟨a, C, ws, rfl, hl, _⟩ := h
    show (ws.length + 1) = _
    rw [hl]
    rfl
  · obtain ⟨a, C, ws, rfl, hl, T, hv, ha, k⟩ := h
    obtain ⟨v0, v1, rfl⟩ := len2 hl
    refine ⟨_, (pss_cons (ps_ost (pv 0) (pv 1)) (pss_one (ps_ost (pv 0) (pv 2)))), _, rfl, _, rfl, a, C, rfl, T, hv _ (by simp), .inl ⟨ha, fun dx h1 h2 => ?_⟩⟩
    refine ⟨_, rfl, _, rfl, a, C, rfl, T, hv _ (by simp), .inr ⟨dx, _, upd_same, (upd_ne h2).trans upd_same, by show 1 ≤ 900; decide, ?_⟩⟩
    exact k dx _ (fun b o hb hn => (upd_ne (ne_of_none hn h1)).trans ((upd_ne hb).trans ((upd_ne (ne_of_none hn h1)).trans hn))) ((upd_ne (Ne.symm h2)).trans (upd_same)) ⟨_, upd_same, look2 (by decide +kernel)⟩
abbrev sI17 : Stmt := inClass (top 20) 0
theorem scI17 : FnScope ["self", "at", "index", "word", "name"] ["self", "at", "index", "word", "name"] (defScope sI17) := ⟨rfl, rfl, rfl, by decide +kernel, rfl, by decide +kernel, by decide +kernel⟩
theorem ok_i17 {P : Program} {w : World} {K : PySem.W.Frag} {mg : Str → Option Value} {base : Heap} {f : Addr} {fd : FuncData} (F : Fun K "__init__" "BadPlan.__init__" sI17 f fd) : FnOk P w K mg base CX0 1 f fd ["self", "at", "index", "word", "name"] (spErrs K ["at", "index", "word", "name"]) := by
  refine F.ok scI17 (fun vs H Q E h => ?_) (fun cdv A outer s H vs Q E hr h => ?_)
  · obtain ⟨a, C, ws, rfl, hl, _⟩ := h
    show (ws.length + 1) = _
    rw [hl]
    rfl
  · obtain ⟨a, C, ws, rfl, hl, T, hv, ha, k⟩ := h
    obtain ⟨v0, v1, v2, v3, rfl⟩ := len4 hl
    refine ⟨_, (pss_cons (ps_ost (pv 0) (pv 1)) (pss_cons (ps_ost (pv 0) (pv 2)) (pss_cons (ps_ost (pv 0) (pv 3)) (pss_one (ps_ost (pv 0) (pv 4)))))), _, rfl, _, rfl, a, C, rfl, T, hv _ (by simp), .inl ⟨ha, fun dx h1 h2 => ?_⟩⟩
    refine ⟨_, rfl, _, rfl, a, C, rfl, T, hv _ (by simp), .inr ⟨dx, _, upd_same, (upd_ne h2).trans upd_same, by show 1 ≤ 900; decide, ?_⟩⟩
    refine ⟨_, rfl, _, rfl, a, C, rfl, T, hv _ (by simp), .inr ⟨dx, _, (upd_ne (Ne.symm h2)).trans upd_same, upd_same, by show 2 ≤ 900; decide, ?_⟩⟩
    refine ⟨_, rfl, _, rfl, a, C, rfl, T, hv _ (by simp), .inr ⟨dx, _, (upd_ne (Ne.symm h2)).trans ((upd_ne (Ne.symm h2)).trans upd_same), upd_same, by show 3 ≤ 900; decide, ?_⟩⟩
    exact k dx _ (fun b o hb hn => (upd_ne (ne_of_none hn h1)).trans ((upd_ne (ne_of_none hn h1)).trans ((upd_ne (ne_of_none hn h1)).trans ((upd_ne hb).trans ((upd_ne (ne_of_none hn h1)).trans hn))))) ((upd_ne (Ne.symm h2)).trans ((upd_ne (Ne.symm h2)).trans ((upd_ne (Ne.symm h2)).trans (upd_same)))) ⟨_, upd_same, look4 (by decide +kernel)⟩
abbrev sI23 : Stmt := inClass (top 26) 0
theorem scI23 : FnScope ["self", "line", "word"] ["self", "line", "word"] (defScope sI23) := ⟨rfl, rfl, rfl, by decide +kernel, rfl, by decide +kernel, by decide +kernel⟩
theorem ok_i23 {P : Program} {w : World} {K : PySem.W.Frag} {mg : Str → Option Value} {base : Heap} {f : Addr} {fd : FuncData} (F : Fun K "__init__" "BadText.__init__" sI23 f fd) : FnOk P w K mg base CX0 1 f fd ["self", "line", "word"] (spErrs K ["line", "word"]) := by
  refine F.ok scI23 (fun vs H Q E h => ?_) (fun cdv A outer s H vs Q E hr h => ?_)
  · obtain ⟨a, C, ws, rfl, hl, _⟩ := h
    show (ws.length + 1) = _
    rw [hl]
    rfl
  · obtain ⟨a, C, ws, rfl, hl, T, hv, ha, k⟩ := h
    obtain ⟨v0, v1, rfl⟩ := len2 hl
    refine ⟨_, (pss_cons (ps_ost (pv 0) (pv 1)) (pss_one (ps_ost (pv 0) (pv 2)))), _, rfl, _, rfl, a, C, rfl, T, hv _ (by simp), .inl ⟨ha, fun dx h1 h2 => ?_⟩⟩
    refine ⟨_, rfl, _, rfl, a, C, rfl, T, hv _ (by simp), .inr ⟨dx, _, upd_same, (upd_ne h2).trans upd_same, by show 1 ≤ 900; decide, ?_⟩⟩
    exact k dx _ (fun b o hb hn => (upd_ne (ne_of_none hn h1)).trans ((upd_ne hb).trans ((upd_ne (ne_of_none hn h1)).trans hn))) ((upd_ne (Ne.symm h2)).trans (upd_same)) ⟨_, upd_same, look2 (by decide +kernel)⟩
abbrev sI24 : Stmt := inClass (top 27) 0
theorem scI24 : FnScope ["self", "word"] ["self", "word"] (defScope sI24) := ⟨rfl, rfl, rfl, by decide +kernel, rfl, by decide +kernel, by decide +kernel⟩
theorem ok_i24 {P : Program} {w : World} {K : PySem.W.Frag} {mg : Str → Option Value} {base : Heap} {f : Addr} {fd : FuncData} (F : Fun K "__init__" "BadLine.__init__" sI24 f fd) : FnOk P w K mg base CX0 1 f fd ["self", "word"] (spErrs K ["word"]) := by
  refine F.ok scI24 (fun vs H Q E h => ?_) (fun cdv A outer s H vs Q E hr h => ?_)
  · obtain ⟨a, C, ws, rfl, hl, _⟩ := h
    show (ws.length + 1) = _
    rw [hl]
    rfl
  · obtain ⟨a, C, ws, rfl, hl, T, hv, ha, k⟩ := h
    obtain ⟨v0, rfl⟩ := len1 hl
    refine ⟨_, (pss_one (ps_ost (pv 0) (pv 1))), _, rfl, _, rfl, a, C, rfl, T, hv _ (by simp), .inl ⟨ha, fun dx h1 h2 => ?_⟩⟩
    exact k dx _ (fun b o hb hn => (upd_ne hb).trans ((upd_ne (ne_of_none hn h1)).trans hn)) upd_same ⟨_, (upd_ne h2).trans upd_same, look1⟩

/-- the errors in the order of the law: class, title, fields -/
abbrev row0 : Row := (0, "BadName", [("value", 0)])
abbrev row1 : Row := (1, "BadDeed", [("value", 0)])
abbrev row2 : Row := (2, "BadMove", [("value", 0)])
abbrev row3 : Row := (3, "BadNumber", [("value", 0)])
abbrev row4 : Row := (4, "BadPrice", [("value", 0)])
abbrev row5 : Row := (5, "BadPlace", [("value", 0)])
abbrev row6 : Row := (6, "BadPart", [("part", 0)])
abbrev row7 : Row := (7, "BadSlots", [("value", 0)])
abbrev row8 : Row := (8, "BadStanding", [("value", 0)])
abbrev row9 : Row := (9, "BadRule", [("value", 0)])
abbrev row10 : Row := (10, "Twice", [("name", 0)])
abbrev row11 : Row := (11, "TooMany", [("most", 0)])
abbrev row12 : Row := (12, "Unmade", [("place", 0), ("name", 1)])
abbrev row13 : Row := (14, "NoRoom", [("place", 0)])
abbrev row14 : Row := (13, "MadeAgain", [("place", 0), ("name", 1)])
abbrev row15 : Row := (15, "Crowded", [("place", 0)])
abbrev row16 : Row := (16, "Barred", [("word", 0), ("name", 1)])
abbrev row17 : Row := (24, "BadLine", [("word", 0)])
abbrev row18 : Row := (17, "BadPlan", [("at", 0), ("index", 1), ("word", 2), ("name", 3)])
abbrev row19 : Row := (18, "NoLoop", [])
abbrev row20 : Row := (19, "HasLoop", [])
abbrev row21 : Row := (20, "OneLoop", [])
abbrev row22 : Row := (21, "TwoLoops", [])
abbrev row23 : Row := (22, "Finished", [])
abbrev row24 : Row := (23, "BadText", [("line", 0), ("word", 1)])
def errTab : List Row := [row0, row1, row2, row3, row4, row5, row6, row7, row8, row9, row10, row11, row12, row13, row14, row15, row16, row17, row18, row19, row20, row21, row22, row23, row24]
/-- what is said of all of them -/
structure Errs (P : Program) (w : World) (K : PySem.W.Frag) (mg : Str → Option Value) (base : Heap) (CS : Addr) (cs : Nat → Addr) : Prop where
  e0 : EFi P w K mg base "BadName" ["value"] (cs 0)
  e1 : EFi P w K mg base "BadDeed" ["value"] (cs 1)
  e2 : EFi P w K mg base "BadMove" ["value"] (cs 2)
  e3 : EFi P w K mg base "BadNumber" ["value"] (cs 3)
  e4 : EFi P w K mg base "BadPrice" ["value"] (cs 4)
  e5 : EFi P w K mg base "BadPlace" ["value"] (cs 5)
  e6 : EFi P w K mg base "BadPart" ["part"] (cs 6)
  e7 : EFi P w K mg base "BadSlots" ["value"] (cs 7)
  e8 : EFi P w K mg base "BadStanding" ["value"] (cs 8)
  e9 : EFi P w K mg base "BadRule" ["value"] (cs 9)
  e10 : EFi P w K mg base "Twice" ["name"] (cs 10)
  e11 : EFi P w K mg base "TooMany" ["most"] (cs 11)
  e12 : EFi P w K mg base "Unmade" ["place", "name"] (cs 12)
  e13 : EFi P w K mg base "MadeAgain" ["place", "name"] (cs 13)
  e14 : EFi P w K mg base "NoRoom" ["place"] (cs 14)
  e15 : EFi P w K mg base "Crowded" ["place"] (cs 15)
  e16 : EFi P w K mg base "Barred" ["word", "name"] (cs 16)
  e17 : EFi P w K mg base "BadPlan" ["at", "index", "word", "name"] (cs 17)
  e18 : EF0 K mg "NoLoop" (cs 18)
  e19 : EF0 K mg "HasLoop" (cs 19)
  e20 : EF0 K mg "OneLoop" (cs 20)
  e21 : EF0 K mg "TwoLoops" (cs 21)
  e22 : EF0 K mg "Finished" (cs 22)
  e23 : EFi P w K mg base "BadText" ["line", "word"] (cs 23)
  e24 : EFi P w K mg base "BadLine" ["word"] (cs 24)
  gS : mg "StowError" = some (.ref CS)
  ec : ∀ i, i < 25 → ExcC K (cs i)
  sS : ∀ i, i < 25 → PySem.W.kitOne K (.ref (cs i)) (.ref CS) = some true
  sV : ∀ i, i < 25 → PySem.W.kitOne K (.ref (cs i)) (.type "ValueError") = some true
  kk : ∀ i, i < 25 → ∀ j, j < 25 → PySem.W.kitOne K (.ref (cs i)) (.ref (cs j)) = some (decide (i = j))
  kt : ∀ i, i < 25 → PySem.W.kitAny K (.ref (cs i)) [.type "LookupError", .type "ArithmeticError", .type "TypeError", .type "RuntimeError", .type "AttributeError"] = some false
end K01

set_option Elab.async false
set_option linter.all false
set_option maxRecDepth 100000
set_option maxHeartbeats 8000000
namespace K01
open PySem L2 NX NU
abbrev sErrs : Stmt := top 53
theorem scErrs : FnScope ["_law_a", "_law_b", "_law_c", "_law_d", "_law_found"] ["_law_a", "_law_b", "_law_c", "_law_d"] (defScope sErrs) := ⟨rfl, rfl, rfl, by decide +kernel, rfl, by decide +kernel, by decide +kernel⟩
def pv4 (a b c d : V) : Nat → V
  | 0 => a
  | 1 => b
  | 2 => c
  | _ => d
def spErrors (cs : Nat → Addr) : Sp := fun vs H Q _ => ∃ a b c d, vs = [a, b, c, d] ∧ ∀ l ts H', Same H H' → H' l = some (.lst ts) → Paired (Ent H' cs (pv4 a b c d)) ts errTab → Q (.ref l) H'
section
variable {P : Program} {w : World} {K : PySem.W.Frag} {mg : Str → Option Value} {base : Heap}
theorem ok_errs {CS : Addr} {cs : Nat → Addr} {f : Addr} {fd : FuncData} (F : Fun K "_law_errors" "_law_errors" sErrs f fd) (X : Errs P w K mg base CS cs) : FnOk P w K mg base CX0 3 f fd ["_law_a", "_law_b", "_law_c", "_law_d"] (spErrors cs) := by
  have E0 := X.e0
  have E1 := X.e1
  have E2 := X.e2
  have E3 := X.e3
  have E4 := X.e4
  have E5 := X.e5
  have E6 := X.e6
  have E7 := X.e7
  have E8 := X.e8
  have E9 := X.e9
  have E10 := X.e10
  have E11 := X.e11
  have E12 := X.e12
  have E13 := X.e13
  have E14 := X.e14
  have E15 := X.e15
  have E16 := X.e16
  have E17 := X.e17
  have E18 := X.e18
  have E19 := X.e19
  have E20 := X.e20
  have E21 := X.e21
  have E22 := X.e22
  have E23 := X.e23
  have E24 := X.e24
  obtain ⟨fI0, fd0, ii0, it0, ok0, hb0⟩ := E0.ini
  obtain ⟨fI1, fd1, ii1, it1, ok1, hb1⟩ := E1.ini
  obtain ⟨fI2, fd2, ii2, it2, ok2, hb2⟩ := E2.ini
  obtain ⟨fI3, fd3, ii3, it3, ok3, hb3⟩ := E3.ini
  obtain ⟨fI4, fd4, ii4, it4, ok4, hb4⟩ := E4.ini
  obtain ⟨fI5, fd5, ii5, it5, ok5, hb5⟩ := E5.ini
  obtain ⟨fI6, fd6, ii6, it6, ok6, hb6⟩ := E6.ini
  obtain ⟨fI7, fd7, ii7, it7, ok7, hb7⟩ := E7.ini
  obtain ⟨fI8, fd8, ii8, it8, ok8, hb8⟩ := E8.ini
  obtain ⟨fI9, fd9, ii9, it9, ok9, hb9⟩ := E9.ini
  obtain ⟨fI10, fd10, ii10, it10, ok10, hb10⟩ := E10.ini
  obtain ⟨fI11, fd11, ii11, it11, ok11, hb11⟩ := E11.ini
  obtain ⟨fI12, fd12, ii12, it12, ok12, hb12⟩ := E12.ini
  obtain ⟨fI13, fd13, ii13, it13, ok13, hb13⟩ := E13.ini
  obtain ⟨fI14, fd14, ii14, it14, ok14, hb14⟩ := E14.ini
  obtain ⟨fI15, fd15, ii15, it15, ok15, hb15⟩ := E15.ini
  obtain ⟨fI16, fd16, ii16, it16, ok16, hb16⟩ := E16.ini
  obtain ⟨fI17, fd17, ii17, it17, ok17, hb17⟩ := E17.ini
  obtain ⟨fI23, fd23, ii23, it23, ok23, hb23⟩ := E23.ini
  obtain ⟨fI24, fd24, ii24, it24, ok24, hb24⟩ := E24.ini
  refine F.ok scErrs (fun vs H Q E h => ?_) (fun cdv A outer s H vs Q E hr h => ?_)
  · obtain ⟨a, b, c, d, rfl, _⟩ := h
    rfl
  · obtain ⟨a, b, c, d, rfl, k⟩ := h
    refine ⟨_, (pss_cons (ps_set (i := 4) scErrs.nd rfl (Or.inl rfl) (pe_lst (pa_cons (pe_tup (pa_cons (NX.pe_oexV E0.O ii0 it0 ok0 (hr.mono (by decide)) hb0 .nil pass0 rfl E0.g (pa_cons (pv 0) pa_nil)) (pa_cons pe_str (pa_cons (pe_disp (pps_cons pe_str (pv 0) pps_nil) rfl rfl (by intro h; cases h) (by decide)) pa_nil)))) (pa_cons (pe_tup (pa_cons (NX.pe_oexV E1.O ii1 it1 ok1 (hr.mono (by decide)) hb1 .nil pass0 rfl E1.g (pa_cons (pv 0) pa_nil)) (pa_cons pe_str (pa_cons (pe_disp (pps_cons pe_str (pv 0) pps_nil) rfl rfl (by intro h; cases h) (by decide)) pa_nil)))) pa_nil))))
      (pss_cons (ps_set (i := 4) scErrs.nd rfl (Or.inl rfl) (pe_op op_cat (pv 4) (pe_lst (pa_cons (pe_tup (pa_cons (NX.pe_oexV E2.O ii2 it2 ok2 (hr.mono (by decide)) hb2 .nil pass0 rfl E2.g (pa_cons (pv 0) pa_nil)) (pa_cons pe_str (pa_cons (pe_disp (pps_cons pe_str (pv 0) pps_nil) rfl rfl (by intro h; cases h) (by decide)) pa_nil)))) (pa_cons (pe_tup (pa_cons (NX.pe_oexV E3.O ii3 it3 ok3 (hr.mono (by decide)) hb3 .nil pass0 rfl E3.g (pa_cons (pv 0) pa_nil)) (pa_cons pe_str (pa_cons (pe_disp (pps_cons pe_str (pv 0) pps_nil) rfl rfl (by intro h; cases h) (by decide)) pa_nil)))) pa_nil)))))
      (pss_cons (ps_set (i := 4) scErrs.nd rfl (Or.inl rfl) (pe_op op_cat (pv 4) (pe_lst (pa_cons (pe_tup (pa_cons (NX.pe_oexV E4.O ii4 it4 ok4 (hr.mono (by decide)) hb4 .nil pass0 rfl E4.g (pa_cons (pv 0) pa_nil)) (pa_cons pe_str (pa_cons (pe_disp (pps_cons pe_str (pv 0) pps_nil) rfl rfl (by intro h; cases h) (by decide)) pa_nil)))) (pa_cons (pe_tup (pa_cons (NX.pe_oexV E5.O ii5 it5 ok5 (hr.mono (by decide)) hb5 .nil pass0 rfl E5.g (pa_cons (pv 0) pa_nil)) (pa_cons pe_str (pa_cons (pe_disp (pps_cons pe_str (pv 0) pps_nil) rfl rfl (by intro h; cases h) (by decide)) pa_nil)))) pa_nil)))))
      (pss_cons (ps_set (i := 4) scErrs.nd rfl (Or.inl rfl) (pe_op op_cat (pv 4) (pe_lst (pa_cons (pe_tup (pa_cons (NX.pe_oexV E6.O ii6 it6 ok6 (hr.mono (by decide)) hb6 .nil pass0 rfl E6.g (pa_cons (pv 0) pa_nil)) (pa_cons pe_str (pa_cons (pe_disp (pps_cons pe_str (pv 0) pps_nil) rfl rfl (by intro h; cases h) (by decide)) pa_nil)))) (pa_cons (pe_tup (pa_cons (NX.pe_oexV E7.O ii7 it7 ok7 (hr.mono (by decide)) hb7 .nil pass0 rfl E7.g (pa_cons (pv 0) pa_nil)) (pa_cons pe_str (pa_cons (pe_disp (pps_cons pe_str (pv 0) pps_nil) rfl rfl (by intro h; cases h) (by decide)) pa_nil)))) pa_nil)))))
      (pss_cons (ps_set (i := 4) scErrs.nd rfl (Or.inl rfl) (pe_op op_cat (pv 4) (pe_lst (pa_cons (pe_tup (pa_cons (NX.pe_oexV E8.O ii8 it8 ok8 (hr.mono (by decide)) hb8 .nil pass0 rfl E8.g (pa_cons (pv 0) pa_nil)) (pa_cons pe_str (pa_cons (pe_disp (pps_cons pe_str (pv 0) pps_nil) rfl rfl (by intro h; cases h) (by decide)) pa_nil)))) (pa_cons (pe_tup (pa_cons (NX.pe_oexV E9.O ii9 it9 ok9 (hr.mono (by decide)) hb9 .nil pass0 rfl E9.g (pa_cons (pv 0) pa_nil)) (pa_cons pe_str (pa_cons (pe_disp (pps_cons pe_str (pv 0) pps_nil) rfl rfl (by intro h; cases h) (by decide)) pa_nil)))) pa_nil)))))
      (pss_cons (ps_set (i := 4) scErrs.nd rfl (Or.inl rfl) (pe_op op_cat (pv 4) (pe_lst (pa_cons (pe_tup (pa_cons (NX.pe_oexV E10.O ii10 it10 ok10 (hr.mono (by decide)) hb10 .nil pass0 rfl E10.g (pa_cons (pv 0) pa_nil)) (pa_cons pe_str (pa_cons (pe_disp (pps_cons pe_str (pv 0) pps_nil) rfl rfl (by intro h; cases h) (by decide)) pa_nil)))) (pa_cons (pe_tup (pa_cons (NX.pe_oexV E11.O ii11 it11 ok11 (hr.mono (by decide)) hb11 .nil pass0 rfl E11.g (pa_cons (pv 0) pa_nil)) (pa_cons pe_str (pa_cons (pe_disp (pps_cons pe_str (pv 0) pps_nil) rfl rfl (by intro h; cases h) (by decide)) pa_nil)))) pa_nil)))))
      (pss_cons (ps_set (i := 4) scErrs.nd rfl (Or.inl rfl) (pe_op op_cat (pv 4) (pe_lst (pa_cons (pe_tup (pa_cons (NX.pe_oexV E12.O ii12 it12 ok12 (hr.mono (by decide)) hb12 .nil pass0 rfl E12.g (pa_cons (pv 0) (pa_cons (pv 1) pa_nil))) (pa_cons pe_str (pa_cons (pe_disp (pps_cons pe_str (pv 0) (pps_cons pe_str (pv 1) pps_nil)) rfl rfl (by intro h; cases h) (by decide)) pa_nil)))) (pa_cons (pe_tup (pa_cons (NX.pe_oexV E14.O ii14 it14 ok14 (hr.mono (by decide)) hb14 .nil pass0 rfl E14.g (pa_cons (pv 0) pa_nil)) (pa_cons pe_str (pa_cons (pe_disp (pps_cons pe_str (pv 0) pps_nil) rfl rfl (by intro h; cases h) (by decide)) pa_nil)))) pa_nil)))))
      (pss_cons (ps_set (i := 4) scErrs.nd rfl (Or.inl rfl) (pe_op op_cat (pv 4) (pe_lst (pa_cons (pe_tup (pa_cons (NX.pe_oexV E13.O ii13 it13 ok13 (hr.mono (by decide)) hb13 .nil pass0 rfl E13.g (pa_cons (pv 0) (pa_cons (pv 1) pa_nil))) (pa_cons pe_str (pa_cons (pe_disp (pps_cons pe_str (pv 0) (pps_cons pe_str (pv 1) pps_nil)) rfl rfl (by intro h; cases h) (by decide)) pa_nil)))) (pa_cons (pe_tup (pa_cons (NX.pe_oexV E15.O ii15 it15 ok15 (hr.mono (by decide)) hb15 .nil pass0 rfl E15.g (pa_cons (pv 0) pa_nil)) (pa_cons pe_str (pa_cons (pe_disp (pps_cons pe_str (pv 0) pps_nil) rfl rfl (by intro h; cases h) (by decide)) pa_nil)))) pa_nil)))))
      (pss_cons (ps_set (i := 4) scErrs.nd rfl (Or.inl rfl) (pe_op op_cat (pv 4) (pe_lst (pa_cons (pe_tup (pa_cons (NX.pe_oexV E16.O ii16 it16 ok16 (hr.mono (by decide)) hb16 .nil pass0 rfl E16.g (pa_cons (pv 0) (pa_cons (pv 1) pa_nil))) (pa_cons pe_str (pa_cons (pe_disp (pps_cons pe_str (pv 0) (pps_cons pe_str (pv 1) pps_nil)) rfl rfl (by intro h; cases h) (by decide)) pa_nil)))) (pa_cons (pe_tup (pa_cons (NX.pe_oexV E24.O ii24 it24 ok24 (hr.mono (by decide)) hb24 .nil pass0 rfl E24.g (pa_cons (pv 0) pa_nil)) (pa_cons pe_str (pa_cons (pe_disp (pps_cons pe_str (pv 0) pps_nil) rfl rfl (by intro h; cases h) (by decide)) pa_nil)))) pa_nil)))))
      (pss_cons (ps_expr (pe_bm PySem.F.plainAttrs_list PySem.F.slot_list_append PySem.F.type_list_append mt_append (pv 4) (pa_cons (pe_tup (pa_cons (NX.pe_oexV E17.O ii17 it17 ok17 (hr.mono (by decide)) hb17 .nil pass0 rfl E17.g (pa_cons (pv 0) (pa_cons (pv 1) (pa_cons (pv 2) (pa_cons (pv 3) pa_nil))))) (pa_cons pe_str (pa_cons (pe_disp (pps_cons pe_str (pv 0) (pps_cons pe_str (pv 1) (pps_cons pe_str (pv 2) (pps_cons pe_str (pv 3) pps_nil)))) rfl rfl (by intro h; cases h) (by decide)) pa_nil)))) pa_nil)))
      (pss_cons (ps_set (i := 4) scErrs.nd rfl (Or.inl rfl) (pe_op op_cat (pv 4) (pe_lst (pa_cons (pe_tup (pa_cons (NX.pe_oexV0 PySem.F.excBase_ValueError E18.q E18.g E18.kp rfl) (pa_cons pe_str (pa_cons pe_dnewK pa_nil)))) (pa_cons (pe_tup (pa_cons (NX.pe_oexV0 PySem.F.excBase_ValueError E19.q E19.g E19.kp rfl) (pa_cons pe_str (pa_cons pe_dnewK pa_nil)))) (pa_cons (pe_tup (pa_cons (NX.pe_oexV0 PySem.F.excBase_ValueError E20.q E20.g E20.kp rfl) (pa_cons pe_str (pa_cons pe_dnewK pa_nil)))) pa_nil))))))
      (pss_cons (ps_set (i := 4) scErrs.nd rfl (Or.inl rfl) (pe_op op_cat (pv 4) (pe_lst (pa_cons (pe_tup (pa_cons (NX.pe_oexV0 PySem.F.excBase_ValueError E21.q E21.g E21.kp rfl) (pa_cons pe_str (pa_cons pe_dnewK pa_nil)))) (pa_cons (pe_tup (pa_cons (NX.pe_oexV0 PySem.F.excBase_ValueError E22.q E22.g E22.kp rfl) (pa_cons pe_str (pa_cons pe_dnewK pa_nil)))) pa_nil)))))
      (pss_one (ps_ret (pe_op op_cat (pv 4) (pe_lst (pa_cons (pe_tup (pa_cons (NX.pe_oexV E23.O ii23 it23 ok23 (hr.mono (by decide)) hb23 .nil pass0 rfl E23.g (pa_cons (pv 0) (pa_cons (pv 1) pa_nil))) (pa_cons pe_str (pa_cons (pe_disp (pps_cons pe_str (pv 0) (pps_cons pe_str (pv 1) pps_nil)) rfl rfl (by intro h; cases h) (by decide)) pa_nil)))) pa_nil))))))))))))))))), ?_⟩
    refine seqSet ?_
    refine lstS (r1 := row0) (r2 := row1) (pv := pv4 a b c d) (by exact ent1 (r := row0) rfl rfl E0.O E0.v rfl) (by exact ent1 (r := row1) rfl rfl E1.O E1.v rfl) fun l1 H1 M1 => ?_
    refine seqSet ?_
    refine catS rfl M1 (by decide) (qs := [row2, row3]) (lst2 (by exact ent1 (r := row2) rfl rfl E2.O E2.v rfl) (by exact ent1 (r := row3) rfl rfl E3.O E3.v rfl)) fun l2 H2 M2 => ?_
    refine seqSet ?_
    refine catS rfl M2 (by decide) (qs := [row4, row5]) (lst2 (by exact ent1 (r := row4) rfl rfl E4.O E4.v rfl) (by exact ent1 (r := row5) rfl rfl E5.O E5.v rfl)) fun l3 H3 M3 => ?_
    refine seqSet ?_
    refine catS rfl M3 (by decide) (qs := [row6, row7]) (lst2 (by exact ent1 (r := row6) rfl rfl E6.O E6.v rfl) (by exact ent1 (r := row7) rfl rfl E7.O E7.v rfl)) fun l4 H4 M4 => ?_
    refine seqSet ?_
    refine catS rfl M4 (by decide) (qs := [row8, row9]) (lst2 (by exact ent1 (r := row8) rfl rfl E8.O E8.v rfl) (by exact ent1 (r := row9) rfl rfl E9.O E9.v rfl)) fun l5 H5 M5 => ?_
    refine seqSet ?_
    refine catS rfl M5 (by decide) (qs := [row10, row11]) (lst2 (by exact ent1 (r := row10) rfl rfl E10.O E10.v rfl) (by exact ent1 (r := row11) rfl rfl E11.O E11.v rfl)) fun l6 H6 M6 => ?_
    refine seqSet ?_
    refine catS rfl M6 (by decide) (qs := [row12, row13]) (lst2 (by exact ent2 (r := row12) rfl rfl E12.O E12.v rfl rfl (fun _ _ => rfl)) (by exact ent1 (r := row13) rfl rfl E14.O E14.v rfl)) fun l7 H7 M7 => ?_
    refine seqSet ?_
    refine catS rfl M7 (by decide) (qs := [row14, row15]) (lst2 (by exact ent2 (r := row14) rfl rfl E13.O E13.v rfl rfl (fun _ _ => rfl)) (by exact ent1 (r := row15) rfl rfl E15.O E15.v rfl)) fun l8 H8 M8 => ?_
    refine seqSet ?_
    refine catS rfl M8 (by decide) (qs := [row16, row17]) (lst2 (by exact ent2 (r := row16) rfl rfl E16.O E16.v rfl rfl (fun _ _ => rfl)) (by exact ent1 (r := row17) rfl rfl E24.O E24.v rfl)) fun l9 H9 M9 => ?_
    refine seqDrop ?_
    refine appS rfl M9 (by decide) (r := row18) (by exact ent4 (r := row18) rfl rfl E17.O E17.v rfl rfl rfl rfl (fun _ _ _ _ => rfl)) fun H10 M10 => ?_
    refine seqSet ?_
    refine catS rfl M10 (by decide) (qs := [row19, row20, row21]) (lst3 (by exact ent0 (r := row19) rfl rfl) (by exact ent0 (r := row20) rfl rfl) (by exact ent0 (r := row21) rfl rfl)) fun l11 H11 M11 => ?_
    refine seqSet ?_
    refine catS rfl M11 (by decide) (qs := [row22, row23]) (lst2 (by exact ent0 (r := row22) rfl rfl) (by exact ent0 (r := row23) rfl rfl)) fun l12 H12 M12 => ?_
    refine seqRet ?_
    refine catS rfl M12 (by decide) (qs := [row24]) (lst1 (by exact ent2 (r := row24) rfl rfl E23.O E23.v rfl rfl (fun _ _ => rfl))) fun l13 H13 M13 => ?_
    obtain ⟨S, _, ts, hl, es⟩ := M13
    exact k _ _ _ S hl es
end
end K01

set_option Elab.async false
set_option linter.all false
set_option maxRecDepth 100000
set_option maxHeartbeats 4000000
namespace K01
open PySem L2 NX NU
abbrev sField : Stmt := top 54
theorem scField : FnScope ["_law_error", "_law_sort"] ["_law_error", "_law_sort"] (defScope sField) := ⟨rfl, rfl, rfl, by decide +kernel, rfl, by decide +kernel, by decide +kernel⟩
def fields : List Str := ["value", "part", "name", "most", "place", "word", "at", "index", "line"]
def spField (K : PySem.W.Frag) : Sp := fun vs H Q _ => ∃ (e C d : Addr) (gs : List (Str × V)) (f : Str) (v : V), vs = [.ref e, .str f] ∧ f ∈ fields ∧ H e = some (exo e C (some d)) ∧ H d = some (exd d gs) ∧ XfC K C ∧ PySem.W.findIn K (.ref C) f = some none ∧ gs.lookup f = some v ∧ ∀ H', Same H H' → Q v H'
theorem inPair {K : PySem.W.Frag} {σ : L2.St} {H : Hp} {f a b : Str} {b0 : Bool} {Q : Bool → Hp → Prop} (h : σ[1]? = some (some (.str f))) (e : L2.inV (V.str f) [V.str a, V.str b] = b0) (k : ∀ H', Same H H' → Q b0 H') :
    tTest (tOp (rIn K false) (tVar 1) (tTup (tCons (tC (.str a)) (tCons (tC (.str b)) tNil)))) σ H Q := by
  refine ⟨_, h, by show 2 ≤ sizeLine; decide, fun p hp => ⟨p, _, rfl, .inr (SqT.of upd_same), rfl, rfl, _, rfl, ?_⟩⟩
  rw [e]
  exact k _ (Same.new hp)
section
variable {P : Program} {w : World} {K : PySem.W.Frag} {mg : Str → Option Value} {base : Heap}
theorem ok_field {f : Addr} {fd : FuncData} (F : Fun K "_law_field" "_law_field" sField f fd) : FnOk P w K mg base CX0 1 f fd ["_law_error", "_law_sort"] (spField K) := by
  refine F.ok scField (fun vs H Q E h => ?_) (fun cdv A outer s H vs Q E hr h => ?_)
  · obtain ⟨e, C, d, gs, f, v, rfl, _⟩ := h
    rfl
  · obtain ⟨e, C, d, gs, f, v, rfl, hf, he, hd, xf, hv, hl, k⟩ := h
    refine ⟨_, (pss_cons (ps_if (pt_cmpR op_in_seq (pv 1) (pe_tup (pa_cons pe_str (pa_cons pe_str pa_nil))) rfl) (pss_one (ps_ret (pe_ifExp (pt_cmpR op_eq (pv 1) pe_str (nomark _)) (NX.pe_erF (pv 0)) (NX.pe_erF (pv 0))))) pss_nil)
      (pss_cons (ps_if (pt_cmpR op_in_seq (pv 1) (pe_tup (pa_cons pe_str (pa_cons pe_str pa_nil))) rfl) (pss_one (ps_ret (pe_ifExp (pt_cmpR op_eq (pv 1) pe_str (nomark _)) (NX.pe_erF (pv 0)) (NX.pe_erF (pv 0))))) pss_nil)
      (pss_cons (ps_if (pt_cmpR op_in_seq (pv 1) (pe_tup (pa_cons pe_str (pa_cons pe_str pa_nil))) rfl) (pss_one (ps_ret (pe_ifExp (pt_cmpR op_eq (pv 1) pe_str (nomark _)) (NX.pe_erF (pv 0)) (NX.pe_erF (pv 0))))) pss_nil)
      (pss_cons (ps_if (pt_cmpR op_in_seq (pv 1) (pe_tup (pa_cons pe_str (pa_cons pe_str pa_nil))) rfl) (pss_one (ps_ret (pe_ifExp (pt_cmpR op_eq (pv 1) pe_str (nomark _)) (NX.pe_erF (pv 0)) (NX.pe_erF (pv 0))))) pss_nil)
      (pss_one (ps_ret (NX.pe_erF (pv 0)))))))), ?_⟩
    unfold fields at hf
    simp only [List.mem_cons, List.not_mem_nil, or_false] at hf
    rcases hf with hf | hf | hf | hf | hf | hf | hf | hf | hf <;> subst hf
    · refine inPair (b0 := true) rfl (by decide +kernel) fun H0 S0 => iteT ?_
      refine ⟨_, rfl, rfl, ?_⟩
      refine ⟨_, rfl, ?_⟩
      rw [decide_eq_true rfl]
      refine iteT ?_
      exact ⟨_, rfl, e, C, d, gs, v, rfl, (S0) _ _ he, (S0) _ _ hd, xf, hv, hl, k _ (S0)⟩
    · refine inPair (b0 := true) rfl (by decide +kernel) fun H0 S0 => iteT ?_
      refine ⟨_, rfl, rfl, ?_⟩
      refine ⟨_, rfl, ?_⟩
      rw [decide_eq_false (fun e => by injection e with e; exact absurd e (by decide))]
      refine iteF ?_
      exact ⟨_, rfl, e, C, d, gs, v, rfl, (S0) _ _ he, (S0) _ _ hd, xf, hv, hl, k _ (S0)⟩
    · refine inPair (b0 := false) rfl (by decide +kernel) fun H0 S0 => iteF ?_
      refine inPair (b0 := true) rfl (by decide +kernel) fun H1 S1 => iteT ?_
      refine ⟨_, rfl, rfl, ?_⟩
      refine ⟨_, rfl, ?_⟩
      rw [decide_eq_true rfl]
      refine iteT ?_
      exact ⟨_, rfl, e, C, d, gs, v, rfl, ((S0).trans S1) _ _ he, ((S0).trans S1) _ _ hd, xf, hv, hl, k _ ((S0).trans S1)⟩
    · refine inPair (b0 := false) rfl (by decide +kernel) fun H0 S0 => iteF ?_
      refine inPair (b0 := true) rfl (by decide +kernel) fun H1 S1 => iteT ?_
      refine ⟨_, rfl, rfl, ?_⟩
      refine ⟨_, rfl, ?_⟩
      rw [decide_eq_false (fun e => by injection e with e; exact absurd e (by decide))]
      refine iteF ?_
      exact ⟨_, rfl, e, C, d, gs, v, rfl, ((S0).trans S1) _ _ he, ((S0).trans S1) _ _ hd, xf, hv, hl, k _ ((S0).trans S1)⟩
    · refine inPair (b0 := false) rfl (by decide +kernel) fun H0 S0 => iteF ?_
      refine inPair (b0 := false) rfl (by decide +kernel) fun H1 S1 => iteF ?_
      refine inPair (b0 := true) rfl (by decide +kernel) fun H2 S2 => iteT ?_
      refine ⟨_, rfl, rfl, ?_⟩
      refine ⟨_, rfl, ?_⟩
      rw [decide_eq_true rfl]
      refine iteT ?_
      exact ⟨_, rfl, e, C, d, gs, v, rfl, (((S0).trans S1).trans S2) _ _ he, (((S0).trans S1).trans S2) _ _ hd, xf, hv, hl, k _ (((S0).trans S1).trans S2)⟩
    · refine inPair (b0 := false) rfl (by decide +kernel) fun H0 S0 => iteF ?_
      refine inPair (b0 := false) rfl (by decide +kernel) fun H1 S1 => iteF ?_
      refine inPair (b0 := true) rfl (by decide +kernel) fun H2 S2 => iteT ?_
      refine ⟨_, rfl, rfl, ?_⟩
      refine ⟨_, rfl, ?_⟩
      rw [decide_eq_false (fun e => by injection e with e; exact absurd e (by decide))]
      refine iteF ?_
      exact ⟨_, rfl, e, C, d, gs, v, rfl, (((S0).trans S1).trans S2) _ _ he, (((S0).trans S1).trans S2) _ _ hd, xf, hv, hl, k _ (((S0).trans S1).trans S2)⟩
    · refine inPair (b0 := false) rfl (by decide +kernel) fun H0 S0 => iteF ?_
      refine inPair (b0 := false) rfl (by decide +kernel) fun H1 S1 => iteF ?_
      refine inPair (b0 := false) rfl (by decide +kernel) fun H2 S2 => iteF ?_
      refine inPair (b0 := true) rfl (by decide +kernel) fun H3 S3 => iteT ?_
      refine ⟨_, rfl, rfl, ?_⟩
      refine ⟨_, rfl, ?_⟩
      rw [decide_eq_true rfl]
      refine iteT ?_
      exact ⟨_, rfl, e, C, d, gs, v, rfl, ((((S0).trans S1).trans S2).trans S3) _ _ he, ((((S0).trans S1).trans S2).trans S3) _ _ hd, xf, hv, hl, k _ ((((S0).trans S1).trans S2).trans S3)⟩
    · refine inPair (b0 := false) rfl (by decide +kernel) fun H0 S0 => iteF ?_
      refine inPair (b0 := false) rfl (by decide +kernel) fun H1 S1 => iteF ?_
      refine inPair (b0 := false) rfl (by decide +kernel) fun H2 S2 => iteF ?_
      refine inPair (b0 := true) rfl (by decide +kernel) fun H3 S3 => iteT ?_
      refine ⟨_, rfl, rfl, ?_⟩
      refine ⟨_, rfl, ?_⟩
      rw [decide_eq_false (fun e => by injection e with e; exact absurd e (by decide))]
      refine iteF ?_
      exact ⟨_, rfl, e, C, d, gs, v, rfl, ((((S0).trans S1).trans S2).trans S3) _ _ he, ((((S0).trans S1).trans S2).trans S3) _ _ hd, xf, hv, hl, k _ ((((S0).trans S1).trans S2).trans S3)⟩
    · refine inPair (b0 := false) rfl (by decide +kernel) fun H0 S0 => iteF ?_
      refine inPair (b0 := false) rfl (by decide +kernel) fun H1 S1 => iteF ?_
      refine inPair (b0 := false) rfl (by decide +kernel) fun H2 S2 => iteF ?_
      refine inPair (b0 := false) rfl (by decide +kernel) fun H3 S3 => iteF ?_
      exact ⟨_, rfl, e, C, d, gs, v, rfl, ((((S0).trans S1).trans S2).trans S3) _ _ he, ((((S0).trans S1).trans S2).trans S3) _ _ hd, xf, hv, hl, k _ ((((S0).trans S1).trans S2).trans S3)⟩
end
end K01

set_option Elab.async false
set_option linter.all false
set_option maxRecDepth 100000
set_option maxHeartbeats 8000000
namespace K01
open PySem L2 NX NU
/-- an entry of the law's kinds: title, is it such -/
def Kd (H : Hp) (t : V) (r : Str × Bool) : Prop := ∃ ta, t = .ref ta ∧ H ta = some (.tup [.str r.1, .bl r.2])
theorem Kd.keep {H H' : Hp} {t : V} {r : Str × Bool} (k : ∀ (b : Addr) (o : HO), H b = some o → (∀ xs, o ≠ .lst xs) → H' b = some o) (h : Kd H t r) : Kd H' t r := by
  obtain ⟨ta, h1, h2⟩ := h
  exact ⟨ta, h1, k _ _ h2 (fun xs e => by cases e)⟩
theorem entsKeepK {H H' : Hp}  (k : ∀ (b : Addr) (o : HO), H b = some o → (∀ xs, o ≠ .lst xs) → H' b = some o) : ∀ {ts : List V} {rs : List (Str × Bool)}, Paired (Kd H) ts rs → Paired (Kd H') ts rs
  | _, _, .nil => .nil
  | _, _, .cons a b => .cons (a.keep k) (entsKeepK k b)
theorem entsAppK {H : Hp}  : ∀ {ts us : List V} {rs qs : List (Str × Bool)}, Paired (Kd H) ts rs → Paired (Kd H) us qs → Paired (Kd H) (ts ++ us) (rs ++ qs)
  | _, _, _, _, .nil, b => b
  | _, _, _, _, .cons a c, b => .cons a (entsAppK c b)

section
variable {K : PySem.W.Frag} {σ : L2.St}
/-- te gives what φ tells, from heaps that go on from H0 -/
structure GvF (H0 : Hp) (te : TE) (σ : L2.St) (φ : Hp → V → Prop) : Prop where
  run : ∀ {H : Hp} {Q : VK}, Same H0 H → (∀ v H', Same H H' → φ H' v → Q v H') → te σ H Q
def LsK (H0 H : Hp) (l : Addr) (rs : List (Str × Bool)) : Prop := Same H0 H ∧ H0 l = none ∧ ∃ ts, H l = some (.lst ts) ∧ Paired (Kd H) ts rs
theorem pairLenK {H : Hp} : ∀ {ts : List V} {rs : List (Str × Bool)}, Paired (Kd H) ts rs → ts.length = rs.length
  | _, _, .nil => rfl
  | _, _, .cons _ b => by rw [List.length_cons, List.length_cons, pairLenK b]
theorem lst2K {H0 : Hp} {t1 t2 : TE} {r1 r2 : Str × Bool} (g1 : GvF H0 t1 σ (fun H t => Kd H t r1)) (g2 : GvF H0 t2 σ (fun H t => Kd H t r2)) : GvF H0 (tLst (tCons t1 (tCons t2 tNil))) σ (fun H v => ∃ l ts, v = .ref l ∧ H l = some (.lst ts) ∧ Paired (Kd H) ts [r1, r2]) := by
  refine ⟨fun {H Q} S0 k => g1.run S0 fun a H1 S1 e1 => g2.run (S0.trans S1) fun b H2 S2 e2 => ⟨by show 2 ≤ sizeLine; decide, fun l hl => ?_⟩⟩
  have S3 := Same.new (o := .lst [a, b]) hl
  exact k _ _ ((S1.trans S2).trans S3) ⟨l, [a, b], rfl, upd_same, .cons (e1.keep (kOf (S2.trans S3))) (.cons (e2.keep (kOf S3)) .nil)⟩
theorem lstSK {H0 : Hp} {t1 t2 : TE} {r1 r2 : Str × Bool} {Q : VK} (g1 : GvF H0 t1 σ (fun H t => Kd H t r1)) (g2 : GvF H0 t2 σ (fun H t => Kd H t r2)) (k : ∀ l H', LsK H0 H' l [r1, r2] → Q (.ref l) H') : tLst (tCons t1 (tCons t2 tNil)) σ H0 Q := by
  refine g1.run (fun _ _ h => h) fun a H1 S1 e1 => g2.run S1 fun b H2 S2 e2 => ⟨by show 2 ≤ sizeLine; decide, fun l hl => ?_⟩
  have S3 := Same.new (o := .lst [a, b]) hl
  exact k l _ ⟨(S1.trans S2).trans S3, sameNone (S1.trans S2) hl, [a, b], upd_same, .cons (e1.keep (kOf (S2.trans S3))) (.cons (e2.keep (kOf S3)) .nil)⟩
theorem catSK {t : TE} {H0 H : Hp} {rs qs : List (Str × Bool)} {l : Addr} {j : Nat} {Q : VK} (hj : σ[j]? = some (some (.ref l))) (h : LsK H0 H l rs) (few : rs.length + qs.length ≤ 100) (g : GvF H0 t σ (fun H v => ∃ l ts, v = .ref l ∧ H l = some (.lst ts) ∧ Paired (Kd H) ts qs))
    (k : ∀ l' H', LsK H0 H' l' (rs ++ qs) → Q (.ref l') H') : tOp rCat (tVar j) t σ H Q := by
  obtain ⟨S, _, ts, hl, es⟩ := h
  refine ⟨_, hj, g.run S fun v H1 S1 ⟨m, us, ev, hm, fs⟩ => ?_⟩
  subst ev
  have n1 := pairLenK es
  have n2 := pairLenK fs
  refine ⟨l, m, ts, us, rfl, rfl, S1 _ _ hl, hm, Nat.le_trans (by omega : _ ≤ 100) (by decide), fun p hp => ?_⟩
  have S2 := Same.new (o := .lst (ts ++ us)) hp
  exact k p _ ⟨(S.trans S1).trans S2, sameNone (S.trans S1) hp, _, upd_same, entsAppK (entsKeepK (kOf (S1.trans S2)) es) (entsKeepK (kOf S2) fs)⟩
theorem appSK {t : TE} {H0 H : Hp} {rs : List (Str × Bool)} {r : Str × Bool} {l : Addr} {j : Nat} {Q : VK} (hj : σ[j]? = some (some (.ref l))) (h : LsK H0 H l rs) (few : rs.length + 1 ≤ 100) (g : GvF H0 t σ (fun H t => Kd H t r))
    (k : ∀ H', LsK H0 H' l (rs ++ [r]) → Q .non H') : tBM K "list" rAppend (tVar j) (tCons t tNil) σ H Q := by
  obtain ⟨S, hn, ts, hl, es⟩ := h
  refine ⟨_, hj, .inl ⟨rfl, ts, SqL.of hl⟩, g.run S fun v H1 S1 e => ?_⟩
  have n1 := pairLenK es
  refine ⟨l, ts, v, rfl, rfl, S1 _ _ hl, Nat.lt_of_le_of_lt (by omega : _ ≤ 100) (by decide), ?_⟩
  have kp : ∀ (b : Addr) (o : HO), H1 b = some o → (∀ xs, o ≠ .lst xs) → (upd H1 l (.lst (ts ++ [v]))) b = some o := fun b o hb no => by
    rw [upd_ne (fun z => by rw [z, S1 _ _ hl] at hb; exact no _ (Option.some.inj hb).symm)]
    exact hb
  exact k _ ⟨samePut (S.trans S1) hn, hn, _, upd_same, entsAppK (entsKeepK kp (entsKeepK (kOf S1) es)) (.cons (e.keep kp) .nil)⟩
def titles : List Str := ["BadName", "BadDeed", "BadMove", "BadNumber", "BadPrice", "BadPlace", "BadPart", "BadSlots", "BadStanding", "BadRule", "Twice", "TooMany", "Unmade", "MadeAgain", "NoRoom", "Crowded", "Barred", "BadPlan", "NoLoop", "HasLoop", "OneLoop", "TwoLoops", "Finished", "BadText", "BadLine"]
def kRows (i : Nat) : List (Str × Bool) := [("BadName", decide (i = 0)), ("BadDeed", decide (i = 1)), ("BadMove", decide (i = 2)), ("BadNumber", decide (i = 3)), ("BadPrice", decide (i = 4)), ("BadPlace", decide (i = 5)), ("BadPart", decide (i = 6)), ("BadSlots", decide (i = 7)), ("BadStanding", decide (i = 8)), ("BadRule", decide (i = 9)), ("Twice", decide (i = 10)), ("TooMany", decide (i = 11)), ("Unmade", decide (i = 12)), ("MadeAgain", decide (i = 13)), ("NoRoom", decide (i = 14)), ("Crowded", decide (i = 15)), ("Barred", decide (i = 16)), ("BadPlan", decide (i = 17)), ("NoLoop", decide (i = 18)), ("HasLoop", decide (i = 19)), ("OneLoop", decide (i = 20)), ("TwoLoops", decide (i = 21)), ("Finished", decide (i = 22)), ("BadText", decide (i = 23)), ("BadLine", decide (i = 24))]
theorem kRows_ok : ∀ i, i < 25 → ((kRows i).filter (·.2)).map (·.1) = [titles[i]!] := by decide +kernel
theorem is_err {K : PySem.W.Frag} {σ : L2.St} {e C : Addr} {D : Addr} {z : Str} {b : Bool} (h : σ[0]? = some (some (.ref e))) (EC : ExcC K C) (hk : PySem.W.kitOne K (.ref C) (.ref D) = some b) {H : Hp} {Q : VK} (hE : NX.IsEr H e C) (k : ∀ v H', Same H H' → Kd H' v (z, b) → Q v H') :
    tTup (tCons (tC (.str z)) (tCons (tCB (NX.rIsEr K) (tCons (tVar 0) (tCons (tC (.ref D)) tNil))) tNil)) σ H Q :=
  ⟨_, h, e, C, _, _, b, rfl, .own D, hE, EC, hk, by show 2 ≤ sizeLine; decide, fun p hp => k _ _ (Same.new hp) ⟨p, rfl, upd_same⟩⟩
theorem pairAt {α β : Type} {F : α → β → Prop} : ∀ {xs : List α} {ys : List β} {n : Nat} {x : α}, Paired F xs ys → xs[n]? = some x → ∃ y, ys[n]? = some y ∧ F x y
  | _, _, _, _, .nil, h => by cases h
  | _, _, 0, _, .cons a _, h => ⟨_, rfl, by injection h with h; exact h ▸ a⟩
  | _, _, n + 1, _, .cons _ b, h => pairAt (n := n) b h
theorem kStep {rs : List (Str × Bool)} {H H' : Hp} {D : Addr} {y a0 a1 a2 a3 : _} {ts : List V} {n : Nat} (few : rs.length ≤ 25) (hD : H D = none) (es : Paired (Kd H) ts rs) (hy : ts[n]? = some y) (sP : Same H H') (dP : H' D = some (.lst (((rs.take n).filter (·.2)).map (fun r => V.str r.1)))) :
    gTup K 2 (gCons (gName 2) (gCons (gName 3) gNil)) y (wipe [a0, a1, a2, a3] [2, 3]) H' fun σ2 H2 => wipe σ2 [2, 3] = wipe [a0, a1, a2, a3] [2, 3] ∧ tB (tVar 3) σ2 H2 fun b H3 => if b = true then tVar 2 σ2 H3 fun y H4 => ∃ acc, H4 D = some (.lst acc) ∧ acc.length < sizeLine ∧
      (fun i H' => Same H H' ∧ H' D = some (.lst (((rs.take i).filter (·.2)).map (fun r => V.str r.1)))) (n + 1) (upd H4 D (.lst (acc ++ [y]))) else (fun i H' => Same H H' ∧ H' D = some (.lst (((rs.take i).filter (·.2)).map (fun r => V.str r.1)))) (n + 1) H3 := by
  obtain ⟨r, hr2, ta, rfl, h2⟩ := pairAt es hy
  have tk : rs.take (n + 1) = rs.take n ++ [r] := by rw [List.take_add_one, hr2]; rfl
  have few2 : ((rs.take n).filter (·.2)).length ≤ 25 := Nat.le_trans (List.length_filter_le _ _) (by rw [List.length_take]; omega)
  refine ⟨ta, _, rfl, SqT.of (sP _ _ h2), rfl, _, _, rfl, _, _, rfl, rfl, rfl, ?_⟩
  refine ⟨_, rfl, r.2, rfl, ite2 (fun hb => ?_) (fun hb => ?_)⟩
  · refine ⟨_, rfl, _, dP, Nat.lt_of_le_of_lt (by rw [List.length_map]; exact few2) (by decide), samePut sP hD, ?_⟩
    rw [upd_same, tk, List.filter_append, List.map_append]
    have e : ([r].filter (·.2)) = [r] := by simp [hb]
    rw [e]
    rfl
  · refine ⟨sP, ?_⟩
    rw [dP, tk, List.filter_append]
    have e : ([r].filter (·.2)) = [] := by simp [hb]
    rw [e, List.append_nil]
theorem isErKeep {H H' : Hp} {e C : Addr} (s : Same H H') (h : NX.IsEr H e C) : NX.IsEr H' e C := by
  rcases h with ⟨d, fs, h1, h2⟩ | h
  · exact .inl ⟨d, fs, s _ _ h1, s _ _ h2⟩
  · exact .inr (s _ _ h)
end
end K01

set_option Elab.async false
set_option linter.all false
set_option maxRecDepth 100000
set_option maxHeartbeats 8000000
namespace K01
open PySem L2 NX NU
abbrev sKinds : Stmt := top 55
theorem scKinds : FnScope ["_law_error", "_law_some_here", "_law_title", "_law_is_one"] ["_law_error"] (defScope sKinds) := ⟨rfl, rfl, rfl, by decide +kernel, rfl, by decide +kernel, by decide +kernel⟩
def spKinds (cs : Nat → Addr) : Sp := fun vs H Q _ => ∃ (e : Addr) (i : Nat), vs = [.ref e] ∧ i < 25 ∧ NX.IsEr H e (cs i) ∧ ∀ l H', Same H H' → H' l = some (.lst [.str (titles[i]!)]) → Q (.ref l) H'
section
variable {P : Program} {w : World} {K : PySem.W.Frag} {mg : Str → Option Value} {base : Heap}
theorem ok_kinds {CS : Addr} {cs : Nat → Addr} {f : Addr} {fd : FuncData} (F : Fun K "_law_kinds" "_law_kinds" sKinds f fd) (T : TxtB mg) (X : Errs P w K mg base CS cs) : FnOk P w K mg base CX0 2 f fd ["_law_error"] (spKinds cs) := by
  have g0 := X.e0.g
  have g1 := X.e1.g
  have g2 := X.e2.g
  have g3 := X.e3.g
  have g4 := X.e4.g
  have g5 := X.e5.g
  have g6 := X.e6.g
  have g7 := X.e7.g
  have g8 := X.e8.g
  have g9 := X.e9.g
  have g10 := X.e10.g
  have g11 := X.e11.g
  have g12 := X.e12.g
  have g13 := X.e13.g
  have g14 := X.e14.g
  have g15 := X.e15.g
  have g16 := X.e16.g
  have g17 := X.e17.g
  have g18 := X.e18.g
  have g19 := X.e19.g
  have g20 := X.e20.g
  have g21 := X.e21.g
  have g22 := X.e22.g
  have g23 := X.e23.g
  have g24 := X.e24.g
  have ec := X.ec
  have kk := X.kk
  refine F.ok scKinds (fun vs H Q E h => ?_) (fun cdv A outer s H vs Q E hr h => ?_)
  · obtain ⟨e, i, rfl, _⟩ := h
    rfl
  · obtain ⟨e, i, rfl, hi, hE, k⟩ := h
    refine ⟨_, (pss_cons (ps_set (i := 1) scKinds.nd rfl (Or.inl rfl) (pe_lst (pa_cons (pe_tup (pa_cons pe_str (pa_cons (pe_callB NX.call_isEr (by rfl) T.bisinstance (by decide +kernel) (pa_cons (pv 0) (pa_cons (C8.pe_gc (v := .ref (cs 0)) rfl ⟨_, g0, rfl⟩) pa_nil))) pa_nil))) (pa_cons (pe_tup (pa_cons pe_str (pa_cons (pe_callB NX.call_isEr (by rfl) T.bisinstance (by decide +kernel) (pa_cons (pv 0) (pa_cons (C8.pe_gc (v := .ref (cs 1)) rfl ⟨_, g1, rfl⟩) pa_nil))) pa_nil))) pa_nil))))
      (pss_cons (ps_set (i := 1) scKinds.nd rfl (Or.inl rfl) (pe_op op_cat (pv 1) (pe_lst (pa_cons (pe_tup (pa_cons pe_str (pa_cons (pe_callB NX.call_isEr (by rfl) T.bisinstance (by decide +kernel) (pa_cons (pv 0) (pa_cons (C8.pe_gc (v := .ref (cs 2)) rfl ⟨_, g2, rfl⟩) pa_nil))) pa_nil))) (pa_cons (pe_tup (pa_cons pe_str (pa_cons (pe_callB NX.call_isEr (by rfl) T.bisinstance (by decide +kernel) (pa_cons (pv 0) (pa_cons (C8.pe_gc (v := .ref (cs 3)) rfl ⟨_, g3, rfl⟩) pa_nil))) pa_nil))) pa_nil)))))
      (pss_cons (ps_set (i := 1) scKinds.nd rfl (Or.inl rfl) (pe_op op_cat (pv 1) (pe_lst (pa_cons (pe_tup (pa_cons pe_str (pa_cons (pe_callB NX.call_isEr (by rfl) T.bisinstance (by decide +kernel) (pa_cons (pv 0) (pa_cons (C8.pe_gc (v := .ref (cs 4)) rfl ⟨_, g4, rfl⟩) pa_nil))) pa_nil))) (pa_cons (pe_tup (pa_cons pe_str (pa_cons (pe_callB NX.call_isEr (by rfl) T.bisinstance (by decide +kernel) (pa_cons (pv 0) (pa_cons (C8.pe_gc (v := .ref (cs 5)) rfl ⟨_, g5, rfl⟩) pa_nil))) pa_nil))) pa_nil)))))
      (pss_cons (ps_set (i := 1) scKinds.nd rfl (Or.inl rfl) (pe_op op_cat (pv 1) (pe_lst (pa_cons (pe_tup (pa_cons pe_str (pa_cons (pe_callB NX.call_isEr (by rfl) T.bisinstance (by decide +kernel) (pa_cons (pv 0) (pa_cons (C8.pe_gc (v := .ref (cs 6)) rfl ⟨_, g6, rfl⟩) pa_nil))) pa_nil))) (pa_cons (pe_tup (pa_cons pe_str (pa_cons (pe_callB NX.call_isEr (by rfl) T.bisinstance (by decide +kernel) (pa_cons (pv 0) (pa_cons (C8.pe_gc (v := .ref (cs 7)) rfl ⟨_, g7, rfl⟩) pa_nil))) pa_nil))) pa_nil)))))
      (pss_cons (ps_set (i := 1) scKinds.nd rfl (Or.inl rfl) (pe_op op_cat (pv 1) (pe_lst (pa_cons (pe_tup (pa_cons pe_str (pa_cons (pe_callB NX.call_isEr (by rfl) T.bisinstance (by decide +kernel) (pa_cons (pv 0) (pa_cons (C8.pe_gc (v := .ref (cs 8)) rfl ⟨_, g8, rfl⟩) pa_nil))) pa_nil))) (pa_cons (pe_tup (pa_cons pe_str (pa_cons (pe_callB NX.call_isEr (by rfl) T.bisinstance (by decide +kernel) (pa_cons (pv 0) (pa_cons (C8.pe_gc (v := .ref (cs 9)) rfl ⟨_, g9, rfl⟩) pa_nil))) pa_nil))) pa_nil)))))
      (pss_cons (ps_set (i := 1) scKinds.nd rfl (Or.inl rfl) (pe_op op_cat (pv 1) (pe_lst (pa_cons (pe_tup (pa_cons pe_str (pa_cons (pe_callB NX.call_isEr (by rfl) T.bisinstance (by decide +kernel) (pa_cons (pv 0) (pa_cons (C8.pe_gc (v := .ref (cs 10)) rfl ⟨_, g10, rfl⟩) pa_nil))) pa_nil))) (pa_cons (pe_tup (pa_cons pe_str (pa_cons (pe_callB NX.call_isEr (by rfl) T.bisinstance (by decide +kernel) (pa_cons (pv 0) (pa_cons (C8.pe_gc (v := .ref (cs 11)) rfl ⟨_, g11, rfl⟩) pa_nil))) pa_nil))) pa_nil)))))
      (pss_cons (ps_set (i := 1) scKinds.nd rfl (Or.inl rfl) (pe_op op_cat (pv 1) (pe_lst (pa_cons (pe_tup (pa_cons pe_str (pa_cons (pe_callB NX.call_isEr (by rfl) T.bisinstance (by decide +kernel) (pa_cons (pv 0) (pa_cons (C8.pe_gc (v := .ref (cs 12)) rfl ⟨_, g12, rfl⟩) pa_nil))) pa_nil))) (pa_cons (pe_tup (pa_cons pe_str (pa_cons (pe_callB NX.call_isEr (by rfl) T.bisinstance (by decide +kernel) (pa_cons (pv 0) (pa_cons (C8.pe_gc (v := .ref (cs 13)) rfl ⟨_, g13, rfl⟩) pa_nil))) pa_nil))) pa_nil)))))
      (pss_cons (ps_set (i := 1) scKinds.nd rfl (Or.inl rfl) (pe_op op_cat (pv 1) (pe_lst (pa_cons (pe_tup (pa_cons pe_str (pa_cons (pe_callB NX.call_isEr (by rfl) T.bisinstance (by decide +kernel) (pa_cons (pv 0) (pa_cons (C8.pe_gc (v := .ref (cs 14)) rfl ⟨_, g14, rfl⟩) pa_nil))) pa_nil))) (pa_cons (pe_tup (pa_cons pe_str (pa_cons (pe_callB NX.call_isEr (by rfl) T.bisinstance (by decide +kernel) (pa_cons (pv 0) (pa_cons (C8.pe_gc (v := .ref (cs 15)) rfl ⟨_, g15, rfl⟩) pa_nil))) pa_nil))) pa_nil)))))
      (pss_cons (ps_set (i := 1) scKinds.nd rfl (Or.inl rfl) (pe_op op_cat (pv 1) (pe_lst (pa_cons (pe_tup (pa_cons pe_str (pa_cons (pe_callB NX.call_isEr (by rfl) T.bisinstance (by decide +kernel) (pa_cons (pv 0) (pa_cons (C8.pe_gc (v := .ref (cs 16)) rfl ⟨_, g16, rfl⟩) pa_nil))) pa_nil))) (pa_cons (pe_tup (pa_cons pe_str (pa_cons (pe_callB NX.call_isEr (by rfl) T.bisinstance (by decide +kernel) (pa_cons (pv 0) (pa_cons (C8.pe_gc (v := .ref (cs 17)) rfl ⟨_, g17, rfl⟩) pa_nil))) pa_nil))) pa_nil)))))
      (pss_cons (ps_set (i := 1) scKinds.nd rfl (Or.inl rfl) (pe_op op_cat (pv 1) (pe_lst (pa_cons (pe_tup (pa_cons pe_str (pa_cons (pe_callB NX.call_isEr (by rfl) T.bisinstance (by decide +kernel) (pa_cons (pv 0) (pa_cons (C8.pe_gc (v := .ref (cs 18)) rfl ⟨_, g18, rfl⟩) pa_nil))) pa_nil))) (pa_cons (pe_tup (pa_cons pe_str (pa_cons (pe_callB NX.call_isEr (by rfl) T.bisinstance (by decide +kernel) (pa_cons (pv 0) (pa_cons (C8.pe_gc (v := .ref (cs 19)) rfl ⟨_, g19, rfl⟩) pa_nil))) pa_nil))) pa_nil)))))
      (pss_cons (ps_set (i := 1) scKinds.nd rfl (Or.inl rfl) (pe_op op_cat (pv 1) (pe_lst (pa_cons (pe_tup (pa_cons pe_str (pa_cons (pe_callB NX.call_isEr (by rfl) T.bisinstance (by decide +kernel) (pa_cons (pv 0) (pa_cons (C8.pe_gc (v := .ref (cs 20)) rfl ⟨_, g20, rfl⟩) pa_nil))) pa_nil))) (pa_cons (pe_tup (pa_cons pe_str (pa_cons (pe_callB NX.call_isEr (by rfl) T.bisinstance (by decide +kernel) (pa_cons (pv 0) (pa_cons (C8.pe_gc (v := .ref (cs 21)) rfl ⟨_, g21, rfl⟩) pa_nil))) pa_nil))) pa_nil)))))
      (pss_cons (ps_set (i := 1) scKinds.nd rfl (Or.inl rfl) (pe_op op_cat (pv 1) (pe_lst (pa_cons (pe_tup (pa_cons pe_str (pa_cons (pe_callB NX.call_isEr (by rfl) T.bisinstance (by decide +kernel) (pa_cons (pv 0) (pa_cons (C8.pe_gc (v := .ref (cs 22)) rfl ⟨_, g22, rfl⟩) pa_nil))) pa_nil))) (pa_cons (pe_tup (pa_cons pe_str (pa_cons (pe_callB NX.call_isEr (by rfl) T.bisinstance (by decide +kernel) (pa_cons (pv 0) (pa_cons (C8.pe_gc (v := .ref (cs 23)) rfl ⟨_, g23, rfl⟩) pa_nil))) pa_nil))) pa_nil)))))
      (pss_cons (ps_expr (pe_bm PySem.F.plainAttrs_list PySem.F.slot_list_append PySem.F.type_list_append mt_append (pv 1) (pa_cons (pe_tup (pa_cons pe_str (pa_cons (pe_callB NX.call_isEr (by rfl) T.bisinstance (by decide +kernel) (pa_cons (pv 0) (pa_cons (C8.pe_gc (v := .ref (cs 24)) rfl ⟨_, g24, rfl⟩) pa_nil))) pa_nil))) pa_nil)))
      (pss_one (ps_ret (pe_lc (own := [("_law_title", 2), ("_law_is_one", 3)]) (g := gTup K 2 (gCons (gName 2) (gCons (gName 3) gNil))) rfl scKinds.nd (pi_list (pv 1)) (blkOk_by (own := [("_law_title", 2), ("_law_is_one", 3)]) (N := ["_law_error", "_law_some_here", "_law_title", "_law_is_one"]) (sc := defScope sKinds) (by decide +kernel)) (fun _ _ _ _ _ => (pg_tup rfl (pgs_cons (pg_name (i := 2) scKinds.nd rfl (Or.inl rfl)) (pgs_cons (pg_name (i := 3) scKinds.nd rfl (Or.inl rfl)) pgs_nil)))) (fun _ _ _ _ _ => pts_one (pt_val (pv 3))) (fun _ _ _ _ _ => pv 2))))))))))))))))), ?_⟩
    refine seqSet ?_
    refine lstSK (r1 := ("BadName", decide (i = 0))) (r2 := ("BadDeed", decide (i = 1))) (by exact ⟨fun {H2 Q2} S2 k2 => is_err (σ := _) rfl (ec i hi) (kk i hi 0 (by decide)) (isErKeep S2 hE) k2⟩) (by exact ⟨fun {H2 Q2} S2 k2 => is_err (σ := _) rfl (ec i hi) (kk i hi 1 (by decide)) (isErKeep S2 hE) k2⟩) fun l1 H1 M1 => ?_
    refine seqSet ?_
    refine catSK rfl M1 (by show 4 ≤ 100; decide) (qs := [("BadMove", decide (i = 2)), ("BadNumber", decide (i = 3))]) (lst2K (by exact ⟨fun {H2 Q2} S2 k2 => is_err (σ := _) rfl (ec i hi) (kk i hi 2 (by decide)) (isErKeep S2 hE) k2⟩) (by exact ⟨fun {H2 Q2} S2 k2 => is_err (σ := _) rfl (ec i hi) (kk i hi 3 (by decide)) (isErKeep S2 hE) k2⟩)) fun l2 H2 M2 => ?_
    refine seqSet ?_
    refine catSK rfl M2 (by show 6 ≤ 100; decide) (qs := [("BadPrice", decide (i = 4)), ("BadPlace", decide (i = 5))]) (lst2K (by exact ⟨fun {H2 Q2} S2 k2 => is_err (σ := _) rfl (ec i hi) (kk i hi 4 (by decide)) (isErKeep S2 hE) k2⟩) (by exact ⟨fun {H2 Q2} S2 k2 => is_err (σ := _) rfl (ec i hi) (kk i hi 5 (by decide)) (isErKeep S2 hE) k2⟩)) fun l3 H3 M3 => ?_
    refine seqSet ?_
    refine catSK rfl M3 (by show 8 ≤ 100; decide) (qs := [("BadPart", decide (i = 6)), ("BadSlots", decide (i = 7))]) (lst2K (by exact ⟨fun {H2 Q2} S2 k2 => is_err (σ := _) rfl (ec i hi) (kk i hi 6 (by decide)) (isErKeep S2 hE) k2⟩) (by exact ⟨fun {H2 Q2} S2 k2 => is_err (σ := _) rfl (ec i hi) (kk i hi 7 (by decide)) (isErKeep S2 hE) k2⟩)) fun l4 H4 M4 => ?_
    refine seqSet ?_
    refine catSK rfl M4 (by show 10 ≤ 100; decide) (qs := [("BadStanding", decide (i = 8)), ("BadRule", decide (i = 9))]) (lst2K (by exact ⟨fun {H2 Q2} S2 k2 => is_err (σ := _) rfl (ec i hi) (kk i hi 8 (by decide)) (isErKeep S2 hE) k2⟩) (by exact ⟨fun {H2 Q2} S2 k2 => is_err (σ := _) rfl (ec i hi) (kk i hi 9 (by decide)) (isErKeep S2 hE) k2⟩)) fun l5 H5 M5 => ?_
    refine seqSet ?_
    refine catSK rfl M5 (by show 12 ≤ 100; decide) (qs := [("Twice", decide (i = 10)), ("TooMany", decide (i = 11))]) (lst2K (by exact ⟨fun {H2 Q2} S2 k2 => is_err (σ := _) rfl (ec i hi) (kk i hi 10 (by decide)) (isErKeep S2 hE) k2⟩) (by exact ⟨fun {H2 Q2} S2 k2 => is_err (σ := _) rfl (ec i hi) (kk i hi 11 (by decide)) (isErKeep S2 hE) k2⟩)) fun l6 H6 M6 => ?_
    refine seqSet ?_
    refine catSK rfl M6 (by show 14 ≤ 100; decide) (qs := [("Unmade", decide (i = 12)), ("MadeAgain", decide (i = 13))]) (lst2K (by exact ⟨fun {H2 Q2} S2 k2 => is_err (σ := _) rfl (ec i hi) (kk i hi 12 (by decide)) (isErKeep S2 hE) k2⟩) (by exact ⟨fun {H2 Q2} S2 k2 => is_err (σ := _) rfl (ec i hi) (kk i hi 13 (by decide)) (isErKeep S2 hE) k2⟩)) fun l7 H7 M7 => ?_
    refine seqSet ?_
    refine catSK rfl M7 (by show 16 ≤ 100; decide) (qs := [("NoRoom", decide (i = 14)), ("Crowded", decide (i = 15))]) (lst2K (by exact ⟨fun {H2 Q2} S2 k2 => is_err (σ := _) rfl (ec i hi) (kk i hi 14 (by decide)) (isErKeep S2 hE) k2⟩) (by exact ⟨fun {H2 Q2} S2 k2 => is_err (σ := _) rfl (ec i hi) (kk i hi 15 (by decide)) (isErKeep S2 hE) k2⟩)) fun l8 H8 M8 => ?_
    refine seqSet ?_
    refine catSK rfl M8 (by show 18 ≤ 100; decide) (qs := [("Barred", decide (i = 16)), ("BadPlan", decide (i = 17))]) (lst2K (by exact ⟨fun {H2 Q2} S2 k2 => is_err (σ := _) rfl (ec i hi) (kk i hi 16 (by decide)) (isErKeep S2 hE) k2⟩) (by exact ⟨fun {H2 Q2} S2 k2 => is_err (σ := _) rfl (ec i hi) (kk i hi 17 (by decide)) (isErKeep S2 hE) k2⟩)) fun l9 H9 M9 => ?_
    refine seqSet ?_
    refine catSK rfl M9 (by show 20 ≤ 100; decide) (qs := [("NoLoop", decide (i = 18)), ("HasLoop", decide (i = 19))]) (lst2K (by exact ⟨fun {H2 Q2} S2 k2 => is_err (σ := _) rfl (ec i hi) (kk i hi 18 (by decide)) (isErKeep S2 hE) k2⟩) (by exact ⟨fun {H2 Q2} S2 k2 => is_err (σ := _) rfl (ec i hi) (kk i hi 19 (by decide)) (isErKeep S2 hE) k2⟩)) fun l10 H10 M10 => ?_
    refine seqSet ?_
    refine catSK rfl M10 (by show 22 ≤ 100; decide) (qs := [("OneLoop", decide (i = 20)), ("TwoLoops", decide (i = 21))]) (lst2K (by exact ⟨fun {H2 Q2} S2 k2 => is_err (σ := _) rfl (ec i hi) (kk i hi 20 (by decide)) (isErKeep S2 hE) k2⟩) (by exact ⟨fun {H2 Q2} S2 k2 => is_err (σ := _) rfl (ec i hi) (kk i hi 21 (by decide)) (isErKeep S2 hE) k2⟩)) fun l11 H11 M11 => ?_
    refine seqSet ?_
    refine catSK rfl M11 (by show 24 ≤ 100; decide) (qs := [("Finished", decide (i = 22)), ("BadText", decide (i = 23))]) (lst2K (by exact ⟨fun {H2 Q2} S2 k2 => is_err (σ := _) rfl (ec i hi) (kk i hi 22 (by decide)) (isErKeep S2 hE) k2⟩) (by exact ⟨fun {H2 Q2} S2 k2 => is_err (σ := _) rfl (ec i hi) (kk i hi 23 (by decide)) (isErKeep S2 hE) k2⟩)) fun l12 H12 M12 => ?_
    refine seqDrop ?_
    refine appSK rfl M12 (by show 25 ≤ 100; decide) (r := ("BadLine", decide (i = 24))) (by exact ⟨fun {H2 Q2} S2 k2 => is_err (σ := _) rfl (ec i hi) (kk i hi 24 (by decide)) (isErKeep S2 hE) k2⟩) fun H13 M13 => ?_
    have eR : LsK H H13 l12 (kRows i) := M13
    clear M1 M2 M3 M4 M5 M6 M7 M8 M9 M10 M11 M12 M13
    have f1 := kRows_ok i hi
    have lenR : (kRows i).length = 25 := rfl
    generalize kRows i = rs at *
    obtain ⟨S, hn, ts, hl, es⟩ := eR
    refine seqRet ?_
    refine ⟨_, rfl, l12, rfl, ⟨ts, SqL.of hl⟩, fun D hD => ?_⟩
    have hD0 : H D = none := sameNone S hD
    have lenT := pairLenK es
    refine lc_list (xs := ts) (fun n H' => Same H13 H' ∧ H' D = some (.lst (((rs.take n).filter (·.2)).map (fun r => V.str r.1)))) ⟨Same.new hD, upd_same⟩ (fun n H' _ z => sqL_same z.1 (SqL.of hl)) ?_ ?_
    · exact fun n y H' hy ⟨sP, dP⟩ => kStep (Nat.le_of_eq lenR) hD es hy sP dP
    · rintro H' ⟨sP, dP⟩
      have eT : rs.take ts.length = rs := by rw [lenT]; exact List.take_length
      rw [eT] at dP
      have e2 : (rs.filter (·.2)).map (fun r => V.str r.1) = [V.str (titles[i]!)] := by
        have z := congrArg (List.map V.str) f1
        rw [List.map_map] at z
        exact z
      rw [e2] at dP
      exact k D H' (S.trans sP) dP
end
end K01

set_option Elab.async false
set_option linter.all false
set_option maxRecDepth 100000
set_option maxHeartbeats 4000000
namespace K01
open PySem L2 NX NU
theorem okN_log {n : Int} (h : okN n) : n.natAbs.log2 < 1920 := by
  by_cases z : n.natAbs = 0
  · rw [z]; decide +kernel
  · have b : n.natAbs < 2 ^ 30 := by obtain ⟨h1, h2⟩ := h; omega
    exact Nat.lt_of_lt_of_le ((Nat.log2_lt z).mpr b) (by decide)
theorem shN {n : Int} (h : okN n) : (PyData.int n).shown.length ≤ 1921 := PyProof.Rows.int_text_len_1921 (okN_log h)
theorem showN {n : Int} (h : okN n) : (PyData.int n).showable = true := by
  show decide _ = true
  exact decide_eq_true (okN_log h)
theorem Ow.smD {K : PySem.W.Frag} {H : Hp} {v : V} (h : Ow H v) : ∃ d, SmD K H v d := by
  have tl := NX.tupleText_le
  cases h with
  | @int n h => exact ⟨.int n, .int n, showN h, by show 0 ≤ 3; decide, Nat.le_trans (shN h) (by decide), fun i e => by injection e with e; subst e; exact okN_log h⟩
  | i9 => exact ⟨.int (10 ^ 59), .int _, by decide +kernel, by decide, by decide +kernel, fun i e => by injection e with e; subst e; decide +kernel⟩
  | loop => exact ⟨.str "loop", .str _, by decide +kernel, by decide, by decide +kernel, fun i e => by cases e⟩
  | emp => exact ⟨.str "", .str _, by decide +kernel, by decide, by decide +kernel, fun i e => by cases e⟩
  | @tup a n h ha =>
    refine ⟨.tuple [.int n, .str "x"], .tup (SqT.of ha) (.cons (.int n) (.cons (.str _) .nil)), ?_, by show 1 ≤ 3; decide, ?_, fun i e => by cases e⟩
    · have e : (PyData.tuple [.int n, .str "x"]).showable = ((PyData.int n).showable && ((PyData.str "x").showable && true)) := rfl
      rw [e, showN h]
      rfl
    · have l := tl [(PyData.int n).shown, (PyData.str "x").shown]
      have a1 := shN h
      have a2 : (PyData.str "x").shown.length = 3 := by decide +kernel
      simp only [List.map_cons, List.map_nil, List.sum_cons, List.sum_nil, List.length_cons, List.length_nil] at l
      exact Nat.le_trans l (by omega)
  | @lst a n h ha =>
    refine ⟨.list [.int n], .lst (SqL.of ha) (.cons (.int n) .nil), ?_, by show 1 ≤ 3; decide, ?_, fun i e => by cases e⟩
    · have e : (PyData.list [.int n]).showable = ((PyData.int n).showable && true) := rfl
      rw [e, showN h]
      rfl
    · have l := PySem.listText_len_le [(PyData.int n).shown]
      have a1 := shN h
      simp only [List.map_cons, List.map_nil, List.sum_cons, List.sum_nil, List.length_cons, List.length_nil] at l
      exact Nat.le_trans l (by omega)
  | @dct a n h ha =>
    refine ⟨.dict [(.str "a", .int n)], .dct ha (.cons (.int n) .nil), ?_, by show 1 ≤ 3; decide, ?_, fun i e => by cases e⟩
    · have e : (PyData.dict [(.str "a", .int n)]).showable = ((PyData.str "a").showable && ((PyData.int n).showable && true)) := rfl
      rw [e, showN h]
      rfl
    · have e : (PyData.dict [(.str "a", .int n)]).shown = Str.ofString "{" ++ ((PyData.str "a").shown ++ Str.ofString ": " ++ (PyData.int n).shown) ++ Str.ofString "}" := rfl
      rw [e]
      repeat rw [Str.length_append]
      have a0 := shN h
      have a1 : (Str.ofString "{").length = 1 := by decide +kernel
      have a2 : (Str.ofString "}").length = 1 := by decide +kernel
      have a3 : (Str.ofString ": ").length = 2 := by decide +kernel
      have a4 : (PyData.str "a").shown.length = 3 := by decide +kernel
      omega
  | non => exact ⟨.none, .non, by decide +kernel, by decide, by decide +kernel, fun i e => by cases e⟩
  | bl b => exact ⟨.bool b, .bl b, by cases b <;> decide +kernel, by cases b <;> decide, by cases b <;> decide +kernel, fun i e => by cases e⟩
  | t0 ha => exact ⟨.tuple [], .tup (SqT.of ha) .nil, by decide +kernel, by decide, by decide +kernel, fun i e => by cases e⟩
/-- short data in a list of a few -/
theorem smList {K : PySem.W.Frag} {H : Hp} {vs : List V} {ds : List PyData} {a : Addr} {Q : VK} (h : Paired (SmD K H) vs ds) (few : vs.length ≤ 4) (ha : H a = some (.lst vs)) (q : Q (.str (PyData.list ds).shown) H) : rReprD K [.ref a] H Q := by
  have all : ∀ {vs : List V} {ds : List PyData}, Paired (SmD K H) vs ds → DrAll K H vs ds ∧ PyData.showableAll ds = true ∧ PyData.depthAll ds ≤ 3 ∧ ((PyData.shownAll ds).map (·.length)).sum ≤ 100000 * vs.length ∧ (PyData.shownAll ds).length = vs.length := by
    intro vs ds h
    induction h with
    | nil => exact ⟨.nil, rfl, by decide, by decide, rfl⟩
    | @cons v d vs ds h t ih =>
      obtain ⟨i1, i2, i3, i4, i5⟩ := ih
      obtain ⟨h1, h2, h3, h4, _⟩ := h
      refine ⟨.cons h1 i1, ?_, ?_, ?_, ?_⟩
      · show (d.showable && PyData.showableAll ds) = true
        rw [h2, i2]
        rfl
      · show max d.depth (PyData.depthAll ds) ≤ 3
        exact Nat.max_le.mpr ⟨h3, i3⟩
      · have e : PyData.shownAll (d :: ds) = d.shown :: PyData.shownAll ds := rfl
        rw [e]
        simp only [List.map_cons, List.sum_cons, List.length_cons]
        omega
      · have e : PyData.shownAll (d :: ds) = d.shown :: PyData.shownAll ds := rfl
        rw [e, List.length_cons, List.length_cons, i5]
  obtain ⟨i1, i2, i3, i4, i5⟩ := all h
  refine ⟨.ref a, .list ds, rfl, .lst (SqL.of ha) i1, i2, ?_, ?_, fun i e => (by cases e), q⟩
  · show PyData.depthAll ds + 1 ≤ 50
    omega
  · have l := PySem.listText_len_le (PyData.shownAll ds)
    rw [i5] at l
    exact Nat.le_trans l (Nat.le_trans (by omega : _ ≤ 500000) (by decide))
/-- of what the law puts into an entry -/
theorem dcts {K : PySem.W.Frag} {H : Hp} : ∀ {vs : List V}, (∀ v ∈ vs, ∃ d, SmD K H v d) → ∃ ds, Paired (SmD K H) vs ds
  | [], _ => ⟨[], .nil⟩
  | v :: vs, h => by
    obtain ⟨d, hd⟩ := h v List.mem_cons_self
    obtain ⟨ds, hs⟩ := dcts (vs := vs) fun x hx => h x (List.mem_cons_of_mem _ hx)
    exact ⟨d :: ds, .cons hd hs⟩
theorem smSame {K : PySem.W.Frag} {H H' : Hp} (s : Same H H') : ∀ {vs : List V} {ds : List PyData}, Paired (SmD K H) vs ds → Paired (SmD K H') vs ds
  | _, _, .nil => .nil
  | _, _, .cons a b => .cons (a.same s) (smSame s b)
section
variable {K : PySem.W.Frag} {kvs : List (Str × V)} {H : Hp} {dd : Addr}
def kd (kvs : List (Str × V)) : List (Key × V) := kvs.map fun q => (.inr q.1, q.2)
/-- [.. for k in d]: te gives at k the value that kvs tells of it -/
theorem lcKeys {te : TE} {a0 a1 a2 a4 : Option V} {Q : VK} (few : kvs.length ≤ 4) (hd : H dd = some (.dK (kd kvs)))
    (step : ∀ (od : Obj) (H' : Hp) (q : Str × V) (R : VK), q ∈ kvs → Same (upd H dd (.frz od (.dK (kd kvs)))) H' → (∀ H'', Same H' H'' → R q.2 H'') → te [a0, a1, a2, some (.ref dd), some (.str q.1)] H' R)
    (k : ∀ D H', Same H H' → H D = none → H' D = some (.lst (kvs.map (·.2))) → Q (.ref D) H') : tLockE (tLc (iKeys (tVar 3)) (gName 4) tYes te [4]) [a0, a1, a2, some (.ref dd), a4] H Q := by
  refine ⟨dd, _, hd, trivial, fun od => ?_⟩
  refine ⟨_, rfl, dd, od, rfl, .inl ⟨kd kvs, upd_same, fun D hD => ?_⟩⟩
  have nD : D ≠ dd := fun e => by rw [e, upd_same] at hD; cases hD
  have hD0 : H D = none := by rw [upd_ne nD] at hD; exact hD
  have lenK : (kd kvs).length = kvs.length := by unfold kd; rw [List.length_map]
  refine lc_it walk_keys (fun i H' => Same (upd H dd (.frz od (.dK (kd kvs)))) H' ∧ H' D = some (.lst ((kvs.take i).map (·.2)))) ⟨Same.new hD, upd_same⟩ (fun i H' _ z => z.1 _ _ upd_same) ?_ ?_
  · rintro i x H' H'' hi ⟨sP, dP⟩ ⟨rfl, ky, v, hk, rfl⟩
    unfold kd at hk
    rw [List.getElem?_map] at hk
    obtain ⟨q, hq, e⟩ := Option.map_eq_some_iff.mp hk
    cases e
    refine ⟨rfl, ?_⟩
    unfold tYes
    dsimp only
    rw [if_pos rfl]
    refine step od _ q _ (List.mem_of_getElem? hq) sP fun H3 S3 => ?_
    refine ⟨_, S3 _ _ dP, by rw [List.length_map, List.length_take]; exact Nat.lt_of_le_of_lt (by omega : _ ≤ 4) (by decide), samePut (sP.trans S3) hD, ?_⟩
    rw [upd_same, List.take_add_one, hq, List.map_append]
    rfl
  · rintro H' ⟨sP, dP⟩
    rw [lenK, List.take_length] at dP
    refine ⟨sP _ _ upd_same, ?_⟩
    refine k D _ (fun b o hb => ?_) hD0 ?_
    · by_cases e : b = dd
      · rw [e, upd_same, ← hd, ← e]; exact hb.symm ▸ rfl
      · rw [upd_ne e]
        exact sP _ _ (by rw [upd_ne e]; exact hb)
    · rw [upd_ne nD]
      exact dP
end
end K01

set_option Elab.async false
set_option linter.all false
set_option maxRecDepth 100000
set_option maxHeartbeats 8000000
namespace K01
open PySem L2 NX NU LamX
theorem tab_ok : errTab.all (fun r => decide (r.1 < 25) && decide (titles[r.1]! = r.2.1) && SeqAt.shaped (.list [.str r.2.1]) && (PyData.list [.str r.2.1]).eqv (.list [.str r.2.1]) && decide (r.2.2.length ≤ 4) && r.2.2.all (fun q => decide (q.1 ∈ fields))) = true := by decide +kernel
theorem tab_at {r : Row} (h : r ∈ errTab) : r.1 < 25 ∧ titles[r.1]! = r.2.1 ∧ SeqAt.shaped (.list [.str r.2.1]) = true ∧ (PyData.list [.str r.2.1]).eqv (.list [.str r.2.1]) = true ∧ r.2.2.length ≤ 4 ∧ ∀ q ∈ r.2.2, q.1 ∈ fields := by
  have z := List.all_eq_true.mp tab_ok r h
  simp only [Bool.and_eq_true, decide_eq_true_eq, List.all_eq_true] at z
  obtain ⟨⟨⟨⟨⟨z1, z2⟩, z3⟩, z4⟩, z5⟩, z6⟩ := z
  exact ⟨z1, z2, z3, z4, z5, fun q hq => z6 q hq⟩
theorem tab_mem {r : Row} (h : r ∈ errTab) : r = row0 ∨ r = row1 ∨ r = row2 ∨ r = row3 ∨ r = row4 ∨ r = row5 ∨ r = row6 ∨ r = row7 ∨ r = row8 ∨ r = row9 ∨ r = row10 ∨ r = row11 ∨ r = row12 ∨ r = row13 ∨ r = row14 ∨ r = row15 ∨ r = row16 ∨ r = row17 ∨ r = row18 ∨ r = row19 ∨ r = row20 ∨ r = row21 ∨ r = row22 ∨ r = row23 ∨ r = row24 := by
  unfold errTab at h
  simpa only [List.mem_cons, List.not_mem_nil, or_false] using h
theorem tab_val {pv : Nat → V} {r : Row} (h : r ∈ errTab) : ∀ q ∈ rowV pv r, valV (kd (rowV pv r)) (.inr q.1) = some q.2 := by
  rcases tab_mem h with rfl | rfl | rfl | rfl | rfl | rfl | rfl | rfl | rfl | rfl | rfl | rfl | rfl | rfl | rfl | rfl | rfl | rfl | rfl | rfl | rfl | rfl | rfl | rfl | rfl
  · intro q hq
    obtain rfl : q = _ := List.mem_singleton.mp hq
    rfl
  · intro q hq
    obtain rfl : q = _ := List.mem_singleton.mp hq
    rfl
  · intro q hq
    obtain rfl : q = _ := List.mem_singleton.mp hq
    rfl
  · intro q hq
    obtain rfl : q = _ := List.mem_singleton.mp hq
    rfl
  · intro q hq
    obtain rfl : q = _ := List.mem_singleton.mp hq
    rfl
  · intro q hq
    obtain rfl : q = _ := List.mem_singleton.mp hq
    rfl
  · intro q hq
    obtain rfl : q = _ := List.mem_singleton.mp hq
    rfl
  · intro q hq
    obtain rfl : q = _ := List.mem_singleton.mp hq
    rfl
  · intro q hq
    obtain rfl : q = _ := List.mem_singleton.mp hq
    rfl
  · intro q hq
    obtain rfl : q = _ := List.mem_singleton.mp hq
    rfl
  · intro q hq
    obtain rfl : q = _ := List.mem_singleton.mp hq
    rfl
  · intro q hq
    obtain rfl : q = _ := List.mem_singleton.mp hq
    rfl
  · intro q hq
    rcases List.mem_cons.mp hq with rfl | hq
    · rfl
    obtain rfl : q = _ := List.mem_singleton.mp hq
    rfl
  · intro q hq
    obtain rfl : q = _ := List.mem_singleton.mp hq
    rfl
  · intro q hq
    rcases List.mem_cons.mp hq with rfl | hq
    · rfl
    obtain rfl : q = _ := List.mem_singleton.mp hq
    rfl
  · intro q hq
    obtain rfl : q = _ := List.mem_singleton.mp hq
    rfl
  · intro q hq
    rcases List.mem_cons.mp hq with rfl | hq
    · rfl
    obtain rfl : q = _ := List.mem_singleton.mp hq
    rfl
  · intro q hq
    obtain rfl : q = _ := List.mem_singleton.mp hq
    rfl
  · intro q hq
    rcases List.mem_cons.mp hq with rfl | hq
    · rfl
    rcases List.mem_cons.mp hq with rfl | hq
    · rfl
    rcases List.mem_cons.mp hq with rfl | hq
    · rfl
    obtain rfl : q = _ := List.mem_singleton.mp hq
    rfl
  · intro q hq
    cases hq
  · intro q hq
    cases hq
  · intro q hq
    cases hq
  · intro q hq
    cases hq
  · intro q hq
    cases hq
  · intro q hq
    rcases List.mem_cons.mp hq with rfl | hq
    · rfl
    obtain rfl : q = _ := List.mem_singleton.mp hq
    rfl
section
variable {P : Program} {w : World} {K : PySem.W.Frag} {mg : Str → Option Value} {base : Heap}
theorem tab_xf {CS : Addr} {cs : Nat → Addr} (X : Errs P w K mg base CS cs) {r : Row} (h : r ∈ errTab) (ne : r.2.2 ≠ []) : XfC K (cs r.1) ∧ ∀ q ∈ r.2.2, PySem.W.findIn K (.ref (cs r.1)) q.1 = some none := by
  rcases tab_mem h with rfl | rfl | rfl | rfl | rfl | rfl | rfl | rfl | rfl | rfl | rfl | rfl | rfl | rfl | rfl | rfl | rfl | rfl | rfl | rfl | rfl | rfl | rfl | rfl | rfl
  · refine ⟨X.e0.xf, fun q hq => X.e0.v _ ?_⟩
    exact List.mem_map_of_mem (f := fun q : Str × Nat => q.1) hq
  · refine ⟨X.e1.xf, fun q hq => X.e1.v _ ?_⟩
    exact List.mem_map_of_mem (f := fun q : Str × Nat => q.1) hq
  · refine ⟨X.e2.xf, fun q hq => X.e2.v _ ?_⟩
    exact List.mem_map_of_mem (f := fun q : Str × Nat => q.1) hq
  · refine ⟨X.e3.xf, fun q hq => X.e3.v _ ?_⟩
    exact List.mem_map_of_mem (f := fun q : Str × Nat => q.1) hq
  · refine ⟨X.e4.xf, fun q hq => X.e4.v _ ?_⟩
    exact List.mem_map_of_mem (f := fun q : Str × Nat => q.1) hq
  · refine ⟨X.e5.xf, fun q hq => X.e5.v _ ?_⟩
    exact List.mem_map_of_mem (f := fun q : Str × Nat => q.1) hq
  · refine ⟨X.e6.xf, fun q hq => X.e6.v _ ?_⟩
    exact List.mem_map_of_mem (f := fun q : Str × Nat => q.1) hq
  · refine ⟨X.e7.xf, fun q hq => X.e7.v _ ?_⟩
    exact List.mem_map_of_mem (f := fun q : Str × Nat => q.1) hq
  · refine ⟨X.e8.xf, fun q hq => X.e8.v _ ?_⟩
    exact List.mem_map_of_mem (f := fun q : Str × Nat => q.1) hq
  · refine ⟨X.e9.xf, fun q hq => X.e9.v _ ?_⟩
    exact List.mem_map_of_mem (f := fun q : Str × Nat => q.1) hq
  · refine ⟨X.e10.xf, fun q hq => X.e10.v _ ?_⟩
    exact List.mem_map_of_mem (f := fun q : Str × Nat => q.1) hq
  · refine ⟨X.e11.xf, fun q hq => X.e11.v _ ?_⟩
    exact List.mem_map_of_mem (f := fun q : Str × Nat => q.1) hq
  · refine ⟨X.e12.xf, fun q hq => X.e12.v _ ?_⟩
    exact List.mem_map_of_mem (f := fun q : Str × Nat => q.1) hq
  · refine ⟨X.e14.xf, fun q hq => X.e14.v _ ?_⟩
    exact List.mem_map_of_mem (f := fun q : Str × Nat => q.1) hq
  · refine ⟨X.e13.xf, fun q hq => X.e13.v _ ?_⟩
    exact List.mem_map_of_mem (f := fun q : Str × Nat => q.1) hq
  · refine ⟨X.e15.xf, fun q hq => X.e15.v _ ?_⟩
    exact List.mem_map_of_mem (f := fun q : Str × Nat => q.1) hq
  · refine ⟨X.e16.xf, fun q hq => X.e16.v _ ?_⟩
    exact List.mem_map_of_mem (f := fun q : Str × Nat => q.1) hq
  · refine ⟨X.e24.xf, fun q hq => X.e24.v _ ?_⟩
    exact List.mem_map_of_mem (f := fun q : Str × Nat => q.1) hq
  · refine ⟨X.e17.xf, fun q hq => X.e17.v _ ?_⟩
    exact List.mem_map_of_mem (f := fun q : Str × Nat => q.1) hq
  · exact absurd rfl ne
  · exact absurd rfl ne
  · exact absurd rfl ne
  · exact absurd rfl ne
  · exact absurd rfl ne
  · refine ⟨X.e23.xf, fun q hq => X.e23.v _ ?_⟩
    exact List.mem_map_of_mem (f := fun q : Str × Nat => q.1) hq
theorem ErrAt.isEr {H : Hp} {e C : Addr} {kvs : List (Str × V)} (h : ErrAt H e C kvs) : NX.IsEr H e C := by
  rcases h with ⟨_, h⟩ | ⟨d, gs, h1, h2, _⟩
  · exact .inr h
  · exact .inl ⟨d, gs, h1, h2⟩
theorem lockAt {H H' : Hp} {dd e : Addr} {o u : HO} {od : Obj} (hd : H dd = some u) (he : H e = some o) (ne : o ≠ u) (S : Same (upd H dd (.frz od u)) H') : H' e = some o := S _ _ (by
  rw [upd_ne (fun z => by rw [z, hd] at he; exact ne (Option.some.inj he).symm)]
  exact he)
theorem exo_dK {e C : Addr} {d : Option Addr} {ks : List (Key × V)} : exo e C d ≠ .dK ks := fun z => by
  have z' : HO.ext _ = HO.dK ks := z
  cases z'
theorem exd_dK {d : Addr} {gs : List (Str × V)} {ks : List (Key × V)} : exd d gs ≠ .dK ks := fun z => by
  have z' : HO.ext _ = HO.dK ks := z
  cases z'
abbrev sER : Stmt := top 56
theorem scER : FnScope ["_law_pen_here", "_law_error", "_law_title", "_law_due", "_law_sort"] ["_law_pen_here"] (defScope sER) := ⟨rfl, rfl, rfl, by decide +kernel, rfl, by decide +kernel, by decide +kernel⟩
structure TxtE (mg : Str → Option Value) : Prop where
  bL : mg "LookupError" = none
  bA : mg "ArithmeticError" = none
  bT : mg "TypeError" = none
  bR : mg "RuntimeError" = none
  bAt : mg "AttributeError" = none
def spER : Sp := fun vs H Q _ => ∃ (p c : Addr) (ns : List Int) (at_ rest : Int), vs = [.ref p] ∧ Pen H p c ns at_ rest ∧ at_ ≤ 800000 ∧ ∀ H', Q (.bl true) H'
theorem ok_er {CS : Addr} {cs : Nat → Addr} {f : Addr} {fd : FuncData} (F : Fun K "_law_errors_right" "_law_errors_right" sER f fd) (T : TxtB mg) (TE : TxtE mg) (S : SysB base) (X : Errs P w K mg base CS cs)
    (cErrors : C8.Cal P w K mg base 3 "_law_errors" (spErrors cs) []) (cOdd : C8.Cal P w K mg base 3 "_law_odd" spOdd []) (cKinds : C8.Cal P w K mg base 2 "_law_kinds" (spKinds cs) []) (cField : C8.Cal P w K mg base 1 "_law_field" (spField K) []) :
    FnG P w K mg base 11 f fd ["_law_pen_here"] spER := by
  obtain ⟨oc, od, kV, doc, pm, an, cdv, ct, osl, rfl, lk, hcd⟩ := F.ex
  have gS := X.gS
  refine ⟨fun vs H Q E h => ?_, fun A st s H args us vs Q gd hr0 e0 hb rv h => ?_⟩
  · obtain ⟨p, c, ns, a, r, rfl, _⟩ := h
    rfl
  · obtain ⟨p, c, ns, at_, rest, rfl, Pn, ha, k⟩ := h
    refine run_ofS (k := 10) (N := ["_law_pen_here", "_law_error", "_law_title", "_law_due", "_law_sort"]) (ps := ["_law_pen_here"]) lk hcd scER hr0 e0 hb rv rfl fun hr => ?_
    have gd : (A.deeper (PyProof.Rows.envOfC "_law_errors_right" (defScope sER) s.heap.objs.size f cdv)).guards = some [] := gd
    refine ⟨_, PSs.nox (pss_cons (ps_for PassesOwn.never rfl (pi_list (C8.pe_c cErrors hr (by decide) rfl (pa_cons (C8.pe_c cOdd hr (by decide) rfl (pa_cons (pv 0) pa_nil)) (pa_cons (C8.pe_c cOdd hr (by decide) rfl (pa_cons (pv 0) pa_nil)) (pa_cons (C8.pe_c cOdd hr (by decide) rfl (pa_cons (pv 0) pa_nil)) (pa_cons (C8.pe_c cOdd hr (by decide) rfl (pa_cons (pv 0) pa_nil)) pa_nil)))))) (pg_tup (n := 3) rfl (pgs_cons (pg_name (i := 1) scER.nd rfl (Or.inr rfl)) (pgs_cons (pg_name (i := 2) scER.nd rfl (Or.inl rfl)) (pgs_cons (pg_name (i := 3) scER.nd rfl (Or.inr rfl)) pgs_nil)))) (pss_cons (ps_if (PW.pt (pw_or (pt_not (pt_val (pe_callB NX.call_isEr (by rfl) T.bisinstance (by decide +kernel) (pa_cons (pv 1) (pa_cons (C8.pe_gc (v := .ref CS) rfl ⟨_, gS, rfl⟩) pa_nil))))) (pw_or (pt_not (pt_val (pe_callB NX.call_isEr (by rfl) T.bisinstance (by decide +kernel) (pa_cons (pv 1) (pa_cons (pe_bltn (v := .ty "ValueError") (by rfl) T.bVE (by decide +kernel) rfl) pa_nil))))) (pw_or1 (pt_cmpR (op_neD hr.units) (C8.pe_c cKinds hr (by decide) rfl (pa_cons (pv 1) pa_nil)) (pe_lst (pa_cons (pv 2) pa_nil)) (nomark _)))))) (pss_one (ps_ret pe_bl)) pss_nil)
      (pss_cons (ps_if (pt_val (pe_callB NX.call_isErT (by rfl) T.bisinstance (by decide +kernel) (pa_cons (pv 1) (pa_cons (pe_tup (pa_cons (pe_bltn (v := .ty "LookupError") (by rfl) TE.bL (by decide +kernel) rfl) (pa_cons (pe_bltn (v := .ty "ArithmeticError") (by rfl) TE.bA (by decide +kernel) rfl) (pa_cons (pe_bltn (v := .ty "TypeError") (by rfl) TE.bT (by decide +kernel) rfl) (pa_cons (pe_bltn (v := .ty "RuntimeError") (by rfl) TE.bR (by decide +kernel) rfl) (pa_cons (pe_bltn (v := .ty "AttributeError") (by rfl) TE.bAt (by decide +kernel) rfl) pa_nil)))))) pa_nil)))) (pss_one (ps_ret pe_bl)) pss_nil)
      (pss_one (ps_if (pt_cmpR op_ne (pe_callB (call_reprD gd hr.units S) (by rfl) T.brepr (by decide +kernel) (pa_cons (pe_lock (pe_lc (own := [("_law_sort", 4)]) (g := gName 4) rfl scER.nd (pi_keys (pv 3)) (blkOk_by (own := [("_law_sort", 4)]) (N := ["_law_pen_here", "_law_error", "_law_title", "_law_due", "_law_sort"]) (sc := defScope sER) (by decide +kernel)) (fun _ _ _ _ _ => (pg_name (i := 4) scER.nd rfl (Or.inl rfl))) (fun _ _ _ _ _ => pts_nil) (fun _ _ _ _ _ => (C8.pe_c cField hr (by decide) rfl (pa_cons (pv 1) (pa_cons (pv 4) pa_nil)))))) pa_nil)) (pe_callB (call_reprD gd hr.units S) (by rfl) T.brepr (by decide +kernel) (pa_cons (pe_lock (pe_lc (own := [("_law_sort", 4)]) (g := gName 4) rfl scER.nd (pi_keys (pv 3)) (blkOk_by (own := [("_law_sort", 4)]) (N := ["_law_pen_here", "_law_error", "_law_title", "_law_due", "_law_sort"]) (sc := defScope sER) (by decide +kernel)) (fun _ _ _ _ _ => (pg_name (i := 4) scER.nd rfl (Or.inl rfl))) (fun _ _ _ _ _ => pts_nil) (fun _ _ _ _ _ => (pe_dget (Nat.lt_of_le_of_lt (Nat.add_le_add_left (by decide : 1 ≤ 64) _) hr.units) (pv 3) (pv 4) (fun _ _ => rfl))))) pa_nil)) (nomark _)) (pss_one (ps_ret pe_bl)) pss_nil)))))
      (pss_one (ps_ret pe_bl))), ?_⟩
    refine ⟨_, rfl, p, c, ns, at_, rest, rfl, Pn, by omega, fun v1 H1 w1 d1 => ?_⟩
    obtain ⟨x1, y1, P1, l1, B1⟩ := d1
    refine ⟨_, rfl, p, c, ns, x1, y1, rfl, P1, by omega, fun v2 H2 w2 d2 => ?_⟩
    obtain ⟨x2, y2, P2, l2, B2⟩ := d2
    refine ⟨_, rfl, p, c, ns, x2, y2, rfl, P2, by omega, fun v3 H3 w3 d3 => ?_⟩
    obtain ⟨x3, y3, P3, l3, B3⟩ := d3
    refine ⟨_, rfl, p, c, ns, x3, y3, rfl, P3, by omega, fun v4 H4 w4 d4 => ?_⟩
    obtain ⟨x4, y4, P4, l4, B4⟩ := d4
    have w1 := ((w1.but P1 B2).but P2 B3).but P3 B4
    have w2 := (w2.but P2 B3).but P3 B4
    have w3 := w3.but P3 B4
    clear B1 B2 B3 B4 l1 l2 l3 l4 P1 P2 P3 Pn
    refine ⟨v1, v2, v3, v4, rfl, fun l ts H5 S5 hl es => ?_⟩
    have wv : ∀ i, Ow H5 (pv4 v1 v2 v3 v4 i) := fun i => by
      match i with
      | 0 => exact w1.same S5
      | 1 => exact w2.same S5
      | 2 => exact w3.same S5
      | n + 3 => exact w4.same S5
    generalize pv4 v1 v2 v3 v4 = pv at es wv
    clear w1 w2 w3 w4 S5 P4 ha
    refine ⟨l, rfl, ⟨ts, SqL.of hl⟩, ?_⟩
    refine for_list (xs := ts) (fun i σ H' => Same H5 H' ∧ ∃ x1 x2 x3 x4, σ = [some (.ref p), x1, x2, x3, x4]) ⟨fun _ _ h => h, _, _, _, _, rfl⟩ (fun i σ H' _ z => sqL_same z.1 (SqL.of hl)) ?_ ?_
    · rintro i t σ H6 hi ⟨S6, x1, x2, x3, x4, rfl⟩
      obtain ⟨r, hr2, en⟩ := pairAt es hi
      have hm : r ∈ errTab := List.mem_of_getElem? hr2
      obtain ⟨ta, e, dd, rfl, h1, h2, h3⟩ := en.keep (kOf S6)
      obtain ⟨t1, t2, t3, t4, t5, t6⟩ := tab_at hm
      have hE := h3.isEr
      have ec := X.ec _ t1
      have kvl : (rowV pv r).length ≤ 4 := by unfold rowV; rw [List.length_map]; exact t5
      have hdd : H6 dd = some (.dK (kd (rowV pv r))) := by
        rw [h2]
        unfold kd rowV
        rw [List.map_map]
        rfl
      refine ⟨ta, _, rfl, SqT.of h1, rfl, _, _, rfl, _, _, rfl, _, _, rfl, rfl, ?_⟩
      refine ⟨_, rfl, e, cs r.1, _, _, true, rfl, .own CS, hE, ec, X.sS _ t1, true, rfl, iteF ?_⟩
      refine ⟨_, rfl, e, cs r.1, _, _, true, rfl, .ty "ValueError", hE, ec, X.sV _ t1, true, rfl, iteF ?_⟩
      refine ⟨_, rfl, e, r.1, rfl, t1, hE, fun l2 H7 S7 h7 => ?_⟩
      rw [t2] at h7
      refine ⟨_, rfl, by show 1 ≤ sizeLine; decide, fun l3 hl3 => ?_⟩
      have S8 := Same.new (o := .lst [.str r.2.1]) hl3
      refine ⟨.list [.str r.2.1], .list [.str r.2.1], .lst (SqL.of (S8 _ _ h7)) (.cons (.str _) .nil), .lst (SqL.of upd_same) (.cons (.str _) .nil), t3, t3, ?_⟩
      rw [t4]
      refine ⟨_, rfl, iteF ?_⟩
      have S68 := S7.trans S8
      clear S7 S8 h7 hl3
      generalize upd H7 l3 (.lst [.str r.2.1]) = H8 at *
      refine ⟨_, rfl, by show 5 ≤ sizeLine; decide, fun tp htp => ?_⟩
      have S9 := Same.new (o := .tup [.ty "LookupError", .ty "ArithmeticError", .ty "TypeError", .ty "RuntimeError", .ty "AttributeError"]) htp
      refine ⟨e, cs r.1, tp, _, _, false, rfl, upd_same, .cons (.ty _) (.cons (.ty _) (.cons (.ty _) (.cons (.ty _) (.cons (.ty _) .nil)))), isErKeep (S68.trans S9) hE, ec, X.kt _ t1, false, rfl, iteF ?_⟩
      have S69 := S68.trans S9
      clear S68 S9 htp
      generalize upd H8 tp (.tup [.ty "LookupError", .ty "ArithmeticError", .ty "TypeError", .ty "RuntimeError", .ty "AttributeError"]) = H9 at *
      have h39 := h3.keep (kOf S69)
      have hd9 := S69 _ _ hdd
      obtain ⟨ds, hds⟩ := dcts (K := K) (H := H5) (vs := (rowV pv r).map (·.2)) fun v hv => by
        obtain ⟨q, hq, rfl⟩ := List.mem_map.mp hv
        unfold rowV at hq
        obtain ⟨q2, _, rfl⟩ := List.mem_map.mp hq
        exact (wv q2.2).smD
      have S59 := S6.trans S69
      refine lcKeys (kvs := rowV pv r) kvl hd9 ?_ fun D1 H10 S10 _ hD1 => ?_
      · intro od H' q R hq SP kR
        rcases h39 with ⟨e0, _⟩ | ⟨d, gs, a1, a2, a3⟩
        · rw [e0] at hq
          cases hq
        · obtain ⟨q2, hq2, eq2⟩ := List.mem_map.mp (show q ∈ r.2.2.map fun q => (q.1, pv q.2) from hq)
          have e1 : q2.1 = q.1 := by rw [← eq2]
          obtain ⟨xf, fv⟩ := tab_xf X hm (fun z => by rw [z] at hq2; cases hq2)
          exact ⟨_, rfl, _, rfl, e, cs r.1, d, gs, q.1, q.2, rfl, e1 ▸ t6 _ hq2, lockAt hd9 a1 exo_dK SP, lockAt hd9 a2 exd_dK SP, xf, e1 ▸ fv _ hq2, a3 q hq, kR⟩
      dsimp only [tNil]
      refine smList (smSame (S59.trans S10) hds) (by rw [List.length_map]; exact kvl) hD1 ?_
      refine lcKeys (kvs := rowV pv r) kvl (S10 _ _ hd9) ?_ fun D2 H11 S11 _ hD2 => ?_
      · intro od H' q R hq SP kR
        exact ⟨_, rfl, _, rfl, dd, q.2, rfl, .inl ⟨_, .inr q.1, .inr ⟨od, SP _ _ upd_same⟩, rfl, (tab_val hm q hq).symm⟩, kR _ (fun _ _ h => h)⟩
      dsimp only [tNil]
      refine smList (smSame ((S59.trans S10).trans S11) hds) (by rw [List.length_map]; exact kvl) hD2 ?_
      refine ⟨rfl, _, rfl, ?_⟩
      rw [decide_eq_true rfl]
      refine iteF ?_
      exact ⟨(S59.trans S10).trans S11, _, _, _, _, rfl⟩
    · rintro σ H' ⟨_, x1, x2, x3, x4, rfl⟩
      exact k _
end
end K01

set_option Elab.async false
set_option linter.all false
set_option maxRecDepth 100000
set_option maxHeartbeats 4000000
/-! == and != where the right side's class is a subclass of the left's: the right side is asked first. -/
namespace NX
open PySem PySem.W PyProof.Rows Builtin
section
variable {prog : Program} {w : World} {A : Around} {E : Value → Shared → Prop} {s : Shared} {K : Frag} {x y C D f : Addr} {ox oy : Obj} {od oe : Option Obj}
theorem ne_ref {C D : Addr} (h : C ≠ D) : ((Value.ref C) == .ref D) = false := by
  cases q : ((.ref C : Value) == .ref D) with
  | false => rfl
  | true =>
    have z : (Value.ref C) = .ref D := eq_of_beq q
    cases z
    exact absurd rfl h
theorem rich_neR {Q : Value → Shared → Prop} (hu : A.units + 1 < cLine) (X : K.In s.heap) (I : InstAt s.heap x ox C od) (J : InstAt s.heap y oy D oe) (nd : C ≠ D) (hsub : subIn K (.ref D) (.ref C) = some true) (hs : findIn K (.ref D) "__ne__" = some (some (.builtin "object.__ne__")))
    (he : findIn K (.ref D) "__eq__" = some (some (.ref f))) (hf : isFn K (.ref f) = true) (ho : mroIn K D (.type "object") = some true)
    (h : wpAny (model prog w) A.in1 (call (.ref f) [.ref y, .ref x]) (fun v s' => ∃ k, v = .bool k ∧ Q (.bool (!k)) s') E s) : wpAny (model prog w) A (richCompare .NotEq (.ref x) (.ref y)) Q E s := by
  have one : wpAny (model prog w) A (tryCompare (.ref y) "__ne__" (.ref x)) (fun r s' => ∃ k, r = some (.bool k) ∧ Q (.bool k) s') E s := by
    unfold tryCompare
    refine wpAny_bind (bound_ne X J hs (call_ne (Q := fun v s' => ∃ k, v = .bool k ∧ Q (.bool k) s') hu X J he hf ho (wpAny_mono h (fun v s' ⟨k, e, q⟩ => ⟨k, e, _, rfl, q⟩) fun _ _ e => e) |> fun z => wpAny_mono z (fun v s' ⟨k, e, q⟩ => ?_) fun _ _ e => e))
    subst e
    exact wpAny_pure ⟨k, rfl, q⟩
  unfold richCompare
  simp only [oneThing_ref]
  refine wpAny_holding (wpAny_bind (wpAny_cRoomFor (Nat.lt_of_succ_lt hu) ?_))
  rw [cmpInfo_NotEq]
  dsimp only
  refine wpAny_bind (I.type.here (wpAny_bind (J.type.here ?_)))
  split
  · refine wpAny_bind ((looks_subIn X hsub).here ?_)
    simp only [if_true]
    refine wpAny_bind (wpAny_mono one (fun r s' ⟨k, z, hq⟩ => ?_) fun _ _ e => e)
    subst z
    dsimp only
    wp_walk
    exact hq
  · rename_i q
    exact absurd (by simp [bne, ne_ref nd, ne_ref (Ne.symm nd)]) q
theorem rich_eqR {Q : Value → Shared → Prop} (hu : A.units < cLine) (X : K.In s.heap) (I : InstAt s.heap x ox C od) (J : InstAt s.heap y oy D oe) (nd : C ≠ D) (hsub : subIn K (.ref D) (.ref C) = some true)
    (he : findIn K (.ref D) "__eq__" = some (some (.ref f))) (hf : isFn K (.ref f) = true)
    (h : wpAny (model prog w) A (call (.ref f) [.ref y, .ref x]) (fun v s' => ∃ k, v = .bool k ∧ Q (.bool k) s') E s) : wpAny (model prog w) A (richCompare .Eq (.ref x) (.ref y)) Q E s := by
  have one : wpAny (model prog w) A (tryCompare (.ref y) "__eq__" (.ref x)) (fun r s' => ∃ k, r = some (.bool k) ∧ Q (.bool k) s') E s := by
    unfold tryCompare
    refine wpAny_bind (ifBound_K X J he hf (wpAny_mono h (fun v s' ⟨k, e, q⟩ => ?_) fun _ _ e => e))
    subst e
    exact wpAny_pure ⟨k, rfl, q⟩
  unfold richCompare
  simp only [oneThing_ref]
  refine wpAny_holding (wpAny_bind (wpAny_cRoomFor hu ?_))
  rw [cmpInfo_Eq]
  dsimp only
  refine wpAny_bind (I.type.here (wpAny_bind (J.type.here ?_)))
  split
  · refine wpAny_bind ((looks_subIn X hsub).here ?_)
    simp only [if_true]
    refine wpAny_bind (wpAny_mono one (fun r s' ⟨k, z, hq⟩ => ?_) fun _ _ e => e)
    subst z
    dsimp only
    wp_walk
    exact hq
  · rename_i q
    exact absurd (by simp [bne, ne_ref nd, ne_ref (Ne.symm nd)]) q
end
end NX
namespace NX
open PySem PySem.Spec PyProof.Rows L2
section
variable {X : Cx} {n : Nat} {f : Addr} {fd : FuncData} {ps : List Str} {sp : Sp} {CX : CXT} {E : XK}
/-- x == y, x != y of two objects, y's class a subclass of x's: y is asked -/
def rOwnR (K : PySem.W.Frag) (f : Addr) (sp : Sp) (E : XK) (neg : Bool) : R2 := fun x y H Q => ∃ (a b C D dx dy : Addr) (fs gs : List (Str × V)), x = .ref a ∧ y = .ref b ∧ H a = some (.ins C dx fs) ∧ H b = some (.ins D dy gs) ∧ C ≠ D ∧ PySem.W.subIn K (.ref D) (.ref C) = some true ∧ EqC K D f ∧
  sp [y, x] H (fun v H' => ∃ b, v = .bl b ∧ Q (.bl (if neg then !b else b)) H') E
theorem op_eqOwnR (F : FnOk X.prog X.w X.K X.mg X.base CX n f fd ps sp) (hb : Binds X.K fd ps []) (hx : Passes CX X E) (hr : Room n X.A) : OpR X (compareOp .Eq) (rOwnR X.K f sp E false) := by
  intro pins s σ H x y u v Q I rx ry h
  obtain ⟨a, b, C, D, dx, dy, fs, gs, rfl, rfl, ha, hb2, nd, hs, T, q⟩ := h
  obtain rfl : u = Value.ref a := rx
  obtain rfl : v = Value.ref b := ry
  obtain ⟨mA, O, _⟩ := ins_get I.hok ha
  obtain ⟨od, J, _⟩ := O.look
  obtain ⟨mB, O2, _⟩ := ins_get I.hok hb2
  obtain ⟨oe, J2, _⟩ := O2.look
  show wpAny (model X.prog X.w) X.A (richCompare .Eq (.ref a) (.ref b)) (EP X pins σ Q) X.xe s
  refine rich_eqR hr.units0 I.kIn J J2 nd hs T.eq T.fn (wpAny_mono (run_own (x := .ref b) (y := .ref a) F hb hx ⟨hr, rfl⟩ I rfl rfl q) (fun r s' hq => ?_) fun _ _ z => z)
  obtain ⟨w, H', I', rw', b, rfl, q'⟩ := hq
  obtain rfl : r = Value.bool b := rw'
  exact ⟨b, rfl, .bl b, H', I', rfl, q'⟩
theorem op_neOwnR (F : FnOk X.prog X.w X.K X.mg X.base CX n f fd ps sp) (hb : Binds X.K fd ps []) (hx : Passes CX X E) (hr : Room (n + 1) X.A) : OpR X (compareOp .NotEq) (rOwnR X.K f sp E true) := by
  intro pins s σ H x y u v Q I rx ry h
  obtain ⟨a, b, C, D, dx, dy, fs, gs, rfl, rfl, ha, hb2, nd, hs, T, q⟩ := h
  obtain rfl : u = Value.ref a := rx
  obtain rfl : v = Value.ref b := ry
  obtain ⟨mA, O, _⟩ := ins_get I.hok ha
  obtain ⟨od, J, _⟩ := O.look
  obtain ⟨mB, O2, _⟩ := ins_get I.hok hb2
  obtain ⟨oe, J2, _⟩ := O2.look
  show wpAny (model X.prog X.w) X.A (richCompare .NotEq (.ref a) (.ref b)) (EP X pins σ Q) X.xe s
  refine rich_neR (hu_of hr) I.kIn J J2 nd hs T.ne T.eq T.fn T.ob (wpAny_mono (run_own (x := .ref b) (y := .ref a) F hb hx ⟨hr.in1, rfl⟩ I rfl rfl q) (fun r s' hq => ?_) fun _ _ z => z)
  obtain ⟨w, H', I', rw', b, rfl, q'⟩ := hq
  obtain rfl : r = Value.bool b := rw'
  exact ⟨b, rfl, .bl (!b), H', I', rfl, q'⟩
end
end NX

set_option Elab.async false
set_option linter.all false
set_option maxRecDepth 100000
set_option maxHeartbeats 8000000
namespace K01
open PySem L2 NX NU LamX
abbrev sLaw : Stmt := top 57
theorem scLaw : FnScope ["_law_script", "_law_pen_here", "_law_known", "_law_lots", "_law_made", "_law_used", "_law_one", "_law_other", "_law_first", "_law_second", "_law_rooms", "_law_lap"] ["_law_script"] (defScope sLaw) := ⟨rfl, rfl, rfl, by decide +kernel, rfl, by decide +kernel, by decide +kernel⟩
structure LawTxt (P : Program) (w : World) (K : PySem.W.Frag) (mg : Str → Option Value) (base : Heap) (c : C4) (d : D3) (CD fU fM fD : Addr) : Prop where
  R : RTxt P w K mg base c d CD fU fM fD
  FU : FnR P w K mg base (CX P w) 5 fU (spUse K c)
  FM : ∃ fd, FnOk P w K mg base (CX P w) 4 fM fd ["self", "name"] (spMake K c) ∧ Binds K fd ["self", "name"] [] ∧ KBn K fd ["self", "name"] 1 ["name"] (fun us ws => us ++ ws) (fun vs zs => vs ++ zs)
  FD : FnR P w K mg base (CX P w) 5 fD (spDo K c)
  most : ∀ C, (C = CD ∨ C = d.u ∨ C = d.m ∨ C = d.d) → ∃ mc u, ClX.CRead K C mc ∧ ClX.CVal K C mc "MOST" (.int 3) u
  subs : PySem.W.subIn K (.ref d.d) (.ref d.u) = some true ∧ PySem.W.subIn K (.ref d.d) (.ref d.m) = some true
  nfx : ∀ C D, (C = d.u ∨ C = d.m ∨ C = d.d) → (D = d.u ∨ D = d.m ∨ D = d.d) → (D = d.d → C = d.d) → PySem.W.notFirst K C (.ref D) = true
  ne : d.u ≠ d.d ∧ d.m ≠ d.d
  pen : C8.Cal P w K mg base 1 "_law_pen" (spPen K) []
  names : C8.Cal P w K mg base 3 "_law_names" spLNames []
  lot : C8.Cal P w K mg base 3 "_law_lot" spLot []
  right : ∃ f fd, FnG P w K mg base 11 f fd ["_law_made", "_law_used"] (spRight K) ∧ mg "_law_right" = some (.ref f) ∧ PySem.W.keepIn K (.ref f) = true ∧ Binds K fd ["_law_made", "_law_used"] []
  er : ∃ f fd, FnG P w K mg base 11 f fd ["_law_pen_here"] spER ∧ mg "_law_errors_right" = some (.ref f) ∧ PySem.W.keepIn K (.ref f) = true ∧ Binds K fd ["_law_pen_here"] []
def spLaw (K : PySem.W.Frag) : Sp := fun vs H Q _ => ∃ (a : Addr) (ns : List Int), vs = [.ref a] ∧ SqL K H a (ns.map V.int) ∧ ∀ H', Q (.bl true) H'
/-- a lot at t, its list neither at p nor at D -/
def Lt (H : Hp) (p D : Addr) (t : V) (q : Option Str × List Str) : Prop := ∃ ta u, t = .ref ta ∧ LotAt H ta u q.1 q.2 ∧ u ≠ p ∧ u ≠ D
theorem Lt.keep {H H' : Hp} {p D : Addr} {t : V} {q : Option Str × List Str} (hp : ∃ l, H p = some (.lst l)) (hD : ∃ l, H D = some (.lst l)) (k : ∀ b o, b ≠ p → b ≠ D → H b = some o → H' b = some o) (h : Lt H p D t q) : Lt H' p D t q := by
  obtain ⟨ta, u, e, ⟨h1, h2, h3⟩, n1, n2⟩ := h
  obtain ⟨l1, hp⟩ := hp
  obtain ⟨l2, hD⟩ := hD
  have a1 : ta ≠ p := fun z => by rw [z, hp] at h1; cases h1
  have a2 : ta ≠ D := fun z => by rw [z, hD] at h1; cases h1
  exact ⟨ta, u, e, ⟨k _ _ a1 a2 h1, k _ _ n1 n2 h2, h3⟩, n1, n2⟩
theorem ltsKeep {H H' : Hp} {p D : Addr} (hp : ∃ l, H p = some (.lst l)) (hD : ∃ l, H D = some (.lst l)) (k : ∀ b o, b ≠ p → b ≠ D → H b = some o → H' b = some o) : ∀ {ts : List V} {qs : List (Option Str × List Str)}, Paired (Lt H p D) ts qs → Paired (Lt H' p D) ts qs
  | _, _, .nil => .nil
  | _, _, .cons a b => .cons (a.keep hp hD k) (ltsKeep hp hD k b)
theorem pairApp {α β : Type} {F : α → β → Prop} : ∀ {xs us : List α} {ys vs : List β}, Paired F xs ys → Paired F us vs → Paired F (xs ++ us) (ys ++ vs)
  | _, _, _, _, .nil, b => b
  | _, _, _, _, .cons a c, b => .cons a (pairApp c b)
theorem pairMap {α β : Type} {F G : α → β → Prop} (k : ∀ x y, F x y → G x y) : ∀ {xs : List α} {ys : List β}, Paired F xs ys → Paired G xs ys
  | _, _, .nil => .nil
  | _, _, .cons a b => .cons (k _ _ a) (pairMap k b)
/-- the lots, as they are drawn -/
def LotsI (p c : Addr) (ms : List Int) (r : Addr) (xs : List Str) (D : Addr) (i : Nat) (H : Hp) : Prop := ∃ x y ts qs, Pen H p c ms x y ∧ x ≤ 10 + 10 * (i : Int) ∧ H D = some (.lst ts) ∧ ts.length = i ∧ H r = some (.lst (xs.map V.str)) ∧ Paired (Lt H p D) ts qs
section
variable {K : PySem.W.Frag}
theorem lotStep {p c r D : Addr} {ms : List Int} {xs : List Str} {i : Nat} {H : Hp} {v : V} {s0 s3 s4 s5 s6 s7 s8 s9 s10 s11 : Option V} (hi : i < 12) (np : D ≠ p) (nrp : r ≠ p) (nrD : r ≠ D) (ncD : c ≠ D) (hu : Uni xs) (h6 : xs.length = 6) (h : LotsI p c ms r xs D i H) :
    gName 11 v (wipe [s0, some (.ref p), some (.ref r), s3, s4, s5, s6, s7, s8, s9, s10, s11] [11]) H fun σ2 H2 => wipe σ2 [11] = wipe [s0, some (.ref p), some (.ref r), s3, s4, s5, s6, s7, s8, s9, s10, s11] [11] ∧ tYes σ2 H2 fun b H3 => if b = true then tCall spLot [] C8.E0 (tCons (tVar 1) (tCons (tVar 2) tNil)) σ2 H3 fun y H4 => ∃ acc, H4 D = some (.lst acc) ∧ acc.length < sizeLine ∧ LotsI p c ms r xs D (i + 1) (upd H4 D (.lst (acc ++ [y]))) else LotsI p c ms r xs D (i + 1) H3 := by
  obtain ⟨x, y, ts, qs, Pn, lx, hD, hl, hr, es⟩ := h
  refine ⟨rfl, ?_⟩
  unfold tYes
  dsimp only
  rw [if_pos rfl]
  refine ⟨_, rfl, _, rfl, p, c, ms, x, y, r, xs, rfl, Pn, by omega, hr, nrp, hu, h6, fun t u mk us H2 ht hu2 lot dr => ?_⟩
  obtain ⟨x2, y2, P2, l2, B⟩ := dr
  have hD2 := B _ _ hD np
  have npt : u ≠ p := fun e => by rw [e, Pn.hp] at hu2; cases hu2
  have nDu : u ≠ D := fun e => by rw [e, hD] at hu2; cases hu2
  have nDt : t ≠ D := fun e => by rw [e, hD] at ht; cases ht
  have k1 : ∀ b o, b ≠ p → b ≠ D → H b = some o → (upd H2 D (.lst (ts ++ [.ref t]))) b = some o := fun b o n1 n2 hb => (upd_ne n2).trans (B b o hb n1)
  refine ⟨ts, hD2, Nat.lt_of_lt_of_le (by omega : _ < 12) (by decide), x2, y2, ts ++ [.ref t], qs ++ [(mk, us)], ⟨(upd_ne (Ne.symm np)).trans P2.hp, (upd_ne ncD).trans P2.hc, P2.la, P2.lr⟩, by push_cast; omega, upd_same, by rw [List.length_append, hl]; rfl, (upd_ne nrD).trans (B _ _ hr nrp), ?_⟩
  refine pairApp (ltsKeep ⟨_, Pn.hp⟩ ⟨_, hD⟩ k1 es) (.cons ⟨t, u, rfl, ⟨(upd_ne nDt).trans lot.1, (upd_ne nDu).trans lot.2.1, lot.2.2⟩, npt, nDu⟩ .nil)
/-- a lot at t -/
def Lk (H : Hp) (t : V) (q : Option Str × List Str) : Prop := ∃ ta u, t = .ref ta ∧ LotAt H ta u q.1 q.2
theorem Lk.same {H H' : Hp} {t : V} {q : Option Str × List Str} (s : Same H H') (h : Lk H t q) : Lk H' t q := by
  obtain ⟨ta, u, e, h1, h2, h3⟩ := h
  exact ⟨ta, u, e, s _ _ h1, s _ _ h2, h3⟩
theorem lksSame {H H' : Hp} (s : Same H H') : ∀ {ts : List V} {qs : List (Option Str × List Str)}, Paired (Lk H) ts qs → Paired (Lk H') ts qs
  | _, _, .nil => .nil
  | _, _, .cons a b => .cons (a.same s) (lksSame s b)
theorem LotOk.rev {mk : Option Str} {us : List Str} (h : LotOk mk us) : LotOk mk us.reverse :=
  ⟨⟨List.pairwise_reverse.mpr (h.u.1.imp fun h => Ne.symm h), fun z hz => h.u.2 z (List.mem_reverse.mp hz)⟩, by rw [List.length_reverse]; exact h.few, h.m, fun e => by rw [List.length_reverse]; exact h.some_ e⟩
/-- the turned lots, as they are made -/
def RevI (H0 : Hp) (D : Addr) (i : Nat) (H : Hp) : Prop := Same H0 H ∧ ∃ ts qs, H D = some (.lst ts) ∧ ts.length = i ∧ Paired (Lt H D D) ts qs
theorem revStep {H0 H : Hp} {D : Addr} {i : Nat} {t : V} {q : Option Str × List Str} {s0 s1 s2 s3 s4 s5 s6 s7 s8 s9 s10 s11 : Option V} (hi : i < 4) (hD0 : H0 D = none) (lot : Lk H0 t q) (h : RevI H0 D i H) :
    gTup K 2 (gCons (gName 4) (gCons (gName 5) gNil)) t (wipe [s0, s1, s2, s3, s4, s5, s6, s7, s8, s9, s10, s11] [4, 5]) H fun σ2 H2 => wipe σ2 [4, 5] = wipe [s0, s1, s2, s3, s4, s5, s6, s7, s8, s9, s10, s11] [4, 5] ∧ tYes σ2 H2 fun b H3 => if b = true then tTup (tCons (tVar 4) (tCons (tRevL K (tVar 5)) tNil)) σ2 H3 fun y H4 => ∃ acc, H4 D = some (.lst acc) ∧ acc.length < sizeLine ∧ RevI H0 D (i + 1) (upd H4 D (.lst (acc ++ [y]))) else RevI H0 D (i + 1) H3 := by
  obtain ⟨S, ts, qs, hD, hl, es⟩ := h
  obtain ⟨ta, u, rfl, h1, h2, ok⟩ := lot.same S
  refine ⟨ta, _, rfl, SqT.of h1, rfl, _, _, rfl, _, _, rfl, rfl, rfl, ?_⟩
  unfold tYes
  dsimp only
  rw [if_pos rfl]
  refine ⟨_, rfl, _, rfl, u, _, rfl, SqL.of h2, fun v hv => ⟨by show 2 ≤ sizeLine; decide, fun t2 ht2 => ?_⟩⟩
  have er : (q.2.map V.str).reverse = q.2.reverse.map V.str := List.map_reverse.symm
  rw [er] at ht2 ⊢
  have S1 := Same.new (o := .lst (q.2.reverse.map V.str)) hv
  have S2 := Same.new (o := .tup [mkV q.1, .ref v]) ht2
  have nv : v ≠ D := fun e => by rw [e, hD] at hv; cases hv
  have nt : t2 ≠ D := fun e => by rw [e, S1 _ _ hD] at ht2; cases ht2
  refine ⟨ts, (S1.trans S2) _ _ hD, Nat.lt_of_lt_of_le (by omega : _ < 12) (by decide), samePut (S.trans (S1.trans S2)) hD0, ts ++ [.ref t2], qs ++ [(q.1, q.2.reverse)], upd_same, by rw [List.length_append, hl]; rfl, ?_⟩
  refine pairApp (ltsKeep ⟨_, hD⟩ ⟨_, hD⟩ (fun b o n1 _ hb => (upd_ne n1).trans ((S1.trans S2) _ _ hb)) es) (.cons ⟨t2, v, rfl, ⟨(upd_ne nt).trans upd_same, (upd_ne nv).trans (S2 _ _ upd_same), ok.rev⟩, nv, nv⟩ .nil)
end
theorem eqvLst : ∀ (us vs : List Str), PyData.eqv (.list (us.map PyData.str)) (.list (vs.map PyData.str)) = decide (us = vs)
  | [], [] => rfl
  | [], b :: vs => rfl
  | a :: us, [] => rfl
  | a :: us, b :: vs => by
    have h := eqvLst us vs
    have e : PyData.eqv (.list ((a :: us).map PyData.str)) (.list ((b :: vs).map PyData.str)) = ((a == b) && PyData.eqv (.list (us.map PyData.str)) (.list (vs.map PyData.str))) := rfl
    rw [e, h, Bool.eq_iff_iff, Bool.and_eq_true, beq_iff_eq, decide_eq_true_eq, decide_eq_true_eq, List.cons.injEq]
/-- a lot as data -/
def lotD (mk : Option Str) (us : List Str) : PyData := .tuple [mkD mk, .list (us.map PyData.str)]
theorem eqvMk (mk mk2 : Option Str) : (mkD mk).eqv (mkD mk2) = decide (mk = mk2) := by
  cases mk with
  | none =>
    cases mk2 with
    | none => rfl
    | some b => rfl
  | some a =>
    cases mk2 with
    | none => rfl
    | some b =>
      show (a == b) = _
      rw [Bool.eq_iff_iff, beq_iff_eq, decide_eq_true_eq, Option.some.injEq]
theorem eqvLot (mk mk2 : Option Str) (us us2 : List Str) : (lotD mk us).eqv (lotD mk2 us2) = (decide (us = us2) && decide (mk = mk2)) := by
  have e : (lotD mk us).eqv (lotD mk2 us2) = ((mkD mk).eqv (mkD mk2) && ((PyData.list (us.map PyData.str)).eqv (.list (us2.map PyData.str)) && true)) := by
    cases mk <;> cases mk2 <;> rfl
  rw [e, eqvMk, eqvLst, Bool.and_true, Bool.and_comm]
theorem shapedLot {mk : Option Str} {us : List Str} (ok : LotOk mk us) : SeqAt.shaped (lotD mk us) = true := by
  have h1 := canTup ok.u.2
  have h2 := depTup us
  unfold SeqAt.shaped
  rw [Bool.and_eq_true, decide_eq_true_eq]
  constructor
  · have e : (lotD mk us).canLay0 = ((mkD mk).canLay0 && (PyData.canLayAll0 (us.map PyData.str) && true)) := rfl
    rw [e, h1]
    cases mk with
    | none => rfl
    | some m =>
      show (PyData.strOk m && (true && true)) = true
      rw [strOk_of (nm_okS (ok.m m rfl))]
      rfl
  · have e : (lotD mk us).depth = max (mkD mk).depth (max (PyData.depthAll (us.map PyData.str) + 1) 0) + 1 := rfl
    have e2 : (mkD mk).depth = 0 := by cases mk <;> rfl
    rw [e, e2]
    omega
theorem dpLot {K : PySem.W.Frag} {H : Hp} {t u : Addr} {mk : Option Str} {us : List Str} (h : LotAt H t u mk us) : Dp K H (.ref t) (lotD mk us) := by
  refine .tup (SqT.of h.1) (.cons ?_ (.cons (.lst (SqL.of h.2.1) (dpTup us)) .nil))
  cases mk with
  | none => exact .non
  | some m => exact .str m
/-- x == y, x != y of two deeds -/
theorem eqAsk {P : Program} {w : World} {K : PySem.W.Frag} {mg : Str → Option Value} {base : Heap} {c : C4} {d : D3} {CD fU fM fD fEq : Addr} (X : LawTxt P w K mg base c d CD fU fM fD) (eq1 : EqC K d.u fEq) (eq2 : EqC K d.m fEq) (eq3 : EqC K d.d fEq) {H : Hp} {x y : Addr} {mk mk2 : Option Str} {us us2 ys zs : List Str} {neg : Bool} {Q : VK}
    (hX : IsD d H x mk us ys) (hY : IsD d H y mk2 us2 zs) (k : Q (.bl (if neg = true then !(decide (us = us2) && decide (mk = mk2)) else (decide (us = us2) && decide (mk = mk2)))) H) :
    NX.rOwn K fEq (spDEq K d CD) L2.E0 neg (.ref x) (.ref y) H Q ∨ NX.rOwnR K fEq (spDEq K d CD) L2.E0 neg (.ref x) (.ref y) H Q := by
  have C1 := of_is d mk us
  have C2 := of_is d mk2 us2
  have q1 := of3 (c := d) (mk := mk) (us := us) (φ := fun C => EqC K C fEq) eq1 eq2 eq3
  have q2 := of3 (c := d) (mk := mk2) (us := us2) (φ := fun C => EqC K C fEq) eq1 eq2 eq3
  obtain ⟨dx, p1, r1, g1, g2, g3⟩ := id hX.dd
  obtain ⟨dy, p2, r2, f1, f2, f3⟩ := id hY.dd
  by_cases hd : d.of mk2 us2 = d.d ∧ d.of mk us ≠ d.d
  · refine .inr ⟨x, y, d.of mk us, d.of mk2 us2, dx, dy, _, _, rfl, rfl, g1, f1, fun e => hd.2 (e.trans hd.1), ?_, q2, y, mk2, us2, zs, .ref x, rfl, hY, .inl ⟨x, mk, us, ys, rfl, hX, _, rfl, ?_⟩⟩
    · rw [hd.1]
      rcases C1 with e | e | e
      · rw [e]; exact X.subs.1
      · rw [e]; exact X.subs.2
      · exact absurd e hd.2
    · have e1 : decide (us2 = us) = decide (us = us2) := by rw [Bool.eq_iff_iff, decide_eq_true_eq, decide_eq_true_eq]; exact eq_comm
      have e2 : decide (mk2 = mk) = decide (mk = mk2) := by rw [Bool.eq_iff_iff, decide_eq_true_eq, decide_eq_true_eq]; exact eq_comm
      rw [e1, e2]
      exact k
  · exact .inl ⟨x, d.of mk us, dx, _, _, rfl, g1, q1, X.nfx _ _ C1 C2 (fun e => Classical.byContradiction fun n => hd ⟨e, n⟩), X.R.ty.ty X.R.k3 hY, x, mk, us, ys, .ref y, rfl, hX, .inl ⟨y, mk2, us2, zs, rfl, hY, _, rfl, k⟩⟩
/-- repr of two bools -/
theorem repr2 {K : PySem.W.Frag} {H : Hp} {a : Addr} {b1 b2 : Bool} {Q : VK} (h : H a = some (.lst [.bl b1, .bl b2])) (q : Q (.str (PyData.list [.bool b1, .bool b2]).shown) H) : rReprD K [.ref a] H Q :=
  ⟨.ref a, .list [.bool b1, .bool b2], rfl, .lst (SqL.of h) (.cons (.bl b1) (.cons (.bl b2) .nil)), by cases b1 <;> cases b2 <;> decide +kernel, by cases b1 <;> cases b2 <;> decide +kernel, by cases b1 <;> cases b2 <;> decide +kernel, fun i e => (by cases e), q⟩
theorem ascLen {ys ws zs : List Str} (h : Asc ys ws) (s : PyProof.Rows.sortedS zs = true) (n : decide zs.Nodup = true) (m : ∀ y, y ∈ zs ↔ y ∈ ws) : ys.length = zs.length := by
  obtain rfl : zs = ys := sorted_uniq (sorted_pw s) (sorted_pw h.1) (of_decide_eq_true n) h.2.1 fun y => (m y).trans (h.2.2 y).symm
  rfl
theorem mkOk {z : Str} (h : nm z = true) : LotOk (some z) [] := ⟨⟨List.nodup_nil, nofun⟩, by decide, fun y e => by injection e with e; rw [← e]; exact h, nofun⟩
theorem doOk {m : Str} {us : List Str} (h : (nm m && us.all (fun z => nm z) && decide us.Nodup && decide (us.length ≤ 3)) = true) : LotOk (some m) us := by
  simp only [Bool.and_eq_true, decide_eq_true_eq, List.all_eq_true] at h
  obtain ⟨⟨⟨h1, h2⟩, h3⟩, h4⟩ := h
  exact ⟨⟨h3, h2⟩, h4, fun y e => by injection e with e; rw [← e]; exact h1, nofun⟩
theorem consOp {r : R2} {ta tb : TE} {tl : TA} {σ : L2.St} {H : Hp} {Q : List V → Hp → Prop} (h : ta σ H fun x H1 => tb σ H1 fun y H2 => r x y H2 fun v H3 => tl σ H3 fun xs H4 => Q (v :: xs) H4) : tCons (tOp r ta tb) tl σ H Q := h
theorem consE {te : TE} {tl : TA} {σ : L2.St} {H : Hp} {Q : List V → Hp → Prop} (h : te σ H fun v H3 => tl σ H3 fun xs H4 => Q (v :: xs) H4) : tCons te tl σ H Q := h
section
variable {P : Program} {w : World} {K : PySem.W.Frag} {mg : Str → Option Value} {base : Heap} {c : C4} {d : D3} {CD fU fM fD : Addr} {σ : L2.St} {H : Hp} {Q : VK}
theorem makeKAsk {z0 : Str} {xs : List Str} {r : Addr} (D : Dcs K mg d fU fM fD) (ok : LotOk (some z0) []) (hs : σ[2]? = some (some (.ref r))) (hr : H r = some (.lst ((z0 :: xs).map V.str))) (k : ∀ x H', NewI d H x (some z0) [] H' → Q (.ref x) H') :
    tMakeK d.m 0 ["name"].length (spMake K c) (fun vs zs => vs ++ zs) L2.E0 tNil (tCons (tOp (rIxL K) (tVar 2) (tC (.int 0))) tNil) σ H Q :=
  ⟨_, hs, r, _, ((0 : Nat) : Int), _, rfl, rfl, SqL.of hr, atI_nat rfl, rfl, rfl, real_make (Q := Q) D ok k⟩
theorem makeAsk {z0 : Str} {xs : List Str} {r : Addr} (D : Dcs K mg d fU fM fD) (ok : LotOk (some z0) []) (hs : σ[2]? = some (some (.ref r))) (hr : H r = some (.lst ((z0 :: xs).map V.str))) (k : ∀ x H', NewI d H x (some z0) [] H' → Q (.ref x) H') :
    tMake d.m (spMake K c) [] L2.E0 (tCons (tOp (rIxL K) (tVar 2) (tC (.int 0))) tNil) σ H Q :=
  ⟨_, hs, r, _, ((0 : Nat) : Int), _, rfl, rfl, SqL.of hr, atI_nat rfl, real_make (Q := Q) D ok k⟩
theorem eqAsk1 {fEq : Addr} (X : LawTxt P w K mg base c d CD fU fM fD) (eq1 : EqC K d.u fEq) (eq2 : EqC K d.m fEq) (eq3 : EqC K d.d fEq) {x y : Addr} {z0 : Str} {ys zs : List Str} (hX : IsD d H x (some z0) [] ys) (hY : IsD d H y (some z0) [] zs) (k : Q (.bl true) H) :
    NX.rOwn K fEq (spDEq K d CD) L2.E0 false (.ref x) (.ref y) H Q := by
  obtain ⟨dx, p1, r1, g1, g2, g3⟩ := id hX.dd
  obtain ⟨dy, p2, r2, f1, f2, f3⟩ := id hY.dd
  rcases eqAsk (neg := false) X eq1 eq2 eq3 hX hY (Q := Q) (by rw [decide_eq_true rfl, decide_eq_true rfl]; exact k) with h | ⟨a, b, C, D, dx, dy, fs, gs, e1, e2, h1, h2, nd, _⟩
  · exact h
  · cases e1
    cases e2
    rw [g1] at h1
    rw [f1] at h2
    have a1 := Option.some.inj h1
    have a2 := Option.some.inj h2
    injection a1 with b1 b2 b3
    injection a2 with c1 c2 c3
    exact absurd (b1.symm.trans c1) nd
theorem roomAsk {m z0 : Str} {us zs : List Str} {ta : TA} {pR fR : Addr} (X : LawTxt P w K mg base c d CD fU fM fD) (pr3 : PropOf K d.d "room" pR fR) (ok : LotOk (some m) (z0 :: us)) (hta : ∀ (R : List V → Hp → Prop), R (V.str m :: (z0 :: us).map V.str) H → ta σ H R)
    (s : PyProof.Rows.sortedS zs = true) (n : decide zs.Nodup = true) (mm : ∀ y, y ∈ zs ↔ y ∈ m :: z0 :: us) (k : ∀ H', Same H H' → Q (.int zs.length) H') : tPropG K "room" fR (spRoom K d) L2.E0 (StX.tMakeR d.d (spDo K c) L2.E0 ta) σ H Q := by
  refine hta _ (real_do (Q := fun v H1 => ∃ a C dx fs p, v = V.ref a ∧ H1 a = some (HO.ins C dx fs) ∧ Cls K C ∧ PropOf K C "room" p fR ∧ spRoom K d [V.ref a] H1 Q L2.E0) X.R.D ok fun x H1 new => ?_)
  obtain ⟨S, _, ys, hX⟩ := new
  obtain ⟨dx, p1, r1, g1, g2, g3⟩ := id hX.dd
  have e := ascLen hX.asc s n mm
  refine ⟨x, _, dx, _, pR, rfl, g1, X.R.D.dd.cl, pr3, x, some m, z0 :: us, ys, rfl, hX, ?_⟩
  rw [e]
  exact k _ S
end
theorem lstAsk {ta : TA} {σ : L2.St} {H : Hp} {Q : VK} (h : ta σ H fun xs H1 => xs.length ≤ sizeLine ∧ ∀ p : Addr, H1 p = none → Q (.ref p) (upd H1 p (.lst xs))) : tLst ta σ H Q := h

section
variable {P : Program} {w : World} {K : PySem.W.Frag} {mg : Str → Option Value} {base : Heap}
theorem ok_law {c : C4} {d : D3} {CD fU fM fD : Addr} {f : Addr} {fd : FuncData} (F : Fun K "law" "law" sLaw f fd) (X : LawTxt P w K mg base c d CD fU fM fD) : FnG P w K mg base 13 f fd ["_law_script"] (spLaw K) := by
  have RX := X.R
  have T := RX.T
  have D := RX.D
  have gD := RX.gD
  have S := RX.sys
  have cReal := RX.real
  have ty := RX.ty
  have k3 := RX.k3
  have FU := X.FU
  have FD := X.FD
  obtain ⟨fdM, FM, hbM, kM⟩ := X.FM
  obtain ⟨pR, fR, fdR, FR, hbR, pr1, pr2, pr3⟩ := RX.rm
  obtain ⟨fEq, fdEq, FEq, hbEq, eq1, eq2, eq3⟩ := RX.eq
  have cPen := X.pen
  have cNames := X.names
  have cLot := X.lot
  obtain ⟨fRt, fdRt, FRt, gRt, kRt, hbRt⟩ := X.right
  obtain ⟨fEr, fdEr, FEr, gEr, kEr, hbEr⟩ := X.er
  obtain ⟨oc, od, kV, doc, pm, an, cdv, ct, osl, rfl, lk, hcd⟩ := F.ex
  refine ⟨fun vs H Q E h => ?_, fun A st s H args us vs Q gd hr0 e0 hb rv h => ?_⟩
  · obtain ⟨a, ns, rfl, _⟩ := h
    rfl
  · obtain ⟨a, ns, rfl, hS, k⟩ := h
    refine run_ofS (k := 12) (N := ["_law_script", "_law_pen_here", "_law_known", "_law_lots", "_law_made", "_law_used", "_law_one", "_law_other", "_law_first", "_law_second", "_law_rooms", "_law_lap"]) (ps := ["_law_script"]) lk hcd scLaw hr0 e0 hb rv rfl fun hr => ?_
    have gd : (A.deeper (PyProof.Rows.envOfC "law" (defScope sLaw) s.heap.objs.size f cdv)).guards = some [] := gd
    refine ⟨_, PSs.nox (pss_cons (ps_set (i := 1) scLaw.nd rfl (Or.inr rfl) (C8.pe_c cPen hr (by decide) rfl (pa_cons (pv 0) pa_nil)))
      (pss_cons (ps_set (i := 2) scLaw.nd rfl (Or.inr rfl) (C8.pe_c cNames hr (by decide) rfl (pa_cons (pv 1) (pa_cons pe_int pa_nil))))
      (pss_cons (ps_setLc (i := 3) (own := [("_law_lap", 11)]) (g := gName 11) rfl scLaw.nd rfl rfl (sw_true rfl rfl rfl (by decide +kernel)) (pi_range1 (by rfl) T.brange (pa_cons pe_int pa_nil)) (blkOk_by (own := [("_law_lap", 11)]) (N := ["_law_script", "_law_pen_here", "_law_known", "_law_lots", "_law_made", "_law_used", "_law_one", "_law_other", "_law_first", "_law_second", "_law_rooms", "_law_lap"]) (sc := defScope sLaw) (by decide +kernel)) (fun _ _ _ _ _ => (pg_name (i := 11) scLaw.nd rfl (Or.inl rfl))) (fun _ _ _ _ _ => pts_nil) (fun _ _ _ _ _ => (C8.pe_c cLot hr (by decide) rfl (pa_cons (pv 1) (pa_cons (pv 2) pa_nil)))))
      (pss_cons (ps_set (i := 3) scLaw.nd rfl (Or.inl rfl) (pe_op op_cat (pv 3) (pe_lc (own := [("_law_made", 4), ("_law_used", 5)]) (g := gTup K 2 (gCons (gName 4) (gCons (gName 5) gNil))) rfl scLaw.nd (pi_list (pe_slice sl_list (pv 3) po_none (po_some pe_int))) (blkOk_by (own := [("_law_made", 4), ("_law_used", 5)]) (N := ["_law_script", "_law_pen_here", "_law_known", "_law_lots", "_law_made", "_law_used", "_law_one", "_law_other", "_law_first", "_law_second", "_law_rooms", "_law_lap"]) (sc := defScope sLaw) (by decide +kernel)) (fun _ _ _ _ _ => (pg_tup (n := 2) rfl (pgs_cons (pg_name (i := 4) scLaw.nd rfl (Or.inl rfl)) (pgs_cons (pg_name (i := 5) scLaw.nd rfl (Or.inl rfl)) pgs_nil)))) (fun _ _ _ _ _ => pts_nil) (fun _ _ _ _ _ => (pe_tup (pa_cons (pv 4) (pa_cons (show PE _ _ (tRevL K (tVar 5)) from pe_revL (pv 5)) pa_nil)))))))
      (pss_cons (ps_for PassesOwn.never rfl (pi_list (pv 3)) (pg_tup (n := 2) rfl (pgs_cons (pg_name (i := 4) scLaw.nd rfl (Or.inl rfl)) (pgs_cons (pg_name (i := 5) scLaw.nd rfl (Or.inl rfl)) pgs_nil))) (pss_one (ps_if (pt_not (pt_val (pe_callG FRt gd hr (by decide) rfl gRt kRt hbRt (pa_cons (pv 4) (pa_cons (pv 5) pa_nil))))) (pss_one (ps_ret pe_bl)) pss_nil)))
      (pss_cons (ps_for PassesOwn.never rfl (pi_list (pv 3)) (pg_name (i := 6) scLaw.nd rfl (Or.inl rfl)) (pss_one (ps_for PassesOwn.never rfl (pi_list (pv 3)) (pg_name (i := 7) scLaw.nd rfl (Or.inl rfl)) (pss_cons (ps_par (i := 8) (j := 9) (by rfl) scLaw.nd rfl rfl (by decide) rfl rfl (pa_cons (C8.pe_c cReal hr (by decide) rfl (pa_cons (pe_ix ix_tup (pv 6) pe_int (fun _ _ => rfl)) (pa_cons (pe_ix ix_tup (pv 6) pe_int (fun _ _ => rfl)) pa_nil))) (pa_cons (C8.pe_c cReal hr (by decide) rfl (pa_cons (pe_ix ix_tup (pv 7) pe_int (fun _ _ => rfl)) (pa_cons (pe_ix ix_tup (pv 7) pe_int (fun _ _ => rfl)) pa_nil))) pa_nil)) (by rfl)) (pss_one (ps_if (pt_cmpR op_ne (pe_callB (call_reprD gd hr.units S) (by rfl) T.brepr (by decide +kernel) (pa_cons (pe_lst (pa_cons (pe_cmpR (OpR.or (op_eqOwn FEq hbEq pass0 (hr.mono (by decide))) (NX.op_eqOwnR FEq hbEq pass0 (hr.mono (by decide)))) (pv 8) (pv 9) (nomark _)) (pa_cons (pe_cmpR (OpR.or (op_neOwn FEq hbEq pass0 (hr.mono (by decide))) (NX.op_neOwnR FEq hbEq pass0 (hr.mono (by decide)))) (pv 8) (pv 9) (nomark _)) pa_nil))) pa_nil)) (pe_callB (call_reprD gd hr.units S) (by rfl) T.brepr (by decide +kernel) (pa_cons (pe_lst (pa_cons (pe_cmpR (op_eqD hr.units) (pv 6) (pv 7) (nomark _)) (pa_cons (pe_cmpR (op_neD hr.units) (pv 6) (pv 7) (nomark _)) pa_nil))) pa_nil)) (nomark _)) (pss_one (ps_ret pe_bl)) pss_nil))))))
      (pss_cons (ps_if (pt_cmpR (op_neD hr.units) (pe_lst (pa_cons (ClX.pe_cval (C8.pe_gc (v := .ref CD) rfl ⟨_, gD, rfl⟩)) (pa_cons (ClX.pe_cval (C8.pe_gc (v := .ref d.u) rfl ⟨_, D.gu, rfl⟩)) (pa_cons (ClX.pe_cval (C8.pe_gc (v := .ref d.m) rfl ⟨_, D.gm, rfl⟩)) (pa_cons (ClX.pe_cval (C8.pe_gc (v := .ref d.d) rfl ⟨_, D.gd, rfl⟩)) (pa_cons (pe_cmpR (op_eqOwn FEq hbEq pass0 (hr.mono (by decide))) (pe_makeK0 D.mm FM (hr.mono (by decide)) rfl D.gm kM passL (pk_cons (pe_ix ix_list (pv 2) pe_int (fun _ _ => rfl)) pk_nil)) (pe_make D.mm FM (hr.mono (by decide)) rfl D.gm hbM .nil passL (pa_cons (pe_ix ix_list (pv 2) pe_int (fun _ _ => rfl)) pa_nil)) (nomark _)) pa_nil)))))) (pe_lst (pa_cons pe_int (pa_cons pe_int (pa_cons pe_int (pa_cons pe_int (pa_cons pe_bl pa_nil)))))) (nomark _)) (pss_one (ps_ret pe_bl)) pss_nil)
      (pss_cons (ps_set (i := 10) scLaw.nd rfl (Or.inl rfl) (pe_lst (pa_cons (NX.pe_propG (StX.pe_makeR D.md FD (hr.mono (by decide)) rfl D.gd passL (pa_cons pe_str (pa_cons pe_str pa_nil))) FR (hr.mono (by decide)) hbR pass0 rfl) (pa_cons (NX.pe_propG (StX.pe_makeR D.md FD (hr.mono (by decide)) rfl D.gd passL (pa_cons pe_str (pa_cons pe_str (pa_cons pe_str pa_nil)))) FR (hr.mono (by decide)) hbR pass0 rfl) (pa_cons (NX.pe_propG (StX.pe_makeR D.md FD (hr.mono (by decide)) rfl D.gd passL (pa_cons pe_str (pa_cons pe_str (pa_cons pe_str (pa_cons pe_str pa_nil))))) FR (hr.mono (by decide)) hbR pass0 rfl) pa_nil)))))
      (pss_one (ps_ret (pe_and (pe_cmpR (op_eqD hr.units) (pv 10) (pe_lst (pa_cons pe_int (pa_cons pe_int (pa_cons pe_int pa_nil)))) (nomark _)) (pe_one (pe_callG FEr gd hr (by decide) rfl gEr kEr hbEr (pa_cons (pv 1) pa_nil)))))))))))))), ?_⟩
    refine ⟨_, rfl, a, ns, rfl, hS, fun p c1 ms H1 hp P1 s1 => ?_⟩
    refine ⟨_, rfl, p, c1, ms, 0, 0, rfl, P1, by decide, fun r xs H2 hr hx u6 l6 dr => ?_⟩
    obtain ⟨x2, y2, P2, l2, B2⟩ := dr
    have nrp : r ≠ p := fun e => by rw [e, P1.hp] at hr; cases hr
    clear hr B2 P1 s1 hp hS
    refine ⟨12, rfl, by decide, by decide, fun DL hD => ?_⟩
    have np : DL ≠ p := fun e => by rw [e, P2.hp] at hD; cases hD
    have ncD : c1 ≠ DL := fun e => by rw [← e, P2.hc] at hD; cases hD
    have nrD : r ≠ DL := fun e => by rw [← e, hx] at hD; cases hD
    refine lc_range (n := 12) (fun i H' => LotsI p c1 ms r xs DL i H') ?_ (fun i H' hi hP => lotStep hi np nrp nrD ncD u6 l6 hP) (fun H3 hP => ?_)
    · have S := Same.new (o := .lst []) hD
      exact ⟨x2, y2, [], [], P2.same S, by omega, upd_same, rfl, S _ _ hx, .nil⟩
    obtain ⟨x3, y3, ts, qs, P3, l3, hD3, hl3, hr3, es3⟩ := hP
    have ks3 : Paired (Lk H3) ts qs := pairMap (fun _ _ ⟨ta, u, e, h, _⟩ => ⟨ta, u, e, h⟩) es3
    have l3 : x3 ≤ 130 := by omega
    clear es3 P2 hx hD l2
    -- the turned ones
    have eC : cutV ts none (some 4) = ts.take 4 := by
      unfold cutV
      have e1 : HT.sIx ts.length ts.length (some 4) = min 4 ts.length := HT.sIx_nat ts.length ts.length 4
      rw [e1, HT.sIx_none, hl3]
      rfl
    refine ⟨_, rfl, _, rfl, 4, rfl, DL, ts, rfl, SqL.of hD3, fun sl hsl => ⟨sl, rfl, ⟨_, SqL.of upd_same⟩, fun D2 hD2 => ?_⟩⟩
    have hsl' : (upd H3 sl (.lst (cutV ts none (some 4)))) sl = some (.lst (ts.take 4)) := by rw [upd_same, eC]
    have S4 := Same.new (o := .lst (cutV ts none (some 4))) hsl
    generalize upd H3 sl (.lst (cutV ts none (some 4))) = H4 at *
    refine lc_list (xs := ts.take 4) (fun i H' => RevI H4 D2 i H') ⟨Same.new hD2, [], [], upd_same, rfl, .nil⟩ (fun i H' _ z => sqL_same z.1 (SqL.of hsl')) (fun i t H' ht hP => ?_) (fun H5 hP => ?_)
    · have hi : i < 4 := by
        have := (List.getElem?_eq_some_iff.mp ht).1
        rw [List.length_take] at this
        omega
      rw [List.getElem?_take] at ht
      rw [if_pos hi] at ht
      obtain ⟨q, _, lot⟩ := pairAt (lksSame S4 ks3) ht
      exact revStep hi hD2 lot hP
    have lt4 : (ts.take 4).length = 4 := by rw [List.length_take, hl3]; rfl
    rw [lt4] at hP
    obtain ⟨S5, us2, qs2, h52, hl5, es5⟩ := hP
    have hD5 := (S4.trans S5) _ _ hD3
    refine ⟨DL, D2, ts, us2, rfl, rfl, hD5, h52, by rw [hl3, hl5]; decide, fun L hL => ?_⟩
    have S6 := Same.new (o := .lst (ts ++ us2)) hL
    have hL6 : (upd H5 L (.lst (ts ++ us2))) L = some (.lst (ts ++ us2)) := upd_same
    have P6 := P3.same ((S4.trans S5).trans S6)
    have hr6 := ((S4.trans S5).trans S6) _ _ hr3
    have ks6 : Paired (Lk (upd H5 L (.lst (ts ++ us2)))) (ts ++ us2) (qs ++ qs2) := pairApp (lksSame ((S4.trans S5).trans S6) ks3) (lksSame S6 (pairMap (fun _ _ ⟨ta, u, e, h, _⟩ => ⟨ta, u, e, h⟩) es5))
    clear hL S6 es5 h52 hD5 S4 S5 hsl hsl' hD2 ks3 hD3 hr3 P3 hl3 hl5 lt4 eC
    generalize upd H5 L (.lst (ts ++ us2)) = H6 at *
    generalize ts ++ us2 = TS at *
    generalize qs ++ qs2 = QS at *
    -- each of them
    refine ⟨_, rfl, L, rfl, ⟨TS, SqL.of hL6⟩, ?_⟩
    refine for_list (xs := TS) (fun i σ H' => Same H6 H' ∧ ∃ x4 x5, σ = [some (.ref a), some (.ref p), some (.ref r), some (.ref L), x4, x5, none, none, none, none, none, none]) ⟨fun _ _ h => h, _, _, rfl⟩ (fun i σ H' _ z => sqL_same z.1 (SqL.of hL6)) ?_ ?_
    · rintro i t σ H7 ht ⟨S7, x4, x5, rfl⟩
      obtain ⟨q, _, ta, u, rfl, h1, h2, ok⟩ := pairAt (lksSame S7 ks6) ht
      refine ⟨ta, _, rfl, SqT.of h1, rfl, _, _, rfl, _, _, rfl, rfl, ?_⟩
      refine ⟨_, rfl, _, rfl, u, q.1, q.2, rfl, h2, ok, fun H8 S8 => ⟨true, rfl, iteF ?_⟩⟩
      exact ⟨S7.trans S8, _, _, rfl⟩
    rintro σ H7 ⟨S7, x4, x5, rfl⟩
    have hL7 := S7 _ _ hL6
    have ks7 := lksSame S7 ks6
    have P7 := P6.same S7
    have hr7 := S7 _ _ hr6
    clear S7 hL6 ks6 P6 hr6
    -- each beside each
    refine ⟨_, rfl, L, rfl, ⟨TS, SqL.of hL7⟩, ?_⟩
    refine for_list (xs := TS) (fun i σ H' => Same H7 H' ∧ ∃ x6 x7 x8 x9, σ = [some (.ref a), some (.ref p), some (.ref r), some (.ref L), x4, x5, x6, x7, x8, x9, none, none]) ⟨fun _ _ h => h, _, _, _, _, rfl⟩ (fun i σ H' _ z => sqL_same z.1 (SqL.of hL7)) ?_ ?_
    · rintro i t σ H8 ht ⟨S8, x6, x7, x8, x9, rfl⟩
      refine ⟨_, rfl, L, rfl, ⟨TS, SqL.of (S8 _ _ hL7)⟩, ?_⟩
      refine for_list (xs := TS) (fun j σ H' => Same H7 H' ∧ ∃ x7 x8 x9, σ = [some (.ref a), some (.ref p), some (.ref r), some (.ref L), x4, x5, some t, x7, x8, x9, none, none]) ⟨S8, _, _, _, rfl⟩ (fun i σ H' _ z => sqL_same z.1 (SqL.of hL7)) ?_ ?_
      · rintro j t2 σ H9 ht2 ⟨S9, x7, x8, x9, rfl⟩
        obtain ⟨q, _, ta, u, rfl, h1, h2, ok⟩ := pairAt (lksSame S9 ks7) ht
        obtain ⟨q2, _, tb, u2, rfl, g1, g2, ok2⟩ := pairAt (lksSame S9 ks7) ht2
        refine ⟨_, rfl, ta, _, ((0 : Nat) : Int), _, rfl, rfl, SqT.of h1, atI_nat rfl, _, rfl, ta, _, ((1 : Nat) : Int), _, rfl, rfl, SqT.of h1, atI_nat rfl, u, q.1, q.2, rfl, SqL.of h2, ok, fun x H10 new => ?_⟩
        obtain ⟨S10, _, ys, hX⟩ := new
        refine ⟨_, rfl, tb, _, ((0 : Nat) : Int), _, rfl, rfl, SqT.of (S10 _ _ g1), atI_nat rfl, _, rfl, tb, _, ((1 : Nat) : Int), _, rfl, rfl, SqT.of (S10 _ _ g1), atI_nat rfl, u2, q2.1, q2.2, rfl, SqL.of (S10 _ _ g2), ok2, fun y H11 new => ⟨_, _, rfl, ?_⟩⟩
        obtain ⟨S11, _, zs, hY⟩ := new
        have hX := hX.same S11
        have lX := (⟨S10.trans S11 _ _ h1, S10.trans S11 _ _ h2, ok⟩ : LotAt H11 ta u q.1 q.2)
        have lY := (⟨S10.trans S11 _ _ g1, S10.trans S11 _ _ g2, ok2⟩ : LotAt H11 tb u2 q2.1 q2.2)
        have S711 := S9.trans (S10.trans S11)
        clear S9 S10 S11 h1 h2 g1 g2
        refine ⟨_, rfl, _, rfl, eqAsk X eq1 eq2 eq3 hX hY ?_⟩
        refine ⟨_, rfl, _, rfl, eqAsk X eq1 eq2 eq3 hX hY ?_⟩
        refine ⟨by show 2 ≤ sizeLine; decide, fun w1 hw1 => ?_⟩
        obtain ⟨b, eb⟩ : ∃ b, b = (decide (q.2 = q2.2) && decide (q.1 = q2.1)) := ⟨_, rfl⟩
        rw [← eb]
        have eL : [V.bl (if false = true then !b else b), V.bl (if true = true then !b else b)] = [V.bl b, V.bl (!b)] := rfl
        rw [eL]
        have S12 := Same.new (o := .lst [.bl b, .bl (!b)]) hw1
        dsimp only [tNil]
        refine repr2 (b1 := b) (b2 := !b) upd_same ?_
        have lX2 : LotAt (upd H11 w1 (.lst [.bl b, .bl (!b)])) ta u q.1 q.2 := ⟨S12 _ _ lX.1, S12 _ _ lX.2.1, lX.2.2⟩
        have lY2 : LotAt (upd H11 w1 (.lst [.bl b, .bl (!b)])) tb u2 q2.1 q2.2 := ⟨S12 _ _ lY.1, S12 _ _ lY.2.1, lY.2.2⟩
        refine ⟨_, rfl, _, rfl, lotD q.1 q.2, lotD q2.1 q2.2, dpLot lX2, dpLot lY2, shapedLot ok, shapedLot ok2, ?_⟩
        rw [eqvLot, ← eb]
        refine ⟨_, rfl, _, rfl, lotD q.1 q.2, lotD q2.1 q2.2, dpLot lX2, dpLot lY2, shapedLot ok, shapedLot ok2, ?_⟩
        rw [eqvLot, ← eb]
        refine ⟨by show 2 ≤ sizeLine; decide, fun w2 hw2 => ?_⟩
        have S13 := Same.new (o := .lst [.bl b, .bl (!b)]) hw2
        dsimp only [tNil]
        refine repr2 (b1 := b) (b2 := !b) upd_same ?_
        refine ⟨rfl, _, rfl, ?_⟩
        rw [decide_eq_true rfl]
        refine iteF ?_
        exact ⟨(S711.trans S12).trans S13, _, _, _, rfl⟩
      · rintro σ H9 ⟨S9, x7, x8, x9, rfl⟩
        exact ⟨S9, _, _, _, _, rfl⟩
    rintro σ H8 ⟨S8, x6, x7, x8, x9, rfl⟩
    have P8 := P7.same S8
    have hr8 := S8 _ _ hr7
    clear S8 P7 hr7 hL7 ks7
    -- the most, and by name
    obtain ⟨z0, xs, rfl⟩ : ∃ z l, xs = z :: l := by
      cases xs with
      | nil => cases l6
      | cons z l => exact ⟨z, l, rfl⟩
    have okm := mkOk (u6.2 z0 List.mem_cons_self)
    obtain ⟨m1, v1, R1, V1⟩ := X.most CD (.inl rfl)
    obtain ⟨m2, v2, R2, V2⟩ := X.most d.u (.inr (.inl rfl))
    obtain ⟨m3, v3, R3, V3⟩ := X.most d.m (.inr (.inr (.inl rfl)))
    obtain ⟨m4, v4, R4, V4⟩ := X.most d.d (.inr (.inr (.inr rfl)))
    refine ⟨CD, m1, _, v1, rfl, R1, V1, ?_⟩
    refine ⟨d.u, m2, _, v2, rfl, R2, V2, ?_⟩
    refine ⟨d.m, m3, _, v3, rfl, R3, V3, ?_⟩
    refine ⟨d.d, m4, _, v4, rfl, R4, V4, ?_⟩
    refine consOp ?_
    refine makeKAsk D okm rfl hr8 fun x H9 new => ?_
    obtain ⟨S9, _, ys, hX⟩ := new
    refine makeAsk D okm rfl (S9 _ _ hr8) fun y H10 new => ?_
    obtain ⟨S10, _, zs, hY⟩ := new
    refine eqAsk1 X eq1 eq2 eq3 (hX.same S10) hY ?_
    refine ⟨by show 5 ≤ sizeLine; decide, fun w1 hw1 => ?_⟩
    have S11 := Same.new (o := .lst [.int 3, .int 3, .int 3, .int 3, .bl true]) hw1
    refine ⟨by show 5 ≤ sizeLine; decide, fun w2 hw2 => ?_⟩
    have S12 := Same.new (o := .lst [.int 3, .int 3, .int 3, .int 3, .bl true]) hw2
    have dp5 : ∀ {G : Hp}, DpAll K G [.int 3, .int 3, .int 3, .int 3, .bl true] [.int 3, .int 3, .int 3, .int 3, .bool true] := fun {G} => .cons (.int 3) (.cons (.int 3) (.cons (.int 3) (.cons (.int 3) (.cons (.bl true) .nil))))
    have sh5 : SeqAt.shaped (.list [.int 3, .int 3, .int 3, .int 3, .bool true]) = true := by decide +kernel
    refine ⟨.list [.int 3, .int 3, .int 3, .int 3, .bool true], .list [.int 3, .int 3, .int 3, .int 3, .bool true], .lst (SqL.of (S12 _ _ upd_same)) dp5, .lst (SqL.of upd_same) dp5, sh5, sh5, ?_⟩
    have ev5 : (PyData.list [.int 3, .int 3, .int 3, .int 3, .bool true]).eqv (.list [.int 3, .int 3, .int 3, .int 3, .bool true]) = true := by decide +kernel
    rw [ev5]
    refine ⟨_, rfl, iteF ?_⟩
    have P12 := P8.same (((S9.trans S10).trans S11).trans S12)
    clear hX hY S9 S10 S11 S12 hw1 hw2 P8 hr8
    generalize (upd (upd H10 w1 (.lst [.int 3, .int 3, .int 3, .int 3, .bl true])) w2 (.lst [.int 3, .int 3, .int 3, .int 3, .bl true])) = H12 at *
    -- the rooms
    dsimp only [tNext]
    refine seqSet ?_
    refine lstAsk ?_
    refine consE ?_
    refine roomAsk (m := "a") (z0 := "a") (us := []) (zs := ["a"]) X pr3 (doOk (by decide +kernel)) (fun R h => h) (by decide +kernel) (by decide +kernel) (fun y => by simp) fun H13 S13 => ?_
    refine consE ?_
    refine roomAsk (m := "s") (z0 := "s") (us := ["a"]) (zs := ["a", "s"]) X pr3 (doOk (by decide +kernel)) (fun R h => h) (by decide +kernel) (by decide +kernel) (fun y => by simp [or_comm]; exact .inr) fun H14 S14 => ?_
    refine consE ?_
    refine roomAsk (m := "x") (z0 := "a") (us := ["b", "c"]) (zs := ["a", "b", "c", "x"]) X pr3 (doOk (by decide +kernel)) (fun R h => h) (by decide +kernel) (by decide +kernel) (fun y => by simp [or_comm, or_left_comm, or_assoc]) fun H15 S15 => ?_
    refine ⟨by show 3 ≤ sizeLine; decide, fun w3 hw3 => ?_⟩
    have S16 := Same.new (o := .lst [.int 1, .int 2, .int 4]) hw3
    have hw3' : (upd H15 w3 (.lst [.int 1, .int 2, .int 4])) w3 = some (.lst [.int 1, .int 2, .int 4]) := upd_same
    have P16 := P12.same (((S13.trans S14).trans S15).trans S16)
    clear S13 S14 S15 S16 hw3 P12
    have e3 : [V.int ((["a"] : List Str).length : Nat), V.int ((["a", "s"] : List Str).length : Nat), V.int ((["a", "b", "c", "x"] : List Str).length : Nat)] = [.int 1, .int 2, .int 4] := rfl
    rw [e3]
    generalize (upd H15 w3 (.lst [.int 1, .int 2, .int 4])) = H16 at *
    refine ⟨_, rfl, by show 3 ≤ sizeLine; decide, fun w4 hw4 => ?_⟩
    have S17 := Same.new (o := .lst [.int 1, .int 2, .int 4]) hw4
    have dp3 : ∀ {G : Hp}, DpAll K G [.int 1, .int 2, .int 4] [.int 1, .int 2, .int 4] := fun {G} => .cons (.int 1) (.cons (.int 2) (.cons (.int 4) .nil))
    have sh3 : SeqAt.shaped (.list [.int 1, .int 2, .int 4]) = true := by decide +kernel
    refine ⟨.list [.int 1, .int 2, .int 4], .list [.int 1, .int 2, .int 4], .lst (SqL.of (S17 _ _ hw3')) dp3, .lst (SqL.of upd_same) dp3, sh3, sh3, ?_⟩
    have ev3 : (PyData.list [.int 1, .int 2, .int 4]).eqv (.list [.int 1, .int 2, .int 4]) = true := by decide +kernel
    rw [ev3]
    refine ⟨true, rfl, ?_⟩
    rw [if_pos rfl]
    exact ⟨_, rfl, p, c1, ms, x3, y3, rfl, P16.same S17, by omega, fun H' => k _⟩
end
end K01

set_option Elab.async false
set_option linter.all false
set_option maxRecDepth 100000
set_option maxHeartbeats 8000000
/-! The head: what the written part says, and the chain of the promises up to the law. -/
namespace K01
open PySem L2 NX NU LamX PySem.Spec PyProof.Rows
/-- all that the head finds -/
structure HeadF (K : PySem.W.Frag) (CS CD pRd pNm pRm c0 c1 c2 c3 c4 c5 c6 c7 c8 c9 c10 c11 c12 c13 c14 c15 c16 c17 c18 c19 c20 c21 c22 c23 c24 dU dM dD i0 i1 i2 i3 i4 i5 i6 i7 i8 i9 i10 i11 i12 i13 i14 i15 i16 i17 i23 i24 fU fM fD fRd fNm fRm fStr fEq fIs fCns fCun fAsc fCus fOf fPen fDraw fPick fSome fNames fReal fLot fText fRight fOdd fErrs fField fKinds fER fLaw : Addr) : Prop where
  n_int : PySem.W.nsIn K mainGlobals "int" = some none
  n_len : PySem.W.nsIn K mainGlobals "len" = some none
  n_abs : PySem.W.nsIn K mainGlobals "abs" = some none
  n_list : PySem.W.nsIn K mainGlobals "list" = some none
  n_str : PySem.W.nsIn K mainGlobals "str" = some none
  n_tuple : PySem.W.nsIn K mainGlobals "tuple" = some none
  n_isinstance : PySem.W.nsIn K mainGlobals "isinstance" = some none
  n_repr : PySem.W.nsIn K mainGlobals "repr" = some none
  n_range : PySem.W.nsIn K mainGlobals "range" = some none
  n_enumerate : PySem.W.nsIn K mainGlobals "enumerate" = some none
  n_ValueError : PySem.W.nsIn K mainGlobals "ValueError" = some none
  n_set : PySem.W.nsIn K mainGlobals "set" = some none
  n_sorted : PySem.W.nsIn K mainGlobals "sorted" = some none
  n_min : PySem.W.nsIn K mainGlobals "min" = some none
  n_LookupError : PySem.W.nsIn K mainGlobals "LookupError" = some none
  n_ArithmeticError : PySem.W.nsIn K mainGlobals "ArithmeticError" = some none
  n_TypeError : PySem.W.nsIn K mainGlobals "TypeError" = some none
  n_RuntimeError : PySem.W.nsIn K mainGlobals "RuntimeError" = some none
  n_AttributeError : PySem.W.nsIn K mainGlobals "AttributeError" = some none
  gLet : ∃ t, PySem.W.nsIn K mainGlobals "LETTERS" = some (some (.str "abcdefghijklmnopqrstuvwxyz" t))
  gMost : ∃ t, PySem.W.nsIn K mainGlobals "MOST_LETTERS" = some (some (.int 6 t))
  base : BaseF K CS
  e0 : ErrF K "BadName" "value" c0 i0 CS
  e1 : ErrF K "BadDeed" "value" c1 i1 CS
  e2 : ErrF K "BadMove" "value" c2 i2 CS
  e3 : ErrF K "BadNumber" "value" c3 i3 CS
  e4 : ErrF K "BadPrice" "value" c4 i4 CS
  e5 : ErrF K "BadPlace" "value" c5 i5 CS
  e6 : ErrF K "BadPart" "part" c6 i6 CS
  e7 : ErrF K "BadSlots" "value" c7 i7 CS
  e8 : ErrF K "BadStanding" "value" c8 i8 CS
  e9 : ErrF K "BadRule" "value" c9 i9 CS
  e10 : ErrF K "Twice" "name" c10 i10 CS
  e11 : ErrF K "TooMany" "most" c11 i11 CS
  e12 : ErrF K "Unmade" "place" c12 i12 CS
  v12_name : PySem.W.findIn K (.ref c12) "name" = some none
  e13 : ErrF K "MadeAgain" "place" c13 i13 CS
  v13_name : PySem.W.findIn K (.ref c13) "name" = some none
  e14 : ErrF K "NoRoom" "place" c14 i14 CS
  e15 : ErrF K "Crowded" "place" c15 i15 CS
  e16 : ErrF K "Barred" "word" c16 i16 CS
  v16_name : PySem.W.findIn K (.ref c16) "name" = some none
  e17 : ErrF K "BadPlan" "at" c17 i17 CS
  v17_index : PySem.W.findIn K (.ref c17) "index" = some none
  v17_word : PySem.W.findIn K (.ref c17) "word" = some none
  v17_name : PySem.W.findIn K (.ref c17) "name" = some none
  g18 : PySem.W.nsIn K mainGlobals "NoLoop" = some (some (.ref c18))
  q18 : PySem.W.excIn K c18 [.type "ValueError", .type "Exception", .type "BaseException", .type "object"] "ValueError.__new__" = true
  p18 : PySem.W.keepIn K (.ref c18) = true
  ga18 : PySem.W.findIn K (.ref c18) "__getattribute__" = some (some (.builtin "BaseException.__getattribute__"))
  gg18 : PySem.W.findIn K (.ref c18) "__getattr__" = some none
  ex18 : PySem.W.subIn K (.ref c18) (.type "BaseException") = some true
  hd18 : PySem.W.hasDictIn K c18 = true
  cl18 : PySem.W.findIn K (.ref c18) "__class__" = some (some (.builtin "object.__class__"))
  ob18 : PySem.W.mroIn K c18 (.type "object") = some true
  g19 : PySem.W.nsIn K mainGlobals "HasLoop" = some (some (.ref c19))
  q19 : PySem.W.excIn K c19 [.type "ValueError", .type "Exception", .type "BaseException", .type "object"] "ValueError.__new__" = true
  p19 : PySem.W.keepIn K (.ref c19) = true
  ga19 : PySem.W.findIn K (.ref c19) "__getattribute__" = some (some (.builtin "BaseException.__getattribute__"))
  gg19 : PySem.W.findIn K (.ref c19) "__getattr__" = some none
  ex19 : PySem.W.subIn K (.ref c19) (.type "BaseException") = some true
  hd19 : PySem.W.hasDictIn K c19 = true
  cl19 : PySem.W.findIn K (.ref c19) "__class__" = some (some (.builtin "object.__class__"))
  ob19 : PySem.W.mroIn K c19 (.type "object") = some true
  g20 : PySem.W.nsIn K mainGlobals "OneLoop" = some (some (.ref c20))
  q20 : PySem.W.excIn K c20 [.type "ValueError", .type "Exception", .type "BaseException", .type "object"] "ValueError.__new__" = true
  p20 : PySem.W.keepIn K (.ref c20) = true
  ga20 : PySem.W.findIn K (.ref c20) "__getattribute__" = some (some (.builtin "BaseException.__getattribute__"))
  gg20 : PySem.W.findIn K (.ref c20) "__getattr__" = some none
  ex20 : PySem.W.subIn K (.ref c20) (.type "BaseException") = some true
  hd20 : PySem.W.hasDictIn K c20 = true
  cl20 : PySem.W.findIn K (.ref c20) "__class__" = some (some (.builtin "object.__class__"))
  ob20 : PySem.W.mroIn K c20 (.type "object") = some true
  g21 : PySem.W.nsIn K mainGlobals "TwoLoops" = some (some (.ref c21))
  q21 : PySem.W.excIn K c21 [.type "ValueError", .type "Exception", .type "BaseException", .type "object"] "ValueError.__new__" = true
  p21 : PySem.W.keepIn K (.ref c21) = true
  ga21 : PySem.W.findIn K (.ref c21) "__getattribute__" = some (some (.builtin "BaseException.__getattribute__"))
  gg21 : PySem.W.findIn K (.ref c21) "__getattr__" = some none
  ex21 : PySem.W.subIn K (.ref c21) (.type "BaseException") = some true
  hd21 : PySem.W.hasDictIn K c21 = true
  cl21 : PySem.W.findIn K (.ref c21) "__class__" = some (some (.builtin "object.__class__"))
  ob21 : PySem.W.mroIn K c21 (.type "object") = some true
  g22 : PySem.W.nsIn K mainGlobals "Finished" = some (some (.ref c22))
  q22 : PySem.W.excIn K c22 [.type "ValueError", .type "Exception", .type "BaseException", .type "object"] "ValueError.__new__" = true
  p22 : PySem.W.keepIn K (.ref c22) = true
  ga22 : PySem.W.findIn K (.ref c22) "__getattribute__" = some (some (.builtin "BaseException.__getattribute__"))
  gg22 : PySem.W.findIn K (.ref c22) "__getattr__" = some none
  ex22 : PySem.W.subIn K (.ref c22) (.type "BaseException") = some true
  hd22 : PySem.W.hasDictIn K c22 = true
  cl22 : PySem.W.findIn K (.ref c22) "__class__" = some (some (.builtin "object.__class__"))
  ob22 : PySem.W.mroIn K c22 (.type "object") = some true
  e23 : ErrF K "BadText" "line" c23 i23 CS
  v23_word : PySem.W.findIn K (.ref c23) "word" = some none
  e24 : ErrF K "BadLine" "word" c24 i24 CS
  aS : allS K [c0, c1, c2, c3, c4, c5, c6, c7, c8, c9, c10, c11, c12, c13, c14, c15, c16, c17, c18, c19, c20, c21, c22, c23, c24] CS = true
  aV : allV K [c0, c1, c2, c3, c4, c5, c6, c7, c8, c9, c10, c11, c12, c13, c14, c15, c16, c17, c18, c19, c20, c21, c22, c23, c24] = true
  aK : allK K [c0, c1, c2, c3, c4, c5, c6, c7, c8, c9, c10, c11, c12, c13, c14, c15, c16, c17, c18, c19, c20, c21, c22, c23, c24] = true
  aT : allT K [c0, c1, c2, c3, c4, c5, c6, c7, c8, c9, c10, c11, c12, c13, c14, c15, c16, c17, c18, c19, c20, c21, c22, c23, c24] = true
  kU : ClsF K "Use" dU fU
  kU_uses : PySem.W.findIn K (.ref dU) "uses" = some none
  kU_makes : PySem.W.findIn K (.ref dU) "makes" = some none
  kU_names : PySem.W.findIn K (.ref dU) "_names" = some none
  kU_cl : PySem.W.findIn K (.ref dU) "__class__" = some (some (.builtin "object.__class__"))
  kU_ob : PySem.W.mroIn K dU (.type "object") = some true
  kU_CD : PySem.W.kitOne K (.ref dU) (.ref CD) = some true
  kU_str : PySem.W.findIn K (.ref dU) "__str__" = some (some (.ref fStr))
  kU_eq : PySem.W.findIn K (.ref dU) "__eq__" = some (some (.ref fEq))
  kU_ne : PySem.W.findIn K (.ref dU) "__ne__" = some (some (.builtin "object.__ne__"))
  kU_nm : PySem.W.findIn K (.ref dU) "names" = some (some (.ref pNm))
  kU_rm : PySem.W.findIn K (.ref dU) "room" = some (some (.ref pRm))
  kU_nf : (PySem.W.notFirst K dU (.ref dU) && PySem.W.notFirst K dU (.type "str") && PySem.W.notFirst K dU (.type "tuple")) = true
  kM : ClsF K "Make" dM fM
  kM_uses : PySem.W.findIn K (.ref dM) "uses" = some none
  kM_makes : PySem.W.findIn K (.ref dM) "makes" = some none
  kM_names : PySem.W.findIn K (.ref dM) "_names" = some none
  kM_cl : PySem.W.findIn K (.ref dM) "__class__" = some (some (.builtin "object.__class__"))
  kM_ob : PySem.W.mroIn K dM (.type "object") = some true
  kM_CD : PySem.W.kitOne K (.ref dM) (.ref CD) = some true
  kM_str : PySem.W.findIn K (.ref dM) "__str__" = some (some (.ref fStr))
  kM_eq : PySem.W.findIn K (.ref dM) "__eq__" = some (some (.ref fEq))
  kM_ne : PySem.W.findIn K (.ref dM) "__ne__" = some (some (.builtin "object.__ne__"))
  kM_nm : PySem.W.findIn K (.ref dM) "names" = some (some (.ref pNm))
  kM_rm : PySem.W.findIn K (.ref dM) "room" = some (some (.ref pRm))
  kM_nf : (PySem.W.notFirst K dM (.ref dM) && PySem.W.notFirst K dM (.type "str") && PySem.W.notFirst K dM (.type "tuple")) = true
  kD : ClsF K "Do" dD fD
  kD_uses : PySem.W.findIn K (.ref dD) "uses" = some none
  kD_makes : PySem.W.findIn K (.ref dD) "makes" = some none
  kD_names : PySem.W.findIn K (.ref dD) "_names" = some none
  kD_cl : PySem.W.findIn K (.ref dD) "__class__" = some (some (.builtin "object.__class__"))
  kD_ob : PySem.W.mroIn K dD (.type "object") = some true
  kD_CD : PySem.W.kitOne K (.ref dD) (.ref CD) = some true
  kD_str : PySem.W.findIn K (.ref dD) "__str__" = some (some (.ref fStr))
  kD_eq : PySem.W.findIn K (.ref dD) "__eq__" = some (some (.ref fEq))
  kD_ne : PySem.W.findIn K (.ref dD) "__ne__" = some (some (.builtin "object.__ne__"))
  kD_nm : PySem.W.findIn K (.ref dD) "names" = some (some (.ref pNm))
  kD_rm : PySem.W.findIn K (.ref dD) "room" = some (some (.ref pRm))
  kD_nf : (PySem.W.notFirst K dD (.ref dD) && PySem.W.notFirst K dD (.type "str") && PySem.W.notFirst K dD (.type "tuple")) = true
  fnS : PySem.W.isFn K (.ref fStr) = true
  fnE : PySem.W.isFn K (.ref fEq) = true
  pNm_g : PySem.W.specialIn K (.ref pNm) "__get__" = some (some (.builtin "property.__get__"))
  pNm_t : PySem.W.takesIn K (.ref pNm) = some true
  pNm_r : ∃ rest, PySem.W.recIn K pNm "property" = some (Value.ref fNm :: rest)
  pRm_g : PySem.W.specialIn K (.ref pRm) "__get__" = some (some (.builtin "property.__get__"))
  pRm_t : PySem.W.takesIn K (.ref pRm) = some true
  pRm_r : ∃ rest, PySem.W.recIn K pRm "property" = some (Value.ref fRm :: rest)
  nfx : (PySem.W.notFirst K dU (.ref dM) && PySem.W.notFirst K dM (.ref dU) && PySem.W.notFirst K dD (.ref dU) && PySem.W.notFirst K dD (.ref dM)) = true
  ks : PySem.W.kitOne K (.type "str") (.ref CD) = some false
  kt : PySem.W.kitOne K (.type "tuple") (.ref CD) = some false
  kUU : PySem.W.kitOne K (.ref dU) (.ref dU) = some true
  kUM : PySem.W.kitOne K (.ref dU) (.ref dM) = some false
  kUD : PySem.W.kitOne K (.ref dU) (.ref dD) = some false
  kMU : PySem.W.kitOne K (.ref dM) (.ref dU) = some false
  kMM : PySem.W.kitOne K (.ref dM) (.ref dM) = some true
  kMD : PySem.W.kitOne K (.ref dM) (.ref dD) = some false
  kDU : PySem.W.kitOne K (.ref dD) (.ref dU) = some true
  kDM : PySem.W.kitOne K (.ref dD) (.ref dM) = some true
  kDD : PySem.W.kitOne K (.ref dD) (.ref dD) = some true
  sDU : PySem.W.subIn K (.ref dD) (.ref dU) = some true
  sDM : PySem.W.subIn K (.ref dD) (.ref dM) = some true
  neU : decide (dU = dD) = false
  neM : decide (dM = dD) = false
  gD : PySem.W.nsIn K mainGlobals "Deed" = some (some (.ref CD))
  rdCD : RdF K CD
  mostCD : ∃ t, PySem.W.findCls K (.ref CD) (.type "type") "MOST" = some (.val (.int 3 t))
  rddU : RdF K dU
  mostdU : ∃ t, PySem.W.findCls K (.ref dU) (.type "type") "MOST" = some (.val (.int 3 t))
  rddM : RdF K dM
  mostdM : ∃ t, PySem.W.findCls K (.ref dM) (.type "type") "MOST" = some (.val (.int 3 t))
  rddD : RdF K dD
  mostdD : ∃ t, PySem.W.findCls K (.ref dD) (.type "type") "MOST" = some (.val (.int 3 t))
  cm : CmF K CD "read" pRd fRd
  w_i0 : FnF K "__init__" "BadName.__init__" sI0 i0
  w_i1 : FnF K "__init__" "BadDeed.__init__" sI1 i1
  w_i2 : FnF K "__init__" "BadMove.__init__" sI2 i2
  w_i3 : FnF K "__init__" "BadNumber.__init__" sI3 i3
  w_i4 : FnF K "__init__" "BadPrice.__init__" sI4 i4
  w_i5 : FnF K "__init__" "BadPlace.__init__" sI5 i5
  w_i6 : FnF K "__init__" "BadPart.__init__" sI6 i6
  w_i7 : FnF K "__init__" "BadSlots.__init__" sI7 i7
  w_i8 : FnF K "__init__" "BadStanding.__init__" sI8 i8
  w_i9 : FnF K "__init__" "BadRule.__init__" sI9 i9
  w_i10 : FnF K "__init__" "Twice.__init__" sI10 i10
  w_i11 : FnF K "__init__" "TooMany.__init__" sI11 i11
  w_i12 : FnF K "__init__" "Unmade.__init__" sI12 i12
  w_i13 : FnF K "__init__" "MadeAgain.__init__" sI13 i13
  w_i14 : FnF K "__init__" "NoRoom.__init__" sI14 i14
  w_i15 : FnF K "__init__" "Crowded.__init__" sI15 i15
  w_i16 : FnF K "__init__" "Barred.__init__" sI16 i16
  w_i17 : FnF K "__init__" "BadPlan.__init__" sI17 i17
  w_i23 : FnF K "__init__" "BadText.__init__" sI23 i23
  w_i24 : FnF K "__init__" "BadLine.__init__" sI24 i24
  w_fU : FnF K "__init__" "Use.__init__" sUse fU
  w_fM : FnF K "__init__" "Make.__init__" sMake fM
  w_fD : FnF K "__init__" "Do.__init__" sDo fD
  w_fRd : FnF K "read" "Deed.read" sRead fRd
  w_fNm : FnF K "names" "Deed.names" sNames fNm
  w_fRm : FnF K "room" "Deed.room" sRoom fRm
  w_fStr : FnF K "__str__" "Deed.__str__" sDStr fStr
  w_fEq : FnF K "__eq__" "Deed.__eq__" sDEq fEq
  g_fIs : PySem.W.nsIn K mainGlobals "is_name" = some (some (.ref fIs))
  w_fIs : FnF K "is_name" "is_name" sIs fIs
  g_fCns : PySem.W.nsIn K mainGlobals "check_names" = some (some (.ref fCns))
  w_fCns : FnF K "check_names" "check_names" sCns fCns
  g_fCun : PySem.W.nsIn K mainGlobals "check_unlike" = some (some (.ref fCun))
  w_fCun : FnF K "check_unlike" "check_unlike" sCun fCun
  g_fAsc : PySem.W.nsIn K mainGlobals "ascending" = some (some (.ref fAsc))
  w_fAsc : FnF K "ascending" "ascending" sAsc fAsc
  g_fCus : PySem.W.nsIn K mainGlobals "check_used" = some (some (.ref fCus))
  w_fCus : FnF K "check_used" "check_used" sCus fCus
  g_fOf : PySem.W.nsIn K mainGlobals "deed_of" = some (some (.ref fOf))
  w_fOf : FnF K "deed_of" "deed_of" sOf fOf
  g_fPen : PySem.W.nsIn K mainGlobals "_law_pen" = some (some (.ref fPen))
  w_fPen : FnF K "_law_pen" "_law_pen" sPen fPen
  g_fDraw : PySem.W.nsIn K mainGlobals "_law_draw" = some (some (.ref fDraw))
  w_fDraw : FnF K "_law_draw" "_law_draw" sDraw fDraw
  g_fPick : PySem.W.nsIn K mainGlobals "_law_pick" = some (some (.ref fPick))
  w_fPick : FnF K "_law_pick" "_law_pick" sPick fPick
  g_fSome : PySem.W.nsIn K mainGlobals "_law_some" = some (some (.ref fSome))
  w_fSome : FnF K "_law_some" "_law_some" sSome fSome
  g_fNames : PySem.W.nsIn K mainGlobals "_law_names" = some (some (.ref fNames))
  w_fNames : FnF K "_law_names" "_law_names" sLNames fNames
  g_fReal : PySem.W.nsIn K mainGlobals "_law_real_deed" = some (some (.ref fReal))
  w_fReal : FnF K "_law_real_deed" "_law_real_deed" sReal fReal
  g_fLot : PySem.W.nsIn K mainGlobals "_law_lot" = some (some (.ref fLot))
  w_fLot : FnF K "_law_lot" "_law_lot" sLot fLot
  g_fText : PySem.W.nsIn K mainGlobals "_law_text" = some (some (.ref fText))
  w_fText : FnF K "_law_text" "_law_text" sText fText
  g_fRight : PySem.W.nsIn K mainGlobals "_law_right" = some (some (.ref fRight))
  w_fRight : FnF K "_law_right" "_law_right" sRight fRight
  g_fOdd : PySem.W.nsIn K mainGlobals "_law_odd" = some (some (.ref fOdd))
  w_fOdd : FnF K "_law_odd" "_law_odd" sOdd fOdd
  g_fErrs : PySem.W.nsIn K mainGlobals "_law_errors" = some (some (.ref fErrs))
  w_fErrs : FnF K "_law_errors" "_law_errors" sErrs fErrs
  g_fField : PySem.W.nsIn K mainGlobals "_law_field" = some (some (.ref fField))
  w_fField : FnF K "_law_field" "_law_field" sField fField
  g_fKinds : PySem.W.nsIn K mainGlobals "_law_kinds" = some (some (.ref fKinds))
  w_fKinds : FnF K "_law_kinds" "_law_kinds" sKinds fKinds
  g_fER : PySem.W.nsIn K mainGlobals "_law_errors_right" = some (some (.ref fER))
  w_fER : FnF K "_law_errors_right" "_law_errors_right" sER fER
  g_fLaw : PySem.W.nsIn K mainGlobals "law" = some (some (.ref fLaw))
  w_fLaw : FnF K "law" "law" sLaw fLaw
section
variable {K : PySem.W.Frag} {mg : Str → Option Value} {h : Heap} {CS CD pRd pNm pRm c0 c1 c2 c3 c4 c5 c6 c7 c8 c9 c10 c11 c12 c13 c14 c15 c16 c17 c18 c19 c20 c21 c22 c23 c24 dU dM dD i0 i1 i2 i3 i4 i5 i6 i7 i8 i9 i10 i11 i12 i13 i14 i15 i16 i17 i23 i24 fU fM fD fRd fNm fRm fStr fEq fIs fCns fCun fAsc fCus fOf fPen fDraw fPick fSome fNames fReal fLot fText fRight fOdd fErrs fField fKinds fER fLaw : Addr}
theorem HeadF.law {l : PySem.W.OpenLaw} {w : World} {fa : Addr} (D : HeadF K CS CD pRd pNm pRm c0 c1 c2 c3 c4 c5 c6 c7 c8 c9 c10 c11 c12 c13 c14 c15 c16 c17 c18 c19 c20 c21 c22 c23 c24 dU dM dD i0 i1 i2 i3 i4 i5 i6 i7 i8 i9 i10 i11 i12 i13 i14 i15 i16 i17 i23 i24 fU fM fD fRd fNm fRm fStr fEq fIs fCns fCun fAsc fCus fOf fPen fDraw fPick fSome fNames fReal fLot fText fRight fOdd fErrs fField fKinds fER fLaw) (X : K.In h) (G : h.Ns mainGlobals mg) (hfa : mg "law" = some (.ref fa)) : ∃ fd cs sp, LawG l w K 13 63 "_law_script" mg fa h fd cs sp := by
  have e := hfa.symm.trans (PySem.W.mg_of X G D.g_fLaw)
  cases e
  have TB : TxtB mg := ⟨PySem.W.mg_none_of X G D.n_int, PySem.W.mg_none_of X G D.n_len, PySem.W.mg_none_of X G D.n_abs, PySem.W.mg_none_of X G D.n_list, PySem.W.mg_none_of X G D.n_str, PySem.W.mg_none_of X G D.n_tuple, PySem.W.mg_none_of X G D.n_isinstance, PySem.W.mg_none_of X G D.n_repr, PySem.W.mg_none_of X G D.n_range, PySem.W.mg_none_of X G D.n_enumerate, PySem.W.mg_none_of X G D.n_ValueError⟩
  have TA : TxtA mg := ⟨PySem.W.mg_none_of X G D.n_set, PySem.W.mg_none_of X G D.n_sorted, PySem.W.mg_none_of X G D.n_tuple⟩
  have TEx : TxtE mg := ⟨PySem.W.mg_none_of X G D.n_LookupError, PySem.W.mg_none_of X G D.n_ArithmeticError, PySem.W.mg_none_of X G D.n_TypeError, PySem.W.mg_none_of X G D.n_RuntimeError, PySem.W.mg_none_of X G D.n_AttributeError⟩
  have TN : TxtN mg := ⟨let ⟨t, e⟩ := D.gLet; ⟨t, PySem.W.mg_of X G e⟩, let ⟨t, e⟩ := D.gMost; ⟨t, PySem.W.mg_of X G e⟩⟩
  obtain ⟨fd_i0, F_i0⟩ := D.w_i0.ex
  have b_i0 := F_i0.binds (ps := ["self", "value"]) fun _ _ _ _ _ _ us hl => match us, hl with | [_, _], _ => rfl
  obtain ⟨fd_i1, F_i1⟩ := D.w_i1.ex
  have b_i1 := F_i1.binds (ps := ["self", "value"]) fun _ _ _ _ _ _ us hl => match us, hl with | [_, _], _ => rfl
  obtain ⟨fd_i2, F_i2⟩ := D.w_i2.ex
  have b_i2 := F_i2.binds (ps := ["self", "value"]) fun _ _ _ _ _ _ us hl => match us, hl with | [_, _], _ => rfl
  obtain ⟨fd_i3, F_i3⟩ := D.w_i3.ex
  have b_i3 := F_i3.binds (ps := ["self", "value"]) fun _ _ _ _ _ _ us hl => match us, hl with | [_, _], _ => rfl
  obtain ⟨fd_i4, F_i4⟩ := D.w_i4.ex
  have b_i4 := F_i4.binds (ps := ["self", "value"]) fun _ _ _ _ _ _ us hl => match us, hl with | [_, _], _ => rfl
  obtain ⟨fd_i5, F_i5⟩ := D.w_i5.ex
  have b_i5 := F_i5.binds (ps := ["self", "value"]) fun _ _ _ _ _ _ us hl => match us, hl with | [_, _], _ => rfl
  obtain ⟨fd_i6, F_i6⟩ := D.w_i6.ex
  have b_i6 := F_i6.binds (ps := ["self", "part"]) fun _ _ _ _ _ _ us hl => match us, hl with | [_, _], _ => rfl
  obtain ⟨fd_i7, F_i7⟩ := D.w_i7.ex
  have b_i7 := F_i7.binds (ps := ["self", "value"]) fun _ _ _ _ _ _ us hl => match us, hl with | [_, _], _ => rfl
  obtain ⟨fd_i8, F_i8⟩ := D.w_i8.ex
  have b_i8 := F_i8.binds (ps := ["self", "value"]) fun _ _ _ _ _ _ us hl => match us, hl with | [_, _], _ => rfl
  obtain ⟨fd_i9, F_i9⟩ := D.w_i9.ex
  have b_i9 := F_i9.binds (ps := ["self", "value"]) fun _ _ _ _ _ _ us hl => match us, hl with | [_, _], _ => rfl
  obtain ⟨fd_i10, F_i10⟩ := D.w_i10.ex
  have b_i10 := F_i10.binds (ps := ["self", "name"]) fun _ _ _ _ _ _ us hl => match us, hl with | [_, _], _ => rfl
  obtain ⟨fd_i11, F_i11⟩ := D.w_i11.ex
  have b_i11 := F_i11.binds (ps := ["self", "most"]) fun _ _ _ _ _ _ us hl => match us, hl with | [_, _], _ => rfl
  obtain ⟨fd_i12, F_i12⟩ := D.w_i12.ex
  have b_i12 := F_i12.binds (ps := ["self", "place", "name"]) fun _ _ _ _ _ _ us hl => match us, hl with | [_, _, _], _ => rfl
  obtain ⟨fd_i13, F_i13⟩ := D.w_i13.ex
  have b_i13 := F_i13.binds (ps := ["self", "place", "name"]) fun _ _ _ _ _ _ us hl => match us, hl with | [_, _, _], _ => rfl
  obtain ⟨fd_i14, F_i14⟩ := D.w_i14.ex
  have b_i14 := F_i14.binds (ps := ["self", "place"]) fun _ _ _ _ _ _ us hl => match us, hl with | [_, _], _ => rfl
  obtain ⟨fd_i15, F_i15⟩ := D.w_i15.ex
  have b_i15 := F_i15.binds (ps := ["self", "place"]) fun _ _ _ _ _ _ us hl => match us, hl with | [_, _], _ => rfl
  obtain ⟨fd_i16, F_i16⟩ := D.w_i16.ex
  have b_i16 := F_i16.binds (ps := ["self", "word", "name"]) fun _ _ _ _ _ _ us hl => match us, hl with | [_, _, _], _ => rfl
  obtain ⟨fd_i17, F_i17⟩ := D.w_i17.ex
  have b_i17 := F_i17.binds (ps := ["self", "at", "index", "word", "name"]) fun _ _ _ _ _ _ us hl => match us, hl with | [_, _, _, _, _], _ => rfl
  obtain ⟨fd_i23, F_i23⟩ := D.w_i23.ex
  have b_i23 := F_i23.binds (ps := ["self", "line", "word"]) fun _ _ _ _ _ _ us hl => match us, hl with | [_, _, _], _ => rfl
  obtain ⟨fd_i24, F_i24⟩ := D.w_i24.ex
  have b_i24 := F_i24.binds (ps := ["self", "word"]) fun _ _ _ _ _ _ us hl => match us, hl with | [_, _], _ => rfl
  obtain ⟨fd_fU, F_fU⟩ := D.w_fU.ex
  obtain ⟨fd_fM, F_fM⟩ := D.w_fM.ex
  have b_fM := F_fM.binds (ps := ["self", "name"]) fun _ _ _ _ _ _ us hl => match us, hl with | [_, _], _ => rfl
  obtain ⟨fd_fD, F_fD⟩ := D.w_fD.ex
  obtain ⟨fd_fRd, F_fRd⟩ := D.w_fRd.ex
  have b_fRd := F_fRd.binds (ps := ["cls", "text"]) fun _ _ _ _ _ _ us hl => match us, hl with | [_, _], _ => rfl
  obtain ⟨fd_fNm, F_fNm⟩ := D.w_fNm.ex
  have b_fNm := F_fNm.binds (ps := ["self"]) fun _ _ _ _ _ _ us hl => match us, hl with | [_], _ => rfl
  obtain ⟨fd_fRm, F_fRm⟩ := D.w_fRm.ex
  have b_fRm := F_fRm.binds (ps := ["self"]) fun _ _ _ _ _ _ us hl => match us, hl with | [_], _ => rfl
  obtain ⟨fd_fStr, F_fStr⟩ := D.w_fStr.ex
  have b_fStr := F_fStr.binds (ps := ["self"]) fun _ _ _ _ _ _ us hl => match us, hl with | [_], _ => rfl
  obtain ⟨fd_fEq, F_fEq⟩ := D.w_fEq.ex
  have b_fEq := F_fEq.binds (ps := ["self", "other"]) fun _ _ _ _ _ _ us hl => match us, hl with | [_, _], _ => rfl
  obtain ⟨fd_fIs, F_fIs⟩ := D.w_fIs.ex
  have b_fIs := F_fIs.binds (ps := ["value"]) fun _ _ _ _ _ _ us hl => match us, hl with | [_], _ => rfl
  obtain ⟨fd_fCns, F_fCns⟩ := D.w_fCns.ex
  have b_fCns := F_fCns.binds (ps := ["values"]) fun _ _ _ _ _ _ us hl => match us, hl with | [_], _ => rfl
  obtain ⟨fd_fCun, F_fCun⟩ := D.w_fCun.ex
  have b_fCun := F_fCun.binds (ps := ["names"]) fun _ _ _ _ _ _ us hl => match us, hl with | [_], _ => rfl
  obtain ⟨fd_fAsc, F_fAsc⟩ := D.w_fAsc.ex
  have b_fAsc := F_fAsc.binds (ps := ["names"]) fun _ _ _ _ _ _ us hl => match us, hl with | [_], _ => rfl
  obtain ⟨fd_fCus, F_fCus⟩ := D.w_fCus.ex
  have b_fCus := F_fCus.binds (ps := ["names"]) fun _ _ _ _ _ _ us hl => match us, hl with | [_], _ => rfl
  obtain ⟨fd_fOf, F_fOf⟩ := D.w_fOf.ex
  have b_fOf := F_fOf.binds (ps := ["word", "names"]) fun _ _ _ _ _ _ us hl => match us, hl with | [_, _], _ => rfl
  obtain ⟨fd_fPen, F_fPen⟩ := D.w_fPen.ex
  have b_fPen := F_fPen.binds (ps := ["_law_script"]) fun _ _ _ _ _ _ us hl => match us, hl with | [_], _ => rfl
  obtain ⟨fd_fDraw, F_fDraw⟩ := D.w_fDraw.ex
  have b_fDraw := F_fDraw.binds (ps := ["_law_pen_here", "_law_many"]) fun _ _ _ _ _ _ us hl => match us, hl with | [_, _], _ => rfl
  obtain ⟨fd_fPick, F_fPick⟩ := D.w_fPick.ex
  have b_fPick := F_fPick.binds (ps := ["_law_pen_here", "_law_some_here"]) fun _ _ _ _ _ _ us hl => match us, hl with | [_, _], _ => rfl
  obtain ⟨fd_fSome, F_fSome⟩ := D.w_fSome.ex
  have b_fSome := F_fSome.binds (ps := ["_law_pen_here", "_law_pool", "_law_least", "_law_most"]) fun _ _ _ _ _ _ us hl => match us, hl with | [_, _, _, _], _ => rfl
  obtain ⟨fd_fNames, F_fNames⟩ := D.w_fNames.ex
  have b_fNames := F_fNames.binds (ps := ["_law_pen_here", "_law_many"]) fun _ _ _ _ _ _ us hl => match us, hl with | [_, _], _ => rfl
  obtain ⟨fd_fReal, F_fReal⟩ := D.w_fReal.ex
  have b_fReal := F_fReal.binds (ps := ["_law_made", "_law_used"]) fun _ _ _ _ _ _ us hl => match us, hl with | [_, _], _ => rfl
  obtain ⟨fd_fLot, F_fLot⟩ := D.w_fLot.ex
  have b_fLot := F_fLot.binds (ps := ["_law_pen_here", "_law_known"]) fun _ _ _ _ _ _ us hl => match us, hl with | [_, _], _ => rfl
  obtain ⟨fd_fText, F_fText⟩ := D.w_fText.ex
  have b_fText := F_fText.binds (ps := ["_law_made", "_law_used"]) fun _ _ _ _ _ _ us hl => match us, hl with | [_, _], _ => rfl
  obtain ⟨fd_fRight, F_fRight⟩ := D.w_fRight.ex
  have b_fRight := F_fRight.binds (ps := ["_law_made", "_law_used"]) fun _ _ _ _ _ _ us hl => match us, hl with | [_, _], _ => rfl
  obtain ⟨fd_fOdd, F_fOdd⟩ := D.w_fOdd.ex
  have b_fOdd := F_fOdd.binds (ps := ["_law_pen_here"]) fun _ _ _ _ _ _ us hl => match us, hl with | [_], _ => rfl
  obtain ⟨fd_fErrs, F_fErrs⟩ := D.w_fErrs.ex
  have b_fErrs := F_fErrs.binds (ps := ["_law_a", "_law_b", "_law_c", "_law_d"]) fun _ _ _ _ _ _ us hl => match us, hl with | [_, _, _, _], _ => rfl
  obtain ⟨fd_fField, F_fField⟩ := D.w_fField.ex
  have b_fField := F_fField.binds (ps := ["_law_error", "_law_sort"]) fun _ _ _ _ _ _ us hl => match us, hl with | [_, _], _ => rfl
  obtain ⟨fd_fKinds, F_fKinds⟩ := D.w_fKinds.ex
  have b_fKinds := F_fKinds.binds (ps := ["_law_error"]) fun _ _ _ _ _ _ us hl => match us, hl with | [_], _ => rfl
  obtain ⟨fd_fER, F_fER⟩ := D.w_fER.ex
  have b_fER := F_fER.binds (ps := ["_law_pen_here"]) fun _ _ _ _ _ _ us hl => match us, hl with | [_], _ => rfl
  obtain ⟨fd_fLaw, F_fLaw⟩ := D.w_fLaw.ex
  have b_fLaw := F_fLaw.binds (ps := ["_law_script"]) fun _ _ _ _ _ _ us hl => match us, hl with | [_], _ => rfl
  have b_L : ∀ (t : Shared) (u : Value), BindsTo t fd_fLaw ⟨[u], []⟩ [("_law_script", u)] := by
    obtain ⟨oc, od, kV, doc, pm, an, cdv, ct, osl, rfl, lk, hcd⟩ := F_fLaw.ex
    exact fun t u => .of_eq rfl
  have b_RK : ∀ (s : Shared) (us : List Value), us.length + 1 = ["cls", "text"].length → BindsTo s fd_fRd ⟨[.ref CD], (["text"] : List Str).zip us⟩ ((["cls", "text"] : List Str).zip (.ref CD :: us)) := by
    obtain ⟨oc, od, kV, doc, pm, an, cdv, ct, osl, rfl, lk, hcd⟩ := F_fRd.ex
    exact fun s us hl => match us, hl with | [u], _ => .of_eq rfl
  have k_M : KBn K fd_fM ["self", "name"] 1 ["name"] (fun us ws => us ++ ws) (fun vs zs => vs ++ zs) := by
    obtain ⟨oc, od, kV, doc, pm, an, cdv, ct, osl, rfl, lk, hcd⟩ := F_fM.ex
    exact ⟨fun s us ws _ hu hw => match us, ws, hu, hw with | [u], [v], _, _ => .of_eq rfl, fun h1 h2 => h1.append h2⟩
  have dcs : Dcs K mg ⟨dU, dM, dD⟩ fU fM fD :=
    { mu := D.kU.mak, mm := D.kM.mak, md := D.kD.mak, gu := PySem.W.mg_of X G D.kU.g, gm := PySem.W.mg_of X G D.kM.g, gd := PySem.W.mg_of X G D.kD.g
      du := ⟨D.kU.cls, D.kU_uses, D.kU_makes, D.kU_names⟩, dm := ⟨D.kM.cls, D.kM_uses, D.kM_makes, D.kM_names⟩, dd := ⟨D.kD.cls, D.kD_uses, D.kD_makes, D.kD_names⟩ }
  have k3 : D3C K ⟨dU, dM, dD⟩ := ⟨dcs.du, dcs.dm, dcs.dd⟩
  have gD := PySem.W.mg_of X G D.gD
  have ty : DTy K ⟨dU, dM, dD⟩ CD := ⟨D.base.hn, D.base.ht, ⟨D.kU_cl, D.kU_ob⟩, ⟨D.kM_cl, D.kM_ob⟩, ⟨D.kD_cl, D.kD_ob⟩, D.kU_CD, D.kM_CD, D.kD_CD⟩
  have deedC : DeedC K mg CD := ⟨gD, let ⟨t, e⟩ := D.mostCD; ⟨.type "type", _, ⟨D.rdCD.rd, D.rdCD.ga⟩, ⟨e, ⟨_, rfl⟩⟩⟩⟩
  have stow : Stow K mg ⟨c0, c10, c11, c1⟩ CS := ⟨PySem.W.mg_of X G D.base.g, D.e0.exm D.base, D.e10.exm D.base, D.e11.exm D.base, D.e1.exm D.base⟩
  refine ⟨fd_fLaw, [], spLaw K, ⟨nofun, nofun, nofun, b_L, fun H a ns hl hT hS => ⟨a, ns, rfl, hS, fun H' => rfl⟩, fun base Xb Gb TBs SB => ?_⟩⟩
  have c_fDraw : C8.Cal l.prog w K mg base 1 "_law_draw" spDraw [] := ⟨_, _, _, _, ok_draw F_fDraw TB, PySem.W.mg_of X G D.g_fDraw, F_fDraw.kp, b_fDraw, .nil⟩
  have c_fPen : C8.Cal l.prog w K mg base 1 "_law_pen" (spPen K) [] := ⟨_, _, _, _, ok_pen F_fPen TB, PySem.W.mg_of X G D.g_fPen, F_fPen.kp, b_fPen, .nil⟩
  have c_fPick : C8.Cal l.prog w K mg base 2 "_law_pick" (spPick K) [] := ⟨_, _, _, _, ok_pick F_fPick TB c_fDraw, PySem.W.mg_of X G D.g_fPick, F_fPick.kp, b_fPick, .nil⟩
  have c_fIs : C8.Cal l.prog w K mg base 1 "is_name" (spIs K) [] := ⟨_, _, _, _, ok_is F_fIs TB TN, PySem.W.mg_of X G D.g_fIs, F_fIs.kp, b_fIs, .nil⟩
  have EN : ErrC l.prog w K mg base "BadName" "value" c0 i0 := ⟨D.e0.O, D.e0.i, D.e0.t, ⟨_, ok_errN F_i0, b_i0⟩, PySem.W.mg_of X G D.e0.g, D.e0.v⟩
  have ED : ErrC l.prog w K mg base "BadDeed" "value" c1 i1 := ⟨D.e1.O, D.e1.i, D.e1.t, ⟨_, ok_errD F_i1, b_i1⟩, PySem.W.mg_of X G D.e1.g, D.e1.v⟩
  have ET : ErrC l.prog w K mg base "Twice" "name" c10 i10 := ⟨D.e10.O, D.e10.i, D.e10.t, ⟨_, ok_errT F_i10, b_i10⟩, PySem.W.mg_of X G D.e10.g, D.e10.v⟩
  have EM : ErrC l.prog w K mg base "TooMany" "most" c11 i11 := ⟨D.e11.O, D.e11.i, D.e11.t, ⟨_, ok_errM F_i11, b_i11⟩, PySem.W.mg_of X G D.e11.g, D.e11.v⟩
  have c_fCns : CalL l.prog w K mg base 3 "check_names" (spCns K c0) := ⟨⟨_, _, _, ok_cns F_fCns c_fIs EN, PySem.W.mg_of X G D.g_fCns, F_fCns.kp, b_fCns⟩⟩
  have c_fCun : CalL l.prog w K mg base 3 "check_unlike" (spCun K c10) := ⟨⟨_, _, _, ok_cun F_fCun ET, PySem.W.mg_of X G D.g_fCun, F_fCun.kp, b_fCun⟩⟩
  have c_fCus : CalL l.prog w K mg base 4 "check_used" (spCus K ⟨c0, c10, c11, c1⟩) := ⟨⟨_, _, _, ok_cus (fT := i10) F_fCus TB c_fCun deedC EM ED, PySem.W.mg_of X G D.g_fCus, F_fCus.kp, b_fCus⟩⟩
  have c_fAsc : C8.Cal l.prog w K mg base 1 "ascending" (spAsc K) [] := ⟨_, _, _, _, ok_asc F_fAsc TA, PySem.W.mg_of X G D.g_fAsc, F_fAsc.kp, b_fAsc, .nil⟩
  have cks : Cks l.prog w K mg base ⟨c0, c10, c11, c1⟩ := ⟨c_fCns, c_fCus, c_fAsc⟩
  have OU : FnR l.prog w K mg base (L2N.CX l.prog w) 5 fU (spUse K ⟨c0, c10, c11, c1⟩) := ok_use cks F_fU
  have OD : FnR l.prog w K mg base (L2N.CX l.prog w) 5 fD (spDo K ⟨c0, c10, c11, c1⟩) := ok_do cks F_fD
  have OM : FnOk l.prog w K mg base (L2N.CX l.prog w) 4 fM fd_fM ["self", "name"] (spMake K ⟨c0, c10, c11, c1⟩) := ok_make cks F_fM
  have c_fOf : CalL l.prog w K mg base 7 "deed_of" (spOf K ⟨c0, c10, c11, c1⟩ ⟨dU, dM, dD⟩) := ⟨⟨_, _, _, ok_of F_fOf TB dcs OU OM b_fM OD ED, PySem.W.mg_of X G D.g_fOf, F_fOf.kp, b_fOf⟩⟩
  have EH : ErrH l.prog w K mg base c1 i1 := ⟨⟨_, ok_errDH F_i1, b_i1⟩⟩
  have ORd : FnOk l.prog w K mg base (L2.CX l.prog w) 8 fRd fd_fRd ["cls", "text"] (spRd K ⟨c0, c10, c11, c1⟩ ⟨dU, dM, dD⟩) := ok_read F_fRd TB c_fOf ED EH stow
  have pN1 : PropOf K dU "names" pNm fNm := ⟨D.kU_nm, D.pNm_g, D.pNm_t, D.pNm_r⟩
  have pN2 : PropOf K dM "names" pNm fNm := ⟨D.kM_nm, D.pNm_g, D.pNm_t, D.pNm_r⟩
  have pN3 : PropOf K dD "names" pNm fNm := ⟨D.kD_nm, D.pNm_g, D.pNm_t, D.pNm_r⟩
  have pR1 : PropOf K dU "room" pRm fRm := ⟨D.kU_rm, D.pRm_g, D.pRm_t, D.pRm_r⟩
  have pR2 : PropOf K dM "room" pRm fRm := ⟨D.kM_rm, D.pRm_g, D.pRm_t, D.pRm_r⟩
  have pR3 : PropOf K dD "room" pRm fRm := ⟨D.kD_rm, D.pRm_g, D.pRm_t, D.pRm_r⟩
  have q1 : NX.EqC K dU fEq := ⟨D.kU.cls, D.kU_eq, D.kU_ne, D.fnE, D.kU_ob⟩
  have q2 : NX.EqC K dM fEq := ⟨D.kM.cls, D.kM_eq, D.kM_ne, D.fnE, D.kM_ob⟩
  have q3 : NX.EqC K dD fEq := ⟨D.kD.cls, D.kD_eq, D.kD_ne, D.fnE, D.kD_ob⟩
  have ONm : FnOk l.prog w K mg base CX0 1 fNm fd_fNm ["self"] (spNames K ⟨dU, dM, dD⟩) := ok_names F_fNm k3
  have ORm : FnOk l.prog w K mg base CX0 3 fRm fd_fRm ["self"] (spRoom K ⟨dU, dM, dD⟩) := ok_room F_fRm TB k3 pN1 pN2 pN3 ONm b_fNm
  have OSt : FnOk l.prog w K mg base CX0 1 fStr fd_fStr ["self"] (spDStr ⟨dU, dM, dD⟩) := ok_dstr F_fStr k3
  have OEq : FnOk l.prog w K mg base CX0 1 fEq fd_fEq ["self", "other"] (spDEq K ⟨dU, dM, dD⟩ CD) := ok_deq F_fEq TB k3 ty gD
  have c_fSome : C8.Cal l.prog w K mg base 2 "_law_some" (spSome K) [] := ⟨_, _, _, _, ok_some F_fSome TB (PySem.W.mg_none_of X G D.n_min) c_fDraw, PySem.W.mg_of X G D.g_fSome, F_fSome.kp, b_fSome, .nil⟩
  have c_fNames : C8.Cal l.prog w K mg base 3 "_law_names" spLNames [] := ⟨_, _, _, _, ok_lnames F_fNames c_fPick c_fSome, PySem.W.mg_of X G D.g_fNames, F_fNames.kp, b_fNames, .nil⟩
  have c_fLot : C8.Cal l.prog w K mg base 3 "_law_lot" spLot [] := ⟨_, _, _, _, ok_lot F_fLot c_fDraw c_fPick c_fSome, PySem.W.mg_of X G D.g_fLot, F_fLot.kp, b_fLot, .nil⟩
  have c_fText : C8.Cal l.prog w K mg base 1 "_law_text" (spText K) [] := ⟨_, _, _, _, ok_text F_fText, PySem.W.mg_of X G D.g_fText, F_fText.kp, b_fText, .nil⟩
  have c_fReal : C8.Cal l.prog w K mg base 7 "_law_real_deed" (spReal K ⟨dU, dM, dD⟩) [] := ⟨_, _, _, _, ok_real F_fReal TB dcs (NN.fnR_less OU) (NN.fnOk_less OM) b_fM (NN.fnR_less OD), PySem.W.mg_of X G D.g_fReal, F_fReal.kp, b_fReal, .nil⟩
  have and3 : ∀ {a b c : Bool}, (a && b && c) = true → a = true ∧ b = true ∧ c = true := fun {a b c} h => by cases a <;> cases b <;> cases c <;> simp_all
  have and4 : ∀ {a b c d : Bool}, (a && b && c && d) = true → a = true ∧ b = true ∧ c = true ∧ d = true := fun {a b c d} h => by cases a <;> cases b <;> cases c <;> cases d <;> simp_all
  obtain ⟨nU, nU2, nU3⟩ := and3 D.kU_nf
  obtain ⟨nM, nM2, nM3⟩ := and3 D.kM_nf
  obtain ⟨nD, nD2, nD3⟩ := and3 D.kD_nf
  obtain ⟨x1, x2, x3, x4⟩ := and4 D.nfx
  have RX : RTxt l.prog w K mg base ⟨c0, c10, c11, c1⟩ ⟨dU, dM, dD⟩ CD fU fM fD :=
    { T := TB, TA := TA, D := dcs, k3 := k3, ty := ty, gD := gD, sys := SB, real := c_fReal, text := c_fText
      nm_ := ⟨pNm, fNm, fd_fNm, ONm, b_fNm, pN1, pN2, pN3⟩
      rm := ⟨pRm, fRm, fd_fRm, ORm, b_fRm, pR1, pR2, pR3⟩
      st := ⟨fStr, fd_fStr, OSt, b_fStr, ⟨D.kU_str, D.fnS⟩, ⟨D.kM_str, D.fnS⟩, ⟨D.kD_str, D.fnS⟩⟩
      eq := ⟨fEq, fd_fEq, OEq, b_fEq, q1, q2, q3⟩
      rd := ⟨.type "type", ⟨D.rdCD.rd, D.rdCD.ga⟩, pRd, fRd, ⟨D.cm.at_, D.cm.rc, D.cm.fi⟩, fd_fRd, ORd, b_fRd, b_RK⟩
      nf := fun C hC => by
        rcases hC with rfl | rfl | rfl
        · exact ⟨nU, nU2, nU3⟩
        · exact ⟨nM, nM2, nM3⟩
        · exact ⟨nD, nD2, nD3⟩
      ks := D.ks, kt := D.kt, uu := D.kUU, um := D.kUM, ud := D.kUD, mu := D.kMU, mm := D.kMM, md := D.kMD, du := D.kDU, dm := D.kDM, dd := D.kDD }
  have aS : ∀ i, i < 25 → PySem.W.kitOne K (.ref (csOf [c0, c1, c2, c3, c4, c5, c6, c7, c8, c9, c10, c11, c12, c13, c14, c15, c16, c17, c18, c19, c20, c21, c22, c23, c24] i)) (.ref CS) = some true := fun i hi => eq_of_beq (List.all_eq_true.mp D.aS i (List.mem_range.mpr hi))
  have aV : ∀ i, i < 25 → PySem.W.kitOne K (.ref (csOf [c0, c1, c2, c3, c4, c5, c6, c7, c8, c9, c10, c11, c12, c13, c14, c15, c16, c17, c18, c19, c20, c21, c22, c23, c24] i)) (.type "ValueError") = some true := fun i hi => eq_of_beq (List.all_eq_true.mp D.aV i (List.mem_range.mpr hi))
  have aK : ∀ i, i < 25 → ∀ j, j < 25 → PySem.W.kitOne K (.ref (csOf [c0, c1, c2, c3, c4, c5, c6, c7, c8, c9, c10, c11, c12, c13, c14, c15, c16, c17, c18, c19, c20, c21, c22, c23, c24] i)) (.ref (csOf [c0, c1, c2, c3, c4, c5, c6, c7, c8, c9, c10, c11, c12, c13, c14, c15, c16, c17, c18, c19, c20, c21, c22, c23, c24] j)) = some (decide (i = j)) := fun i hi j hj => eq_of_beq (List.all_eq_true.mp (List.all_eq_true.mp D.aK i (List.mem_range.mpr hi)) j (List.mem_range.mpr hj))
  have aT : ∀ i, i < 25 → PySem.W.kitAny K (.ref (csOf [c0, c1, c2, c3, c4, c5, c6, c7, c8, c9, c10, c11, c12, c13, c14, c15, c16, c17, c18, c19, c20, c21, c22, c23, c24] i)) [.type "LookupError", .type "ArithmeticError", .type "TypeError", .type "RuntimeError", .type "AttributeError"] = some false := fun i hi => eq_of_beq (List.all_eq_true.mp D.aT i (List.mem_range.mpr hi))
  have EX : Errs l.prog w K mg base CS (csOf [c0, c1, c2, c3, c4, c5, c6, c7, c8, c9, c10, c11, c12, c13, c14, c15, c16, c17, c18, c19, c20, c21, c22, c23, c24]) :=
    { e0 := ⟨D.e0.O, PySem.W.mg_of X G D.e0.g, fun f hf => by
        simp only [List.mem_cons, List.not_mem_nil, or_false] at hf
        subst hf
        exact D.e0.v, D.e0.xf, ⟨_, _, D.e0.i, D.e0.t, ok_i0 F_i0, b_i0⟩⟩
      e1 := ⟨D.e1.O, PySem.W.mg_of X G D.e1.g, fun f hf => by
        simp only [List.mem_cons, List.not_mem_nil, or_false] at hf
        subst hf
        exact D.e1.v, D.e1.xf, ⟨_, _, D.e1.i, D.e1.t, ok_i1 F_i1, b_i1⟩⟩
      e2 := ⟨D.e2.O, PySem.W.mg_of X G D.e2.g, fun f hf => by
        simp only [List.mem_cons, List.not_mem_nil, or_false] at hf
        subst hf
        exact D.e2.v, D.e2.xf, ⟨_, _, D.e2.i, D.e2.t, ok_i2 F_i2, b_i2⟩⟩
      e3 := ⟨D.e3.O, PySem.W.mg_of X G D.e3.g, fun f hf => by
        simp only [List.mem_cons, List.not_mem_nil, or_false] at hf
        subst hf
        exact D.e3.v, D.e3.xf, ⟨_, _, D.e3.i, D.e3.t, ok_i3 F_i3, b_i3⟩⟩
      e4 := ⟨D.e4.O, PySem.W.mg_of X G D.e4.g, fun f hf => by
        simp only [List.mem_cons, List.not_mem_nil, or_false] at hf
        subst hf
        exact D.e4.v, D.e4.xf, ⟨_, _, D.e4.i, D.e4.t, ok_i4 F_i4, b_i4⟩⟩
      e5 := ⟨D.e5.O, PySem.W.mg_of X G D.e5.g, fun f hf => by
        simp only [List.mem_cons, List.not_mem_nil, or_false] at hf
        subst hf
        exact D.e5.v, D.e5.xf, ⟨_, _, D.e5.i, D.e5.t, ok_i5 F_i5, b_i5⟩⟩
      e6 := ⟨D.e6.O, PySem.W.mg_of X G D.e6.g, fun f hf => by
        simp only [List.mem_cons, List.not_mem_nil, or_false] at hf
        subst hf
        exact D.e6.v, D.e6.xf, ⟨_, _, D.e6.i, D.e6.t, ok_i6 F_i6, b_i6⟩⟩
      e7 := ⟨D.e7.O, PySem.W.mg_of X G D.e7.g, fun f hf => by
        simp only [List.mem_cons, List.not_mem_nil, or_false] at hf
        subst hf
        exact D.e7.v, D.e7.xf, ⟨_, _, D.e7.i, D.e7.t, ok_i7 F_i7, b_i7⟩⟩
      e8 := ⟨D.e8.O, PySem.W.mg_of X G D.e8.g, fun f hf => by
        simp only [List.mem_cons, List.not_mem_nil, or_false] at hf
        subst hf
        exact D.e8.v, D.e8.xf, ⟨_, _, D.e8.i, D.e8.t, ok_i8 F_i8, b_i8⟩⟩
      e9 := ⟨D.e9.O, PySem.W.mg_of X G D.e9.g, fun f hf => by
        simp only [List.mem_cons, List.not_mem_nil, or_false] at hf
        subst hf
        exact D.e9.v, D.e9.xf, ⟨_, _, D.e9.i, D.e9.t, ok_i9 F_i9, b_i9⟩⟩
      e10 := ⟨D.e10.O, PySem.W.mg_of X G D.e10.g, fun f hf => by
        simp only [List.mem_cons, List.not_mem_nil, or_false] at hf
        subst hf
        exact D.e10.v, D.e10.xf, ⟨_, _, D.e10.i, D.e10.t, ok_i10 F_i10, b_i10⟩⟩
      e11 := ⟨D.e11.O, PySem.W.mg_of X G D.e11.g, fun f hf => by
        simp only [List.mem_cons, List.not_mem_nil, or_false] at hf
        subst hf
        exact D.e11.v, D.e11.xf, ⟨_, _, D.e11.i, D.e11.t, ok_i11 F_i11, b_i11⟩⟩
      e12 := ⟨D.e12.O, PySem.W.mg_of X G D.e12.g, fun f hf => by
        simp only [List.mem_cons, List.not_mem_nil, or_false] at hf
        rcases hf with rfl | rfl
        · exact D.e12.v
        · exact D.v12_name, D.e12.xf, ⟨_, _, D.e12.i, D.e12.t, ok_i12 F_i12, b_i12⟩⟩
      e13 := ⟨D.e13.O, PySem.W.mg_of X G D.e13.g, fun f hf => by
        simp only [List.mem_cons, List.not_mem_nil, or_false] at hf
        rcases hf with rfl | rfl
        · exact D.e13.v
        · exact D.v13_name, D.e13.xf, ⟨_, _, D.e13.i, D.e13.t, ok_i13 F_i13, b_i13⟩⟩
      e14 := ⟨D.e14.O, PySem.W.mg_of X G D.e14.g, fun f hf => by
        simp only [List.mem_cons, List.not_mem_nil, or_false] at hf
        subst hf
        exact D.e14.v, D.e14.xf, ⟨_, _, D.e14.i, D.e14.t, ok_i14 F_i14, b_i14⟩⟩
      e15 := ⟨D.e15.O, PySem.W.mg_of X G D.e15.g, fun f hf => by
        simp only [List.mem_cons, List.not_mem_nil, or_false] at hf
        subst hf
        exact D.e15.v, D.e15.xf, ⟨_, _, D.e15.i, D.e15.t, ok_i15 F_i15, b_i15⟩⟩
      e16 := ⟨D.e16.O, PySem.W.mg_of X G D.e16.g, fun f hf => by
        simp only [List.mem_cons, List.not_mem_nil, or_false] at hf
        rcases hf with rfl | rfl
        · exact D.e16.v
        · exact D.v16_name, D.e16.xf, ⟨_, _, D.e16.i, D.e16.t, ok_i16 F_i16, b_i16⟩⟩
      e17 := ⟨D.e17.O, PySem.W.mg_of X G D.e17.g, fun f hf => by
        simp only [List.mem_cons, List.not_mem_nil, or_false] at hf
        rcases hf with rfl | rfl | rfl | rfl
        · exact D.e17.v
        · exact D.v17_index
        · exact D.v17_word
        · exact D.v17_name, D.e17.xf, ⟨_, _, D.e17.i, D.e17.t, ok_i17 F_i17, b_i17⟩⟩
      e18 := ⟨PySem.W.mg_of X G D.g18, D.q18, D.p18⟩
      e19 := ⟨PySem.W.mg_of X G D.g19, D.q19, D.p19⟩
      e20 := ⟨PySem.W.mg_of X G D.g20, D.q20, D.p20⟩
      e21 := ⟨PySem.W.mg_of X G D.g21, D.q21, D.p21⟩
      e22 := ⟨PySem.W.mg_of X G D.g22, D.q22, D.p22⟩
      e23 := ⟨D.e23.O, PySem.W.mg_of X G D.e23.g, fun f hf => by
        simp only [List.mem_cons, List.not_mem_nil, or_false] at hf
        rcases hf with rfl | rfl
        · exact D.e23.v
        · exact D.v23_word, D.e23.xf, ⟨_, _, D.e23.i, D.e23.t, ok_i23 F_i23, b_i23⟩⟩
      e24 := ⟨D.e24.O, PySem.W.mg_of X G D.e24.g, fun f hf => by
        simp only [List.mem_cons, List.not_mem_nil, or_false] at hf
        subst hf
        exact D.e24.v, D.e24.xf, ⟨_, _, D.e24.i, D.e24.t, ok_i24 F_i24, b_i24⟩⟩
      gS := PySem.W.mg_of X G D.base.g
      ec := fun i hi => match i, hi with
        | 0, _ => D.e0.ec D.base
        | 1, _ => D.e1.ec D.base
        | 2, _ => D.e2.ec D.base
        | 3, _ => D.e3.ec D.base
        | 4, _ => D.e4.ec D.base
        | 5, _ => D.e5.ec D.base
        | 6, _ => D.e6.ec D.base
        | 7, _ => D.e7.ec D.base
        | 8, _ => D.e8.ec D.base
        | 9, _ => D.e9.ec D.base
        | 10, _ => D.e10.ec D.base
        | 11, _ => D.e11.ec D.base
        | 12, _ => D.e12.ec D.base
        | 13, _ => D.e13.ec D.base
        | 14, _ => D.e14.ec D.base
        | 15, _ => D.e15.ec D.base
        | 16, _ => D.e16.ec D.base
        | 17, _ => D.e17.ec D.base
        | 18, _ => ⟨D.ga18, D.gg18, D.ex18, D.hd18, D.cl18, D.base.hn, D.base.ht, D.ob18⟩
        | 19, _ => ⟨D.ga19, D.gg19, D.ex19, D.hd19, D.cl19, D.base.hn, D.base.ht, D.ob19⟩
        | 20, _ => ⟨D.ga20, D.gg20, D.ex20, D.hd20, D.cl20, D.base.hn, D.base.ht, D.ob20⟩
        | 21, _ => ⟨D.ga21, D.gg21, D.ex21, D.hd21, D.cl21, D.base.hn, D.base.ht, D.ob21⟩
        | 22, _ => ⟨D.ga22, D.gg22, D.ex22, D.hd22, D.cl22, D.base.hn, D.base.ht, D.ob22⟩
        | 23, _ => D.e23.ec D.base
        | 24, _ => D.e24.ec D.base
        | n + 25, hi => absurd hi (by omega)
      sS := aS
      sV := aV
      kk := aK
      kt := aT }
  have c_fOdd : C8.Cal l.prog w K mg base 3 "_law_odd" spOdd [] := ⟨_, _, _, _, ok_odd F_fOdd c_fDraw c_fPick, PySem.W.mg_of X G D.g_fOdd, F_fOdd.kp, b_fOdd, .nil⟩
  have c_fErrs : C8.Cal l.prog w K mg base 3 "_law_errors" (spErrors (csOf [c0, c1, c2, c3, c4, c5, c6, c7, c8, c9, c10, c11, c12, c13, c14, c15, c16, c17, c18, c19, c20, c21, c22, c23, c24])) [] := ⟨_, _, _, _, ok_errs F_fErrs EX, PySem.W.mg_of X G D.g_fErrs, F_fErrs.kp, b_fErrs, .nil⟩
  have c_fField : C8.Cal l.prog w K mg base 1 "_law_field" (spField K) [] := ⟨_, _, _, _, ok_field F_fField, PySem.W.mg_of X G D.g_fField, F_fField.kp, b_fField, .nil⟩
  have c_fKinds : C8.Cal l.prog w K mg base 2 "_law_kinds" (spKinds (csOf [c0, c1, c2, c3, c4, c5, c6, c7, c8, c9, c10, c11, c12, c13, c14, c15, c16, c17, c18, c19, c20, c21, c22, c23, c24])) [] := ⟨_, _, _, _, ok_kinds F_fKinds TB EX, PySem.W.mg_of X G D.g_fKinds, F_fKinds.kp, b_fKinds, .nil⟩
  have ORt : FnG l.prog w K mg base 11 fRight fd_fRight ["_law_made", "_law_used"] (spRight K) := ok_right F_fRight RX
  have OEr : FnG l.prog w K mg base 11 fER fd_fER ["_law_pen_here"] spER := ok_er F_fER TB TEx SB EX c_fErrs c_fOdd c_fKinds c_fField
  have LX : LawTxt l.prog w K mg base ⟨c0, c10, c11, c1⟩ ⟨dU, dM, dD⟩ CD fU fM fD :=
    { R := RX, FU := NN.fnR_less OU, FM := ⟨_, NN.fnOk_less OM, b_fM, k_M⟩, FD := NN.fnR_less OD
      most := fun C hC => by
        rcases hC with rfl | rfl | rfl | rfl
        · obtain ⟨t, e⟩ := D.mostCD
          exact ⟨.type "type", _, ⟨D.rdCD.rd, D.rdCD.ga⟩, ⟨e, ⟨_, rfl⟩⟩⟩
        · obtain ⟨t, e⟩ := D.mostdU
          exact ⟨.type "type", _, ⟨D.rddU.rd, D.rddU.ga⟩, ⟨e, ⟨_, rfl⟩⟩⟩
        · obtain ⟨t, e⟩ := D.mostdM
          exact ⟨.type "type", _, ⟨D.rddM.rd, D.rddM.ga⟩, ⟨e, ⟨_, rfl⟩⟩⟩
        · obtain ⟨t, e⟩ := D.mostdD
          exact ⟨.type "type", _, ⟨D.rddD.rd, D.rddD.ga⟩, ⟨e, ⟨_, rfl⟩⟩⟩
      subs := ⟨D.sDU, D.sDM⟩
      nfx := fun C E hC hE hh => by
        rcases hC with rfl | rfl | rfl <;> rcases hE with rfl | rfl | rfl
        · exact nU
        · exact x1
        · exact absurd (hh rfl) (of_decide_eq_false D.neU)
        · exact x2
        · exact nM
        · exact absurd (hh rfl) (of_decide_eq_false D.neM)
        · exact x3
        · exact x4
        · exact nD
      ne := ⟨of_decide_eq_false D.neU, of_decide_eq_false D.neM⟩
      pen := c_fPen, names := c_fNames, lot := c_fLot
      right := ⟨_, _, ORt, PySem.W.mg_of X G D.g_fRight, F_fRight.kp, b_fRight⟩
      er := ⟨_, _, OEr, PySem.W.mg_of X G D.g_fER, F_fER.kp, b_fER⟩ }
  exact ok_law F_fLaw LX
end
end K01

set_option Elab.async false
set_option linter.all false
set_option maxRecDepth 100000
set_option maxHeartbeats 0
namespace K01
open PySem PySem.W PySem.Calls PyProof.Rows NX K01H
theorem headF {h : Heap} {K : HK.Fg} (c : HK.Says K01H.fns [] K01H.ex h K) : HeadF K (a_CS K) (a_CD K) (a_pRd K) (a_pNm K) (a_pRm K) (a_c0 K) (a_c1 K) (a_c2 K) (a_c3 K) (a_c4 K) (a_c5 K) (a_c6 K) (a_c7 K) (a_c8 K) (a_c9 K) (a_c10 K) (a_c11 K) (a_c12 K) (a_c13 K) (a_c14 K) (a_c15 K) (a_c16 K) (a_c17 K) (a_c18 K) (a_c19 K) (a_c20 K) (a_c21 K) (a_c22 K) (a_c23 K) (a_c24 K) (a_dU K) (a_dM K) (a_dD K) (a_i0 K) (a_i1 K) (a_i2 K) (a_i3 K) (a_i4 K) (a_i5 K) (a_i6 K) (a_i7 K) (a_i8 K) (a_i9 K) (a_i10 K) (a_i11 K) (a_i12 K) (a_i13 K) (a_i14 K) (a_i15 K) (a_i16 K) (a_i17 K) (a_i23 K) (a_i24 K) (a_fU K) (a_fM K) (a_fD K) (a_fRd K) (a_fNm K) (a_fRm K) (a_fStr K) (a_fEq K) (a_fIs K) (a_fCns K) (a_fCun K) (a_fAsc K) (a_fCus K) (a_fOf K) (a_fPen K) (a_fDraw K) (a_fPick K) (a_fSome K) (a_fNames K) (a_fReal K) (a_fLot K) (a_fText K) (a_fRight K) (a_fOdd K) (a_fErrs K) (a_fField K) (a_fKinds K) (a_fER K) (a_fLaw K) :=
  ⟨HK.eqV_ok (c.at_ 0),
  HK.eqV_ok (c.at_ 1),
  HK.eqV_ok (c.at_ 2),
  HK.eqV_ok (c.at_ 3),
  HK.eqV_ok (c.at_ 4),
  HK.eqV_ok (c.at_ 5),
  HK.eqV_ok (c.at_ 6),
  HK.eqV_ok (c.at_ 7),
  HK.eqV_ok (c.at_ 8),
  HK.eqV_ok (c.at_ 9),
  HK.eqV_ok (c.at_ 10),
  HK.eqV_ok (c.at_ 11),
  HK.eqV_ok (c.at_ 12),
  HK.eqV_ok (c.at_ 13),
  HK.eqV_ok (c.at_ 14),
  HK.eqV_ok (c.at_ 15),
  HK.eqV_ok (c.at_ 16),
  HK.eqV_ok (c.at_ 17),
  HK.eqV_ok (c.at_ 18),
  HK.strB_ok (c.at_ 19),
  HK.intB_ok (c.at_ 20),
  HK.baseB_ok (c.at_ 21),
  HK.errB_ok (c.at_ 22),
  HK.errB_ok (c.at_ 23),
  HK.errB_ok (c.at_ 24),
  HK.errB_ok (c.at_ 25),
  HK.errB_ok (c.at_ 26),
  HK.errB_ok (c.at_ 27),
  HK.errB_ok (c.at_ 28),
  HK.errB_ok (c.at_ 29),
  HK.errB_ok (c.at_ 30),
  HK.errB_ok (c.at_ 31),
  HK.errB_ok (c.at_ 32),
  HK.errB_ok (c.at_ 33),
  HK.errB_ok (c.at_ 34),
  HK.eqV_ok (c.at_ 35),
  HK.errB_ok (c.at_ 36),
  HK.eqV_ok (c.at_ 37),
  HK.errB_ok (c.at_ 38),
  HK.errB_ok (c.at_ 39),
  HK.errB_ok (c.at_ 40),
  HK.eqV_ok (c.at_ 41),
  HK.errB_ok (c.at_ 42),
  HK.eqV_ok (c.at_ 43),
  HK.eqV_ok (c.at_ 44),
  HK.eqV_ok (c.at_ 45),
  HK.eqV_ok (c.at_ 46),
  c.at_ 47,
  c.at_ 48,
  HK.eqV_ok (c.at_ 49),
  HK.eqV_ok (c.at_ 50),
  HK.eqB_ok (c.at_ 51),
  c.at_ 52,
  HK.eqV_ok (c.at_ 53),
  HK.eqB_ok (c.at_ 54),
  HK.eqV_ok (c.at_ 55),
  c.at_ 56,
  c.at_ 57,
  HK.eqV_ok (c.at_ 58),
  HK.eqV_ok (c.at_ 59),
  HK.eqB_ok (c.at_ 60),
  c.at_ 61,
  HK.eqV_ok (c.at_ 62),
  HK.eqB_ok (c.at_ 63),
  HK.eqV_ok (c.at_ 64),
  c.at_ 65,
  c.at_ 66,
  HK.eqV_ok (c.at_ 67),
  HK.eqV_ok (c.at_ 68),
  HK.eqB_ok (c.at_ 69),
  c.at_ 70,
  HK.eqV_ok (c.at_ 71),
  HK.eqB_ok (c.at_ 72),
  HK.eqV_ok (c.at_ 73),
  c.at_ 74,
  c.at_ 75,
  HK.eqV_ok (c.at_ 76),
  HK.eqV_ok (c.at_ 77),
  HK.eqB_ok (c.at_ 78),
  c.at_ 79,
  HK.eqV_ok (c.at_ 80),
  HK.eqB_ok (c.at_ 81),
  HK.eqV_ok (c.at_ 82),
  c.at_ 83,
  c.at_ 84,
  HK.eqV_ok (c.at_ 85),
  HK.eqV_ok (c.at_ 86),
  HK.eqB_ok (c.at_ 87),
  c.at_ 88,
  HK.eqV_ok (c.at_ 89),
  HK.eqB_ok (c.at_ 90),
  HK.errB_ok (c.at_ 91),
  HK.eqV_ok (c.at_ 92),
  HK.errB_ok (c.at_ 93),
  c.at_ 94,
  c.at_ 95,
  c.at_ 96,
  c.at_ 97,
  HK.clsB_ok (c.at_ 98),
  HK.eqV_ok (c.at_ 99),
  HK.eqV_ok (c.at_ 100),
  HK.eqV_ok (c.at_ 101),
  HK.eqV_ok (c.at_ 102),
  HK.eqB_ok (c.at_ 103),
  HK.eqB_ok (c.at_ 104),
  HK.eqV_ok (c.at_ 105),
  HK.eqV_ok (c.at_ 106),
  HK.eqV_ok (c.at_ 107),
  HK.eqV_ok (c.at_ 108),
  HK.eqV_ok (c.at_ 109),
  c.at_ 110,
  HK.clsB_ok (c.at_ 111),
  HK.eqV_ok (c.at_ 112),
  HK.eqV_ok (c.at_ 113),
  HK.eqV_ok (c.at_ 114),
  HK.eqV_ok (c.at_ 115),
  HK.eqB_ok (c.at_ 116),
  HK.eqB_ok (c.at_ 117),
  HK.eqV_ok (c.at_ 118),
  HK.eqV_ok (c.at_ 119),
  HK.eqV_ok (c.at_ 120),
  HK.eqV_ok (c.at_ 121),
  HK.eqV_ok (c.at_ 122),
  c.at_ 123,
  HK.clsB_ok (c.at_ 124),
  HK.eqV_ok (c.at_ 125),
  HK.eqV_ok (c.at_ 126),
  HK.eqV_ok (c.at_ 127),
  HK.eqV_ok (c.at_ 128),
  HK.eqB_ok (c.at_ 129),
  HK.eqB_ok (c.at_ 130),
  HK.eqV_ok (c.at_ 131),
  HK.eqV_ok (c.at_ 132),
  HK.eqV_ok (c.at_ 133),
  HK.eqV_ok (c.at_ 134),
  HK.eqV_ok (c.at_ 135),
  c.at_ 136,
  c.at_ 137,
  c.at_ 138,
  HK.eqV_ok (c.at_ 139),
  HK.eqB_ok (c.at_ 140),
  HK.recB_ok (c.at_ 141),
  HK.eqV_ok (c.at_ 142),
  HK.eqB_ok (c.at_ 143),
  HK.recB_ok (c.at_ 144),
  c.at_ 145,
  HK.eqB_ok (c.at_ 146),
  HK.eqB_ok (c.at_ 147),
  HK.eqB_ok (c.at_ 148),
  HK.eqB_ok (c.at_ 149),
  HK.eqB_ok (c.at_ 150),
  HK.eqB_ok (c.at_ 151),
  HK.eqB_ok (c.at_ 152),
  HK.eqB_ok (c.at_ 153),
  HK.eqB_ok (c.at_ 154),
  HK.eqB_ok (c.at_ 155),
  HK.eqB_ok (c.at_ 156),
  HK.eqB_ok (c.at_ 157),
  HK.eqB_ok (c.at_ 158),
  HK.notB_ok (c.at_ 159),
  HK.notB_ok (c.at_ 160),
  HK.eqV_ok (c.at_ 161),
  HK.rdB_ok (c.at_ 162),
  HK.cvalI_ok (c.at_ 163),
  HK.rdB_ok (c.at_ 164),
  HK.cvalI_ok (c.at_ 165),
  HK.rdB_ok (c.at_ 166),
  HK.cvalI_ok (c.at_ 167),
  HK.rdB_ok (c.at_ 168),
  HK.cvalI_ok (c.at_ 169),
  HK.cmB_ok (c.at_ 170),
  HK.fnF_of (c.def_ 0),
  HK.fnF_of (c.def_ 1),
  HK.fnF_of (c.def_ 2),
  HK.fnF_of (c.def_ 3),
  HK.fnF_of (c.def_ 4),
  HK.fnF_of (c.def_ 5),
  HK.fnF_of (c.def_ 6),
  HK.fnF_of (c.def_ 7),
  HK.fnF_of (c.def_ 8),
  HK.fnF_of (c.def_ 9),
  HK.fnF_of (c.def_ 10),
  HK.fnF_of (c.def_ 11),
  HK.fnF_of (c.def_ 12),
  HK.fnF_of (c.def_ 13),
  HK.fnF_of (c.def_ 14),
  HK.fnF_of (c.def_ 15),
  HK.fnF_of (c.def_ 16),
  HK.fnF_of (c.def_ 17),
  HK.fnF_of (c.def_ 18),
  HK.fnF_of (c.def_ 19),
  HK.fnF_of (c.def_ 20),
  HK.fnF_of (c.def_ 21),
  HK.fnF_of (c.def_ 22),
  HK.fnF_of (c.def_ 23),
  HK.fnF_of (c.def_ 24),
  HK.fnF_of (c.def_ 25),
  HK.fnF_of (c.def_ 26),
  HK.fnF_of (c.def_ 27),
  HK.eqV_ok (c.at_ 171),
  HK.fnF_of (c.def_ 28),
  HK.eqV_ok (c.at_ 172),
  HK.fnF_of (c.def_ 29),
  HK.eqV_ok (c.at_ 173),
  HK.fnF_of (c.def_ 30),
  HK.eqV_ok (c.at_ 174),
  HK.fnF_of (c.def_ 31),
  HK.eqV_ok (c.at_ 175),
  HK.fnF_of (c.def_ 32),
  HK.eqV_ok (c.at_ 176),
  HK.fnF_of (c.def_ 33),
  HK.eqV_ok (c.at_ 177),
  HK.fnF_of (c.def_ 34),
  HK.eqV_ok (c.at_ 178),
  HK.fnF_of (c.def_ 35),
  HK.eqV_ok (c.at_ 179),
  HK.fnF_of (c.def_ 36),
  HK.eqV_ok (c.at_ 180),
  HK.fnF_of (c.def_ 37),
  HK.eqV_ok (c.at_ 181),
  HK.fnF_of (c.def_ 38),
  HK.eqV_ok (c.at_ 182),
  HK.fnF_of (c.def_ 39),
  HK.eqV_ok (c.at_ 183),
  HK.fnF_of (c.def_ 40),
  HK.eqV_ok (c.at_ 184),
  HK.fnF_of (c.def_ 41),
  HK.eqV_ok (c.at_ 185),
  HK.fnF_of (c.def_ 42),
  HK.eqV_ok (c.at_ 186),
  HK.fnF_of (c.def_ 43),
  HK.eqV_ok (c.at_ 187),
  HK.fnF_of (c.def_ 44),
  HK.eqV_ok (c.at_ 188),
  HK.fnF_of (c.def_ 45),
  HK.eqV_ok (c.at_ 189),
  HK.fnF_of (c.def_ 46),
  HK.eqV_ok (c.at_ 190),
  HK.fnF_of (c.def_ 47),
  HK.eqV_ok (c.at_ 191),
  HK.fnF_of (c.def_ 48)⟩
end K01
open PySem PySem.W PySem.Calls PyProof.Rows
theorem PySem.Challenge.cw_loopstow_k01_deeds_holds : PySem.Challenge.rw_loopstow_k01_deeds.Holds := by
  w_on; o_law
  refine HandSHeadRun.head_any (r := OpenLaw.row PySem.Challenge.rw_loopstow_k01_deeds) (q := view (OpenLaw.row PySem.Challenge.rw_loopstow_k01_deeds).prog [57]) (H := K01H.hk) (ob := K01H.ob) (M := 20000) (loose := K01H.loose) (d := HandSHeadRun.topDef (OpenLaw.row PySem.Challenge.rw_loopstow_k01_deeds).prog 57) (kwd := []) (fun s => HK.obs_eq s)
    (by kernel_rfl) (fun s => by kernel_rfl) K01H.run (by kernel_rfl) (by kernel_rfl) (by kernel_rfl) (by rfl) (by first | assumption | decide +kernel) (by decide +kernel) ⟨rfl, rfl, rfl, rfl, rfl, by decide +kernel⟩ ?hw ?hc
  case hw => w_witness2
  case hc =>
    refine HK.walkGE (l := PySem.Challenge.rw_loopstow_k01_deeds) (n := 63) (k := 13) (x := "_law_script") rfl (by decide) (by kernel_rfl) ⟨rfl, by decide, by decide⟩ (by rfl) ?G
    intro w mg fa h Y G hmg0
    obtain ⟨K, KX, c⟩ := Y
    have hmg : mg ("law" : PySem.Str) = some (.ref fa) := by
      have e : (HandSHeadRun.topDef (OpenLaw.row PySem.Challenge.rw_loopstow_k01_deeds).prog 57).name = ("law" : PySem.Str) := by kernel_rfl
      rw [← e]
      exact hmg0
    exact ⟨K, KX, (K01.headF c).law KX G hmg⟩
